/-
  A Wreck in memory; the walks of vaultkeep's sound and wrecked.
  The walks of vaultkeep's wrecked and may.
  The walk of vaultkeep's with.
  The walk of vaultkeep's rest.
-/
import Derived.Test.YtadinjaocnlglaaGreatDoorZ41
import Derived.Test.YtadinjaocnlglaaGreatDoorZ43
import Derived.BigRegion
import Derived.BigQuiet
namespace Go.Proofs.YtadinjaocnlglaaGreatDoor
open Go.RowKit
set_option maxRecDepth 100000
set_option maxHeartbeats 4000000
theorem sound_any (x gf cf gp cp K M C V ns nb : Nat) (pl : Nat → Nat) (w : World) (h : Pln x gf cf gp cp K M C V ns nb pl w) (hV : V ≤ 1000) (hp : ∀ v, v < V → pl v ≤ 1000000000) :
    Calls Tryz.prog 31 #[.pointer (some ⟨x, 0, none⟩)] w fun e w' => e = .returned (.bool true) ∧ ∃ m, w' = w.drewN m := by
  have c3 : w.cell? ⟨x, 3, none⟩ = some (.int .i64 V) := cell_of_row _ _ _ _ 84 _ h.row
  have c7 : w.cell? ⟨x, 7, none⟩ = some (.slice (some ⟨gp, 0, none⟩) V cp) := cell_of_row _ _ _ _ 84 _ h.row
  have HP : Hid _ := h.plc
  have HS : Hid _ := hp
  clear h hp
  go_enter Tryz.func31, Tryz.ntmps31
  go_wp2_with fail
  go_loopw [3] (fun iv wr => ∃ i : Nat, i ≤ V ∧ iv = .int .i64 i ∧ wr = w) (fun iv _ => V - (intOf iv).toNat)
  case atStart => exact ⟨0, by omega, rfl, rfl⟩
  case round =>
    obtain ⟨i, hi, rfl, hw⟩ := hrel
    subst hw
    by_cases hlt : i < V
    · have hin : (i : Int) < (V : Int) := by omega
      have p := HP.out i hlt
      have hs := HS.out i hlt
      obtain ⟨P, hP⟩ : ∃ P, pl i = P := ⟨_, rfl⟩
      rw [hP] at p hs
      clear hP
      have hneg : ¬ (P : Int) < 0 := by omega
      go_wp2_with fail
      go_roundw
      case rel => exact ⟨i + 1, by omega, by go_num, by first | rfl | trivial⟩
      case measure => simp [intOf]; omega
    · have hin : ¬ (i : Int) < (V : Int) := by omega
      obtain rfl : i = V := by omega
      go_wp2_with fail
      go_quiet (fail)
      go_wp2_with fail
      go_ret
      exact ⟨rfl, _, rfl⟩
/-- a Wreck -/
structure Wrk (B wb gl go gc cc x gf cf gp cp K M C V ns nb : Nat) (pl : Nat → Nat) (lost out : Nat → Bool) (cut : Nat → Nat) (w : World) : Prop where
  pln : Pln x gf cf gp cp K M C V ns nb pl w
  row : w.heap[wb]? = some (.cells #[.pointer (some ⟨x, 0, none⟩), .slice (some ⟨gl, 0, none⟩) nb nb, .slice (some ⟨go, 0, none⟩) V V, .slice (some ⟨gc, 0, none⟩) V cc] 96 (0, 0))
  ls : Rw w gl nb 4 (fun i => .bool (lost i))
  ou : Rw w go V 4 (fun i => .bool (out i))
  ct : ∃ cs : Array Value, w.heap[gc]? = some (.cells cs 3 (0, 0)) ∧ ∀ v, v < V → cs[v]? = some (.int .i64 ((cut v : Nat) : Int))
  ne : gl ≠ go
  lo : x < B ∧ gf < B ∧ gp < B
  hi : B ≤ wb ∧ B ≤ gl ∧ B ≤ go ∧ B ≤ gc
section
variable {B wb gl go gc cc x gf cf gp cp K M C V ns nb : Nat} {pl : Nat → Nat} {lost out : Nat → Bool} {cut : Nat → Nat} {w w' : World}
theorem Wrk.lt (h : Wrk B wb gl go gc cc x gf cf gp cp K M C V ns nb pl lost out cut w) : wb < w.heap.size ∧ gl < w.heap.size ∧ go < w.heap.size ∧ gc < w.heap.size := by
  obtain ⟨cs, hc, _⟩ := h.ct
  exact ⟨(Array.getElem?_eq_some_iff.1 h.row).1, h.ls.lt, h.ou.lt, (Array.getElem?_eq_some_iff.1 hc).1⟩
theorem Wrk.apart (h : Wrk B wb gl go gc cc x gf cf gp cp K M C V ns nb pl lost out cut w) : wb ≠ gl ∧ wb ≠ go ∧ wb ≠ gc ∧ gl ≠ gc ∧ go ≠ gc := by
  obtain ⟨cs, hc, _⟩ := h.ct
  exact ⟨row_ne h.row h.ls (by decide), row_ne h.row h.ou (by decide), row_ne h.row hc (by decide), row_ne h.ls hc (by decide), row_ne h.ou hc (by decide)⟩
theorem Wrk.kept (h : Wrk B wb gl go gc cc x gf cf gp cp K M C V ns nb pl lost out cut w) (hk : ∀ j, j = x ∨ j = gf ∨ j = gp ∨ j = wb ∨ j = gl ∨ j = go ∨ j = gc → w'.heap[j]? = w.heap[j]?) : Wrk B wb gl go gc cc x gf cf gp cp K M C V ns nb pl lost out cut w' where
  pln := h.pln.kept (fun j hj => hk j (by rcases hj with e | e | e <;> simp [e]))
  row := (hk wb (by simp)).trans h.row
  ls := (hk gl (by simp)).trans h.ls
  ou := (hk go (by simp)).trans h.ou
  ct := by
    obtain ⟨cs, hc, hv⟩ := h.ct
    exact ⟨cs, (hk gc (by simp)).trans hc, hv⟩
  ne := h.ne
  lo := h.lo
  hi := h.hi
theorem Wrk.below (h : Wrk B wb gl go gc cc x gf cf gp cp K M C V ns nb pl lost out cut w) (hb : Below w.heap.size w w') : Wrk B wb gl go gc cc x gf cf gp cp K M C V ns nb pl lost out cut w' := by
  obtain ⟨l1, l2, l3, l4⟩ := h.lt
  obtain ⟨k1, k2, k3⟩ := h.lo
  obtain ⟨m1, _⟩ := h.hi
  exact h.kept (fun j hj => hb.block j (by rcases hj with e | e | e | e | e | e | e <;> omega))
theorem Wrk.cell (h : Wrk B wb gl go gc cc x gf cf gp cp K M C V ns nb pl lost out cut w) {v : Nat} (hv : v < V) : w.cell? ⟨gc, v, none⟩ = some (.int .i64 ((cut v : Nat) : Int)) := by
  obtain ⟨cs, hc, hcs⟩ := h.ct
  rw [cell_of_row w gc v cs 3 _ hc]
  exact hcs v hv
theorem Wrk.free (h : Wrk B wb gl go gc cc x gf cf gp cp K M C V ns nb pl lost out cut w) (v : Nat) : w.frozen? ⟨gc, v, none⟩ = false := by
  obtain ⟨cs, hc, hcs⟩ := h.ct
  exact frozen_of_row w gc v cs 3 hc
theorem Wrk.setLost (h : Wrk B wb gl go gc cc x gf cf gp cp K M C V ns nb pl lost out cut w) (i : Nat) : Wrk B wb gl go gc cc x gf cf gp cp K M C V ns nb pl (updB lost i true) out cut (w.setCell ⟨gl, i, none⟩ (.bool true)) := by
  obtain ⟨a1, a2, a3, a4, a5⟩ := h.apart
  obtain ⟨k1, k2, k3⟩ := h.lo
  obtain ⟨m1, m2, m3, m4⟩ := h.hi
  have hne := h.ne
  have hk : ∀ j, j ≠ gl → (w.setCell ⟨gl, i, none⟩ (.bool true)).heap[j]? = w.heap[j]? := fun j hj => set_other _ _ _ _ _ hj
  exact {
    pln := h.pln.kept (fun j hj => hk j (by rcases hj with e | e | e <;> omega))
    row := (hk wb (by omega)).trans h.row
    ls := (h.ls.put i (.bool true)).to (fun j _ => by
      unfold updV updB
      split <;> rfl)
    ou := (hk go (by omega)).trans h.ou
    ct := by
      obtain ⟨cs, hc, hv⟩ := h.ct
      exact ⟨cs, (hk gc (by omega)).trans hc, hv⟩
    ne := hne
    lo := h.lo
    hi := h.hi }
theorem Wrk.setOut (h : Wrk B wb gl go gc cc x gf cf gp cp K M C V ns nb pl lost out cut w) (i : Nat) : Wrk B wb gl go gc cc x gf cf gp cp K M C V ns nb pl lost (updB out i true) cut (w.setCell ⟨go, i, none⟩ (.bool true)) := by
  obtain ⟨a1, a2, a3, a4, a5⟩ := h.apart
  obtain ⟨k1, k2, k3⟩ := h.lo
  obtain ⟨m1, m2, m3, m4⟩ := h.hi
  have hne := h.ne
  have hk : ∀ j, j ≠ go → (w.setCell ⟨go, i, none⟩ (.bool true)).heap[j]? = w.heap[j]? := fun j hj => set_other _ _ _ _ _ hj
  exact {
    pln := h.pln.kept (fun j hj => hk j (by rcases hj with e | e | e <;> omega))
    row := (hk wb (by omega)).trans h.row
    ls := (hk gl (by omega)).trans h.ls
    ou := (h.ou.put i (.bool true)).to (fun j _ => by
      unfold updV updB
      split <;> rfl)
    ct := by
      obtain ⟨cs, hc, hv⟩ := h.ct
      exact ⟨cs, (hk gc (by omega)).trans hc, hv⟩
    ne := hne
    lo := h.lo
    hi := h.hi }
theorem Wrk.setCut (h : Wrk B wb gl go gc cc x gf cf gp cp K M C V ns nb pl lost out cut w) (i f : Nat) : Wrk B wb gl go gc cc x gf cf gp cp K M C V ns nb pl lost out (updC cut i f) (w.setCell ⟨gc, i, none⟩ (.int .i64 ((f : Nat) : Int))) := by
  obtain ⟨a1, a2, a3, a4, a5⟩ := h.apart
  obtain ⟨k1, k2, k3⟩ := h.lo
  obtain ⟨m1, m2, m3, m4⟩ := h.hi
  have hne := h.ne
  have hk : ∀ j, j ≠ gc → (w.setCell ⟨gc, i, none⟩ (.int .i64 ((f : Nat) : Int))).heap[j]? = w.heap[j]? := fun j hj => set_other _ _ _ _ _ hj
  exact {
    pln := h.pln.kept (fun j hj => hk j (by rcases hj with e | e | e <;> omega))
    row := (hk wb (by omega)).trans h.row
    ls := (hk gl (by omega)).trans h.ls
    ou := (hk go (by omega)).trans h.ou
    ct := by
      obtain ⟨cs, hc, hv⟩ := h.ct
      refine ⟨_, set_heap _ _ _ _ _ _ _ hc, fun v hv2 => ?_⟩
      have e := hv v hv2
      have hl : v < cs.size := (Array.getElem?_eq_some_iff.1 e).1
      rw [Array.getElem?_setIfInBounds]
      unfold updC
      by_cases ev : i = v
      · subst ev; rw [if_pos rfl, if_pos hl, if_pos rfl]
      · rw [if_neg ev, if_neg (fun e => ev e.symm)]; exact e
    ne := hne
    lo := h.lo
    hi := h.hi }
end
/-- a Wreck in the making -/
structure WN (w0 : World) (wb gl go x V nb : Nat) (cv : Value) (l : List Nat) (w : World) : Prop where
  row : w.heap[wb]? = some (.cells #[.pointer (some ⟨x, 0, none⟩), .slice (some ⟨gl, 0, none⟩) nb nb, .slice (some ⟨go, 0, none⟩) V V, cv] 96 (0, 0))
  ls : Rw w gl nb 4 (fun _ => .bool false)
  ou : Rw w go V 4 (fun _ => .bool false)
  ct : w.ownsRow w0.heap.size 3 1 cv l.length (unV l)
  bel : Below w0.heap.size w0 w
  lo : w0.heap.size ≤ wb ∧ w0.heap.size ≤ gl ∧ w0.heap.size ≤ go
  ne : gl ≠ go
theorem WN.app {w0 : World} {wb gl go x V nb : Nat} {cv : Value} {l : List Nat} {w : World} (h : WN w0 wb gl go x V nb cv l w) (y : Nat) (hl : l.length ≤ 1000) :
    ∃ v' w2, (Builtin.append_ #[39, 39] 39 #[cv, .slice (some ⟨w.heap.size, 0, none⟩) 1 1]).run Tryz.prog (w.alloc (.cells #[.int .i64 y] 3)) = .ok v' w2 ∧ WN w0 wb gl go x V nb v' (l ++ [y]) (w2.setCell ⟨wb, 3, none⟩ v') ∧ w2.heap[wb]? = some (.cells #[.pointer (some ⟨x, 0, none⟩), .slice (some ⟨gl, 0, none⟩) nb nb, .slice (some ⟨go, 0, none⟩) V V, cv] 96 (0, 0)) := by
  obtain ⟨v', w2, hrun, ho, hr, hr2, hk, hb, hbel⟩ := fld_app (k := 3) y h.row (by decide) h.ct h.bel.size (by omega)
  have hk2 : ∀ (g : Nat) (cs : Array Value), w.heap[g]? = some (Obj.cells cs 4 (0, 0)) → (w2.setCell ⟨wb, 3, none⟩ v').heap[g]? = w.heap[g]? := fun (g : Nat) (cs : Array Value) hg =>
    hk g (Array.getElem?_eq_some_iff.1 hg).1 (row_ne hg h.row (by decide)) (fun e => by
      obtain ⟨cur, hcur⟩ := own_type h.ct g e
      exact row_ne hg hcur (by decide) rfl)
  refine ⟨v', w2, hrun, ⟨hr2, (hk2 gl _ h.ls).trans h.ls, (hk2 go _ h.ou).trans h.ou, ho, hbel h.lo.1 _ h.bel, h.lo, h.ne⟩, hr⟩
theorem WN.done {w0 : World} {wb gl go x V nb : Nat} {cv : Value} {w : World} (h : WN w0 wb gl go x V nb cv ((List.range V).map (fun v => (v + 1) * nb / V)) w) (hV : 1 ≤ V) {gf cf gp cp K M C ns : Nat} {pl : Nat → Nat} (hP : Pln x gf cf gp cp K M C V ns nb pl w0) :
    ∃ gc cc, Wrk w0.heap.size wb gl go gc cc x gf cf gp cp K M C V ns nb pl (fun _ => false) (fun _ => false) (fun v => (v + 1) * nb / V) w := by
  have hct := h.ct
  have hl : ((List.range V).map (fun v => (v + 1) * nb / V)).length = V := by simp
  rw [hl] at hct
  obtain ⟨a, cc, rfl⟩ := own_shape hct
  obtain ⟨gc, rfl, hB, hc⟩ := unV_cells hct (by omega)
  obtain ⟨cs, hcs⟩ := own_type hct gc rfl
  refine ⟨gc, cc, ⟨hP.below (hP.lt hV) h.bel, h.row, h.ls, h.ou, ⟨cs, hcs, fun v hv => ?_⟩, h.ne, hP.lt hV, h.lo.1, h.lo.2.1, h.lo.2.2, hB⟩⟩
  have := hc v (by rw [hl]; exact hv)
  rw [cell_of_row w gc v cs 3 _ hcs] at this
  rw [this]
  simp
end Go.Proofs.YtadinjaocnlglaaGreatDoor
namespace Go.Proofs.YtadinjaocnlglaaGreatDoor
open Go.RowKit
set_option maxRecDepth 100000
set_option maxHeartbeats 4000000
theorem may_any {B wb gl go gc cc x gf cf gp cp K M C V ns nb : Nat} {pl : Nat → Nat} {lost out : Nat → Bool} {cut : Nat → Nat} {w : World} (h : Wrk B wb gl go gc cc x gf cf gp cp K M C V ns nb pl lost out cut w) (hK : K ≤ 5) (hM : M ≤ 3) (hnb : nb ≤ 1000) (hns : ns * (K + M) = nb) (hns2 : ns ≤ 1000) (a b : Nat) :
    Calls Tryz.prog 76 #[.pointer (some ⟨wb, 0, none⟩), .int .i64 a, .int .i64 b] w fun e w' => e = .returned (.bool (mayB K M ns lost a b)) ∧ ∃ m, w' = w.drewN m := by
  have r0 : w.cell? ⟨wb, 0, none⟩ = some (.pointer (some ⟨x, 0, none⟩)) := cell_of_row _ _ _ _ 96 _ h.row
  have r1 : w.cell? ⟨wb, 1, none⟩ = some (.slice (some ⟨gl, 0, none⟩) nb nb) := cell_of_row _ _ _ _ 96 _ h.row
  have c0 : w.cell? ⟨x, 0, none⟩ = some (.int .i64 K) := cell_of_row _ _ _ _ 84 _ h.pln.row
  have c1 : w.cell? ⟨x, 1, none⟩ = some (.int .i64 M) := cell_of_row _ _ _ _ 84 _ h.pln.row
  have c4 : w.cell? ⟨x, 4, none⟩ = some (.int .i64 ns) := cell_of_row _ _ _ _ 84 _ h.pln.row
  have HL : Hid (∀ i, i < nb → w.cell? ⟨gl, i, none⟩ = some (.bool (lost i))) := fun i hi => h.ls.cell i hi
  have HY : Hid (May K M ns lost a b → mayB K M ns lost a b = true) := mayB_yes
  have HN : Hid (∀ s, s < ns → M < cnt (fun i => mkB lost a b (s * (K + M) + i)) (K + M) → mayB K M ns lost a b = false) := fun s hs => mayB_no hs
  unfold May at HY
  obtain ⟨mb, hmb⟩ : ∃ mb, mayB K M ns lost a b = mb := ⟨_, rfl⟩
  rw [hmb] at HY HN ⊢
  obtain ⟨n, hn⟩ : ∃ n, K + M = n := ⟨_, rfl⟩
  rw [hn] at hns HY HN
  have en : (K : Int) + (M : Int) = (n : Int) := by omega
  have hn8 : n ≤ 8 := by omega
  have HNS : Hid _ := hns
  clear h hn hns hmb
  go_enter Tryz.func76, Tryz.ntmps76
  go_wp2_with fail
  go_quiet (fail)
  go_wp2_with fail
  obtain ⟨W, hW⟩ : ∃ W, w.drewN nq = W := ⟨_, rfl⟩
  have R0 : W.cell? ⟨wb, 0, none⟩ = some (.pointer (some ⟨x, 0, none⟩)) := by rw [← hW]; exact r0
  have R1 : W.cell? ⟨wb, 1, none⟩ = some (.slice (some ⟨gl, 0, none⟩) nb nb) := by rw [← hW]; exact r1
  have C1 : W.cell? ⟨x, 1, none⟩ = some (.int .i64 M) := by rw [← hW]; exact c1
  have C4 : W.cell? ⟨x, 4, none⟩ = some (.int .i64 ns) := by rw [← hW]; exact c4
  have HLW : Hid (∀ i, i < nb → W.cell? ⟨gl, i, none⟩ = some (.bool (lost i))) := fun i hi => by rw [← hW]; exact HL.out i hi
  rw [hW]
  have HWE : Hid _ := hW
  clear hW r0 r1 c0 c1 c4 HL en
  obtain ⟨cf', hcf'⟩ : ∃ f : Nat → Nat → Nat, f = fun s j => cnt (fun i => mkB lost a b (s * n + i)) j := ⟨_, rfl⟩
  have HC0 : Hid (∀ s, cf' s 0 = 0) := fun s => by rw [hcf']; rfl
  have HCS : Hid (∀ s j, cf' s (j + 1) = cf' s j + (if mkB lost a b (s * n + j) = true then 1 else 0)) := fun s j => by rw [hcf']; rfl
  have HCL : Hid (∀ s j, cf' s j ≤ j) := fun s j => by rw [hcf']; exact cnt_le _ _
  have HY2 : Hid ((∀ s, s < ns → cf' s n ≤ M) → mb = true) := by rw [hcf']; exact HY.out
  have HN2 : Hid (∀ s, s < ns → M < cf' s n → mb = false) := by rw [hcf']; exact HN.out
  clear hcf' HY HN
  go_loopw [8] (fun sv wr => ∃ s : Nat, s ≤ ns ∧ sv = .int .i64 s ∧ (∀ t, t < s → cf' t n ≤ M) ∧ wr = W) (fun sv _ => ns - (intOf sv).toNat)
  case atStart => exact ⟨0, by omega, rfl, fun t ht => absurd ht (by omega), rfl⟩
  case round =>
    obtain ⟨s, hs, rfl, hall, hw⟩ := hrel
    subst hw
    have HALL : Hid _ := hall
    clear hall
    by_cases hlt : s < ns
    · have hin : (s : Int) < (ns : Int) := by omega
      have hsn : (s + 1) * n ≤ ns * n := Nat.mul_le_mul_right _ hlt
      rw [HNS.out, Nat.succ_mul] at hsn
      obtain ⟨t, ht⟩ : ∃ t, s * n = t := ⟨_, rfl⟩
      have e1 : (s : Int) * (n : Int) = (t : Int) := by rw [← ht]; simp
      obtain ⟨U, hU⟩ : ∃ U, t + n = U := ⟨_, rfl⟩
      have e2 : ((s : Int) + 1) * (n : Int) = (U : Int) := by rw [Int.add_mul, e1]; omega
      rw [ht, hU] at hsn
      have u1 : IntKind.i64.wrap (t : Int) = (t : Int) := by rw [IntKind.wrap_i64]; omega
      have u2 : IntKind.i64.wrap (U : Int) = (U : Int) := by rw [IntKind.wrap_i64]; omega
      have u3 : IntKind.i64.wrap ((s : Int) + 1) = (s : Int) + 1 := by rw [IntKind.wrap_i64]; omega
      have HT : Hid _ := ht
      clear ht
      go_wp2_with fail
      go_loopw [9, 10] (fun nv iv wi => ∃ j : Nat, j ≤ n ∧ nv = .int .i64 (cf' s j : Nat) ∧ iv = .int .i64 ((t + j : Nat) : Int) ∧ wi = wr) (fun _ iv _ => U - (intOf iv).toNat)
      case atStart => exact ⟨0, by omega, by rw [HC0.out]; rfl, by first | rfl | simp, rfl⟩
      case round =>
        obtain ⟨j, hj, rfl, rfl, hw⟩ := hrel
        subst hw
        obtain ⟨X, hX⟩ : ∃ X, t + j = X := ⟨_, rfl⟩
        rw [hX]
        have hcl := HCL.out s j
        obtain ⟨cj, hcj⟩ : ∃ cj, cf' s j = cj := ⟨_, rfl⟩
        rw [hcj] at hcl ⊢
        by_cases hjn : j < n
        · have hXU : (X : Int) < (U : Int) := by omega
          have hXn : X < nb := by omega
          have g1 := HLW.out X hXn
          obtain ⟨lx, hlx⟩ : ∃ lx, lost X = lx := ⟨_, rfl⟩
          rw [hlx] at g1
          have hst := HCS.out s j
          rw [HT.out, hX, hcj] at hst
          have u4 : IntKind.i64.wrap ((X : Int) + 1) = (X : Int) + 1 := by rw [IntKind.wrap_i64]; omega
          have u5 : IntKind.i64.wrap ((cj : Int) + 1) = (cj : Int) + 1 := by rw [IntKind.wrap_i64]; omega
          unfold mkB at hst
          rw [hlx] at hst
          have HST : Hid _ := hst
          clear hst hlx hcj
          cases lx
          · by_cases q1 : a ≤ X
            · have q1' : (a : Int) ≤ (X : Int) := by omega
              by_cases q2 : X < b
              · have q2' : (X : Int) < (b : Int) := by omega
                have HE : Hid (cf' s (j + 1) = cj + 1) := by show _ = _; rw [HST.out, decide_eq_true q1, decide_eq_true q2]; rfl
                go_wp2_with fail
                go_roundw
                case rel => exact ⟨j + 1, by omega, by rw [HE.out]; go_num, by go_num, by first | rfl | trivial⟩
                case measure => simp [intOf]; omega
              · have q2' : ¬ (X : Int) < (b : Int) := by omega
                have HE : Hid (cf' s (j + 1) = cj) := by show _ = _; rw [HST.out, decide_eq_true q1, decide_eq_false q2]; rfl
                go_wp2_with fail
                go_roundw
                case rel => exact ⟨j + 1, by omega, by rw [HE.out], by go_num, by first | rfl | trivial⟩
                case measure => simp [intOf]; omega
            · have q1' : ¬ (a : Int) ≤ (X : Int) := by omega
              have HE : Hid (cf' s (j + 1) = cj) := by show _ = _; rw [HST.out, decide_eq_false q1]; rfl
              go_wp2_with fail
              go_roundw
              case rel => exact ⟨j + 1, by omega, by rw [HE.out], by go_num, by first | rfl | trivial⟩
              case measure => simp [intOf]; omega
          · have HE : Hid (cf' s (j + 1) = cj + 1) := by show _ = _; rw [HST.out]; rfl
            go_wp2_with fail
            go_roundw
            case rel => exact ⟨j + 1, by omega, by rw [HE.out]; go_num, by go_num, by first | rfl | trivial⟩
            case measure => simp [intOf]; omega
        · have hXU : ¬ (X : Int) < (U : Int) := by omega
          obtain rfl : j = n := by omega
          by_cases q : M < cj
          · have q' : (M : Int) < (cj : Int) := by omega
            have HF : Hid (mb = false) := HN2.out s hlt (by rw [hcj]; exact q)
            clear hcj
            go_wp2_with fail
            go_ret
            exact ⟨by rw [HF.out]; rfl, _, HWE.out.symm⟩
          · have q' : ¬ (M : Int) < (cj : Int) := by omega
            have HM : Hid (cf' s j ≤ M) := by show _ ≤ _; rw [hcj]; omega
            clear hcj
            go_wp2_with fail
            go_roundw
            case rel => exact ⟨s + 1, by omega, by go_num, fun r hr => by
              by_cases e : r = s
              · subst e; exact HM.out
              · exact HALL.out r (by omega), by first | rfl | trivial⟩
            case measure => simp [intOf]; omega
    · have hin : ¬ (s : Int) < (ns : Int) := by omega
      obtain rfl : s = ns := by omega
      have HF : Hid (mb = true) := HY2.out HALL.out
      go_wp2_with fail
      go_ret
      exact ⟨by rw [HF.out]; rfl, _, HWE.out.symm⟩
end Go.Proofs.YtadinjaocnlglaaGreatDoor
namespace Go.Proofs.YtadinjaocnlglaaGreatDoor
open Go.RowKit
set_option maxRecDepth 100000
set_option maxHeartbeats 4000000
/-- a row of texts -/
def VRw (w : World) (g V : Nat) (L : Nat → ByteArray) : Prop := ∃ cs : Array Value, w.heap[g]? = some (.cells cs 9 (0, 0)) ∧ ∀ v, v < V → cs[v]? = some (.string (L v))
theorem VRw.cell {w : World} {g V : Nat} {L : Nat → ByteArray} (h : VRw w g V L) {v : Nat} (hv : v < V) : w.cell? ⟨g, v, none⟩ = some (.string (L v)) := by
  obtain ⟨cs, h1, h2⟩ := h
  rw [cell_of_row w g v cs 9 _ h1]; exact h2 v hv
theorem VRw.free {w : World} {g V : Nat} {L : Nat → ByteArray} (h : VRw w g V L) (v : Nat) : w.frozen? ⟨g, v, none⟩ = false := by
  obtain ⟨cs, h1, h2⟩ := h
  exact frozen_of_row w g v cs 9 h1
theorem VRw.lt {w : World} {g V : Nat} {L : Nat → ByteArray} (h : VRw w g V L) : g < w.heap.size := by
  obtain ⟨cs, h1, h2⟩ := h
  exact (Array.getElem?_eq_some_iff.1 h1).1
theorem VRw.kept {w w' : World} {g V : Nat} {L : Nat → ByteArray} (h : VRw w g V L) (hk : w'.heap[g]? = w.heap[g]?) : VRw w' g V L := by
  obtain ⟨cs, h1, h2⟩ := h
  exact ⟨cs, hk.trans h1, h2⟩
theorem VRw.set {w : World} {g V : Nat} {L : Nat → ByteArray} (h : VRw w g V L) (u : Nat) (t : ByteArray) : VRw (w.setCell ⟨g, u, none⟩ (.string t)) g V (updT L u t) := by
  obtain ⟨cs, h1, h2⟩ := h
  refine ⟨_, set_heap _ _ _ _ _ _ _ h1, fun v hv => ?_⟩
  have e := h2 v hv
  have hl : v < cs.size := (Array.getElem?_eq_some_iff.1 e).1
  rw [Array.getElem?_setIfInBounds]
  unfold updT
  by_cases ev : u = v
  · subst ev; rw [if_pos rfl, if_pos hl, if_pos rfl]
  · rw [if_neg ev, if_neg (fun e => ev e.symm)]; exact e
theorem own_vr {w : World} {B n : Nat} {L : Nat → ByteArray} {v : Value} (h : w.ownsRow B 9 1 v n (tV L n)) (hn : 0 < n) : ∃ g cap, v = .slice (some ⟨g, 0, none⟩) n cap ∧ B ≤ g ∧ VRw w g n L := by
  obtain ⟨g, cap, rfl, hB, _, hcl⟩ := own_row9 h hn
  obtain ⟨cur, hcur⟩ := own_type h g rfl
  refine ⟨g, cap, rfl, hB, cur, hcur, fun i hi => ?_⟩
  have := hcl i hi
  rw [cell_of_row w g i cur 9 _ hcur] at this
  exact this
def WtD (w : World) (V : Nat) (L : Nat → ByteArray) (e : Ending) (w' : World) : Prop := ∃ g c, e = .returned (.slice (some ⟨g, 0, none⟩) V c) ∧ VRw w' g V L ∧ Below w.heap.size w w' ∧ w.heap.size ≤ g
theorem with_any (x gf cf gp cp K M C V ns nb n v gv cv : Nat) (pl : Nat → Nat) (L : Nat → ByteArray) (z : ByteArray) (w : World) (h : Pln x gf cf gp cp K M C V ns nb pl w) (hV : V ≤ 1000) (hC : C ≤ 1000) (hnb : nb ≤ 1000000) (hv : v < V) (h1 : v * nb / V ≤ n) (h2 : n < (v + 1) * nb / V)
    (hz : z.size = C) (hR : VRw w gv V L) (hfit : pl v + (n - v * nb / V) * C + C ≤ (L v).size) (hLs : (L v).size ≤ 1000000000) :
    Calls Tryz.prog 78 #[.pointer (some ⟨x, 0, none⟩), .slice (some ⟨gv, 0, none⟩) V cv, .int .i64 n, .string z] w (WtD w V (updT L v (wBk (L v) (pl v + (n - v * nb / V) * C) z))) := by
  obtain ⟨lv, w1, hr1, hcase, hb1⟩ := own_copy w (some ⟨gv, 0, none⟩) V cv L (.inr ⟨_, rfl, fun i hi => ⟨gv, 0, rfl, hR.lt, by rw [Nat.zero_add]; exact hR.cell hi⟩⟩) (by omega)
  obtain ⟨g, cap, rfl, hgB, hvr⟩ : ∃ g cap, lv = .slice (some ⟨g, 0, none⟩) V cap ∧ w.heap.size ≤ g ∧ VRw w1 g V L := by
    rcases hcase with ⟨e, _⟩ | ⟨_, ho⟩
    · omega
    · exact own_vr ho (by omega)
  have hP := h.below (h.lt (by omega)) hb1
  have HV : Hid _ := volumeOf_any x gf cf gp cp K M C V ns nb n v pl w1 hP hV hv h1 h2
  have c2 : w1.cell? ⟨x, 2, none⟩ = some (.int .i64 C) := cell_of_row _ _ _ _ 84 _ hP.row
  have c3 : w1.cell? ⟨x, 6, none⟩ = some (.slice (some ⟨gf, 0, none⟩) (V + 1) cf) := cell_of_row _ _ _ _ 84 _ hP.row
  have c4 : w1.cell? ⟨x, 7, none⟩ = some (.slice (some ⟨gp, 0, none⟩) V cp) := cell_of_row _ _ _ _ 84 _ hP.row
  have f := hP.fst v (by omega)
  have p := hP.plc v hv
  have l : w1.cell? ⟨g, v, none⟩ = some (.string (L v)) := hvr.cell hv
  have fr : w1.frozen? ⟨g, v, none⟩ = false := hvr.free v
  have hn : n ≤ 1000000 := by have := rng_top (nb := nb) (v := v + 1) (by omega : 1 ≤ V) (by omega); omega
  have HRUN : Hid _ := hr1
  have HB1 : Hid _ := hb1
  have HVR : Hid (VRw w1 g V L) := hvr
  obtain ⟨A, hA⟩ : ∃ A, v * nb / V = A := ⟨_, rfl⟩
  rw [hA] at f h1 hfit ⊢
  obtain ⟨P, hPv⟩ : ∃ P, pl v = P := ⟨_, rfl⟩
  rw [hPv] at p hfit ⊢
  obtain ⟨i, hi⟩ : ∃ i, n - A = i := ⟨_, rfl⟩
  rw [hi] at hfit ⊢
  have hiC : i * C ≤ 1000000 * 1000 := Nat.mul_le_mul (by omega) hC
  obtain ⟨Z, hZ⟩ : ∃ Z, i * C = Z := ⟨_, rfl⟩
  have e1 : IntKind.i64.wrap ((n : Int) - (A : Int)) = (i : Int) := by rw [IntKind.wrap_i64]; omega
  have e2 : IntKind.i64.wrap ((i : Int) * (C : Int)) = (Z : Int) := by rw [← Int.natCast_mul, hZ, IntKind.wrap_i64]; omega
  rw [hZ] at hfit hiC ⊢
  obtain ⟨D, hD⟩ : ∃ D, P + Z = D := ⟨_, rfl⟩
  have e3 : IntKind.i64.wrap ((P : Int) + (Z : Int)) = (D : Int) := by rw [IntKind.wrap_i64]; omega
  rw [hD] at hfit ⊢
  obtain ⟨E, hE⟩ : ∃ E, D + C = E := ⟨_, rfl⟩
  have e4 : IntKind.i64.wrap ((D : Int) + (C : Int)) = (E : Int) := by rw [IntKind.wrap_i64]; omega
  rw [hE] at hfit
  have k1 : (0 : Int) ≤ (D : Int) := by omega
  have k2 : (D : Int) ≤ ((L v).size : Int) := by omega
  have k3 : (0 : Int) ≤ (E : Int) := by omega
  have k4 : (E : Int) ≤ ((L v).size : Int) := by omega
  have HDE : Hid (D + z.size = E) := by show D + z.size = E; rw [hz]; exact hE
  clear hA hPv hi hZ h hR h1 h2 hr1 hb1 hvr hD hE hP hcase
  go_enter Tryz.func78, Tryz.ntmps78
  go_wp2_with (at_builtin; refine wpList_app rfl (.tmp 12) (.tmp 13) 42 rfl _ _ _ (by simp [Act.eval]) (by simp [Act.eval]) _ HRUN.out ?_)
  refine Calls.mono HV.out ?_
  rintro e w2 ⟨rfl, rfl⟩
  go_wp2_with fail
  go_quiet (fail)
  go_wp2_with fail
  obtain ⟨W3, hW3⟩ : ∃ W3, w2.drewN nq = W3 := ⟨_, rfl⟩
  have l3 : W3.cell? ⟨g, v, none⟩ = some (.string (L v)) := by rw [← hW3]; exact l
  have fr3 : W3.frozen? ⟨g, v, none⟩ = false := by rw [← hW3]; exact fr
  have HR3 : Hid (VRw W3 g V L) := by show VRw _ _ _ _; rw [← hW3]; exact VRw.kept HVR.out rfl
  have HB3 : Hid (Below w.heap.size w W3) := by show Below _ _ _; rw [← hW3]; exact below_drewN HB1.out nq
  rw [hW3]
  clear hW3 l fr HVR HB1 c2 c3 c4 f p e1 e2 e3 HV HRUN
  have e5 : (D : Int) + (C : Int) = (E : Int) := by have := HDE.out; omega
  have q1 : min D (L v).size = D := by omega
  have hLs2 := hLs
  clear e4
  go_region
  have HW : Hid (wBk (L v) D z = (L v).extract 0 D ++ z ++ (L v).extract E (L v).size) := by show _ = _; unfold wBk; rw [HDE.out]
  go_wp2_with fail
  go_ret
  refine ⟨g, cap, rfl, ?_, (HB3.out.setCell (p := ⟨g, v, none⟩) hgB _).drew, hgB⟩
  rw [HW.out]
  exact VRw.kept (HR3.out.set v _) rfl
end Go.Proofs.YtadinjaocnlglaaGreatDoor
namespace Go.Proofs.YtadinjaocnlglaaGreatDoor
open Go.RowKit
set_option maxRecDepth 100000
set_option maxHeartbeats 4000000
def rsT (pl : Nat → Nat) (V nb C : Nat) (cut : Nat → Nat) (L : Nat → ByteArray) (v : Nat) : ByteArray := (L v).extract 0 (pl v + (cut v - v * nb / V) * C)
def RsD (w : World) (X : Nat → ByteArray) (out : Nat → Bool) (V : Nat) (e : Ending) (w' : World) : Prop := ∃ v H n, e = .returned v ∧ w'.ownsRow w.heap.size 9 1 v n (tV H n) ∧ texL H n = (kpL out V).map X ∧ Below w.heap.size w w'
theorem rest_any {B wb gl go gc cc x gf cf gp cp K M C V ns nb gv cv : Nat} {pl : Nat → Nat} {lost out : Nat → Bool} {cut : Nat → Nat} {L : Nat → ByteArray} {w : World} (h : Wrk B wb gl go gc cc x gf cf gp cp K M C V ns nb pl lost out cut w) (hV5 : V ≤ 5) (hC8 : C ≤ 8) (hnb : nb ≤ 1000) (hp : ∀ v, v < V → pl v ≤ 1000000) (hR : VRw w gv V L) (hlo : ∀ v, v < V → v * nb / V ≤ cut v) (hhi : ∀ v, v < V → cut v ≤ (v + 1) * nb / V) (hsz : ∀ v, v < V → (L v).size = pl v + ((v + 1) * nb / V - v * nb / V) * C) :
    Calls Tryz.prog 36 #[.pointer (some ⟨wb, 0, none⟩), .slice (some ⟨gv, 0, none⟩) V cv] w (RsD w (rsT pl V nb C cut L) out V) := by
  have HW : Hid (∀ W, Below w.heap.size w W → Wrk B wb gl go gc cc x gf cf gp cp K M C V ns nb pl lost out cut W ∧ VRw W gv V L) := fun W hW => ⟨h.below hW, hR.kept (hW.block gv hR.lt)⟩
  have HSM : Hid (∀ v, v < V → ∃ A d Z D, v * nb / V = A ∧ cut v - v * nb / V = d ∧ (cut v - v * nb / V) * C = Z ∧ pl v + (cut v - v * nb / V) * C = D ∧ A ≤ 1000 ∧ cut v ≤ 1000 ∧ A + d = cut v ∧ d * C = Z ∧ Z ≤ 8000 ∧ pl v + Z = D ∧ D ≤ (L v).size) := fun v hv => by
    have e1 := hlo v hv
    have e2 := hhi v hv
    have e3 := rng_top (nb := nb) (v := v + 1) (by omega : 1 ≤ V) (by omega)
    have e6 := hsz v hv
    generalize v * nb / V = A at e1 e6 ⊢
    generalize (v + 1) * nb / V = E at e2 e3 e6
    have e4 : (cut v - A) * C ≤ (E - A) * C := Nat.mul_le_mul_right _ (by omega)
    have e5 : (cut v - A) * C ≤ 1000 * 8 := Nat.mul_le_mul (by omega) hC8
    exact ⟨_, _, _, _, rfl, rfl, rfl, rfl, by omega, by omega, by omega, rfl, by omega, rfl, by rw [e6]; omega⟩
  have HP : Hid _ := hp
  clear h hR hlo hhi hsz hp
  go_enter Tryz.func36, Tryz.ntmps36
  go_wp2_with fail
  go_loopw [5, 6] (fun ov iv wr => ∃ (i : Nat) (H : Nat → ByteArray) (n : Nat), i ≤ V ∧ iv = .int .i64 i ∧ n ≤ i ∧ wr.ownsRow w.heap.size 9 1 ov n (tV H n) ∧ texL H n = (kpL out i).map (rsT pl V nb C cut L) ∧ Below w.heap.size w wr) (fun _ iv _ => V - (intOf iv).toNat)
  case atStart => exact ⟨0, fun _ => ⟨#[]⟩, 0, by omega, rfl, Nat.le_refl _, ⟨rfl, .inl ⟨rfl, rfl⟩⟩, rfl, Below.refl _ _⟩
  case round =>
    obtain ⟨i, H, n, hi, rfl, hni, hO, hT, hB⟩ := hrel
    have HO : Hid _ := hO
    have HT : Hid _ := hT
    have HB : Hid _ := hB
    clear hO hT hB
    obtain ⟨h1, r1⟩ := HW.out wr HB.out
    have b0 : wr.cell? ⟨wb, 0, none⟩ = some (.pointer (some ⟨x, 0, none⟩)) := cell_of_row _ _ _ _ 96 _ h1.row
    have b2 : wr.cell? ⟨wb, 2, none⟩ = some (.slice (some ⟨go, 0, none⟩) V V) := cell_of_row _ _ _ _ 96 _ h1.row
    have b3 : wr.cell? ⟨wb, 3, none⟩ = some (.slice (some ⟨gc, 0, none⟩) V cc) := cell_of_row _ _ _ _ 96 _ h1.row
    have c2 : wr.cell? ⟨x, 2, none⟩ = some (.int .i64 C) := cell_of_row _ _ _ _ 84 _ h1.pln.row
    have c3 : wr.cell? ⟨x, 3, none⟩ = some (.int .i64 V) := cell_of_row _ _ _ _ 84 _ h1.pln.row
    have c6 : wr.cell? ⟨x, 6, none⟩ = some (.slice (some ⟨gf, 0, none⟩) (V + 1) cf) := cell_of_row _ _ _ _ 84 _ h1.pln.row
    have c7 : wr.cell? ⟨x, 7, none⟩ = some (.slice (some ⟨gp, 0, none⟩) V cp) := cell_of_row _ _ _ _ 84 _ h1.pln.row
    obtain ⟨av, cv', hvs⟩ := own_shape HO.out
    subst hvs
    by_cases hlt : i < V
    · have hin : (i : Int) < (V : Int) := by omega
      have o1 : wr.cell? ⟨go, i, none⟩ = some (.bool (out i)) := h1.ou.cell i hlt
      obtain ⟨oi, hoi⟩ : ∃ oi, out i = oi := ⟨_, rfl⟩
      rw [hoi] at o1
      have HOI : Hid _ := hoi
      clear hoi
      cases oi
      · obtain ⟨A, d, Z, D, eA, ed, eZ, eD, hA, hcut, hAd, hdZ, hZ, hPZ, hD⟩ := HSM.out i hlt
        have f1 : wr.cell? ⟨gf, i, none⟩ = some (.int .i64 (A : Nat)) := by rw [← eA]; exact h1.pln.fst i (by omega)
        have f2 := h1.pln.plc i hlt
        have f3 := h1.cell hlt
        have f4 := r1.cell hlt
        have hpi := HP.out i hlt
        obtain ⟨P, hP⟩ : ∃ P, pl i = P := ⟨_, rfl⟩
        obtain ⟨c, hc⟩ : ∃ c, cut i = c := ⟨_, rfl⟩
        rw [hP] at f2 hPZ hpi
        rw [hc] at f3 hcut hAd
        have e1 : IntKind.i64.wrap ((c : Int) - (A : Int)) = (d : Int) := by rw [IntKind.wrap_i64]; omega
        have e2 : IntKind.i64.wrap ((d : Int) * (C : Int)) = (Z : Int) := by rw [← Int.natCast_mul, hdZ, IntKind.wrap_i64]; omega
        have e3 : IntKind.i64.wrap ((P : Int) + (Z : Int)) = (D : Int) := by rw [IntKind.wrap_i64]; omega
        have k1 : (0 : Int) ≤ (D : Int) := by omega
        have k2 : (D : Int) ≤ ((L i).size : Int) := by omega
        have HX : Hid (rsT pl V nb C cut L i = (L i).extract 0 D) := by show _ = _; unfold rsT; rw [eD]
        have hdi : (d : Int) = (c : Int) - (A : Int) := by omega
        clear eA ed eZ eD hP hc hAd hdZ h1 r1 hdi
        go_wp2_with fail
        go_quiet (fail)
        obtain ⟨W3, hW3⟩ : ∃ W3, wr.drewN nq = W3 := ⟨_, rfl⟩
        have HO3 : Hid (W3.ownsRow w.heap.size 9 1 (.slice av n cv') n (tV H n)) := by show World.ownsRow _ _ _ _ _ _ _; rw [← hW3]; exact own_kept HO.out (fun _ _ => rfl)
        have HB3 : Hid (Below w.heap.size w W3) := by show Below _ _ _; rw [← hW3]; exact below_drewN HB.out nq
        have f5 : W3.cell? ⟨gv, i, none⟩ = some (.string (L i)) := by rw [← hW3]; exact f4
        rw [hW3]
        clear hW3 f1 f2 f3 f4 b0 b2 b3 c2 c3 c6 c7 o1 HO HB
        obtain ⟨v', w2, hr2, ho2, hg2, hbk⟩ := own_more HO3.out HB3.out.size (by omega) ((L i).extract 0 D)
        have HRUN : Hid _ := hr2
        have HO2 : Hid _ := ho2
        have HB2 : Hid (Below w.heap.size w w2) := (HB3.out.alloc HB3.out.size _).grown hg2 (by simp; have := HB3.out.size; omega) (fun y hy => own_ge HO3.out y hy)
        have HK : Hid (kpL out (i + 1) = kpL out i ++ [i]) := by show _ = _; rw [kpL_succ, HOI.out]; simp
        obtain ⟨av', cv2, hvs⟩ := own_shape HO2.out
        subst hvs
        clear hr2 ho2 hg2 hbk
        go_wp2_with (at_builtin; refine wpList_app rfl (.tmp 66) (.tmp 73) 42 rfl _ _ _ (by simp [Act.eval]) (by simp [Act.eval]) _ HRUN.out ?_)
        go_roundw
        case rel => exact ⟨i + 1, _, n + 1, by omega, by go_num, by omega, HO2.out, by rw [texL_more, HK.out, HT.out, List.map_append, List.map_singleton, HX.out], HB2.out⟩
        case measure => simp [intOf]; omega
      · have HK : Hid (kpL out (i + 1) = kpL out i) := by show _ = _; rw [kpL_succ, HOI.out]; simp
        clear h1 r1
        go_wp2_with fail
        go_roundw
        case rel => exact ⟨i + 1, H, n, by omega, by go_num, by omega, HO.out, by rw [HK.out]; exact HT.out, HB.out⟩
        case measure => simp [intOf]; omega
    · have hin : ¬ (i : Int) < (V : Int) := by omega
      obtain rfl : i = V := by omega
      clear h1 r1
      go_wp2_with fail
      go_ret
      exact ⟨_, H, n, rfl, HO.out, HT.out, HB.out⟩
end Go.Proofs.YtadinjaocnlglaaGreatDoor
