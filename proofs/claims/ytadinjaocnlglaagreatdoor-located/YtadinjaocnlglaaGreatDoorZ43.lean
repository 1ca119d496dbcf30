/-
  A Wreck in memory; the walks of vaultkeep's sound and wrecked.
  The walk of vaultkeep's wrecked.
  The walks of vaultkeep's sameInts, hit and there.
-/
import Derived.Test.YtadinjaocnlglaaGreatDoorZ42
import Derived.BigRegion
import Derived.BigQuiet
namespace Go.Proofs.YtadinjaocnlglaaGreatDoor
open Go.RowKit
set_option maxRecDepth 100000
set_option maxHeartbeats 4000000
theorem sound_any (x gf cf gp cp K M C V ns nb : Nat) (pl : Nat → Nat) (w : World) (h : Pln x gf cf gp cp K M C V ns nb pl w) (hV : V ≤ 1000) (hp : ∀ v, v < V → pl v ≤ 1000000000) :
    Calls Tryz.prog 31 #[.pointer (some ⟨x, 0, none⟩)] w fun e w' => e = .returned (.bool true) ∧ ∃ m, w' = w.drewN m := by
  have c3 : w.cell? ⟨x, 3, none⟩ = some (.int .i64 V) := cell_of_row _ _ _ _ 84 _ h.row
  have c7 : w.cell? ⟨x, 7, none⟩ = some (.slice (some ⟨gp, 0, none⟩) V cp) := cell_of_row _ _ _ _ 84 _ h.row
  have HP : Hid _ := h.plc
  have HS : Hid _ := hp
  clear h hp
  go_enter Tryz.func31, Tryz.ntmps31
  go_wp2_with fail
  go_loopw [3] (fun iv wr => ∃ i : Nat, i ≤ V ∧ iv = .int .i64 i ∧ wr = w) (fun iv _ => V - (intOf iv).toNat)
  case atStart => exact ⟨0, by omega, rfl, rfl⟩
  case round =>
    obtain ⟨i, hi, rfl, hw⟩ := hrel
    subst hw
    by_cases hlt : i < V
    · have hin : (i : Int) < (V : Int) := by omega
      have p := HP.out i hlt
      have hs := HS.out i hlt
      obtain ⟨P, hP⟩ : ∃ P, pl i = P := ⟨_, rfl⟩
      rw [hP] at p hs
      clear hP
      have hneg : ¬ (P : Int) < 0 := by omega
      go_wp2_with fail
      go_roundw
      case rel => exact ⟨i + 1, by omega, by go_num, by first | rfl | trivial⟩
      case measure => simp [intOf]; omega
    · have hin : ¬ (i : Int) < (V : Int) := by omega
      obtain rfl : i = V := by omega
      go_wp2_with fail
      go_quiet (fail)
      go_wp2_with fail
      go_ret
      exact ⟨rfl, _, rfl⟩
/-- a Wreck -/
structure Wrk (B wb gl go gc cc x gf cf gp cp K M C V ns nb : Nat) (pl : Nat → Nat) (lost out : Nat → Bool) (cut : Nat → Nat) (w : World) : Prop where
  pln : Pln x gf cf gp cp K M C V ns nb pl w
  row : w.heap[wb]? = some (.cells #[.pointer (some ⟨x, 0, none⟩), .slice (some ⟨gl, 0, none⟩) nb nb, .slice (some ⟨go, 0, none⟩) V V, .slice (some ⟨gc, 0, none⟩) V cc] 96 (0, 0))
  ls : Rw w gl nb 4 (fun i => .bool (lost i))
  ou : Rw w go V 4 (fun i => .bool (out i))
  ct : ∃ cs : Array Value, w.heap[gc]? = some (.cells cs 3 (0, 0)) ∧ ∀ v, v < V → cs[v]? = some (.int .i64 ((cut v : Nat) : Int))
  ne : gl ≠ go
  lo : x < B ∧ gf < B ∧ gp < B
  hi : B ≤ wb ∧ B ≤ gl ∧ B ≤ go ∧ B ≤ gc
section
variable {B wb gl go gc cc x gf cf gp cp K M C V ns nb : Nat} {pl : Nat → Nat} {lost out : Nat → Bool} {cut : Nat → Nat} {w w' : World}
theorem Wrk.lt (h : Wrk B wb gl go gc cc x gf cf gp cp K M C V ns nb pl lost out cut w) : wb < w.heap.size ∧ gl < w.heap.size ∧ go < w.heap.size ∧ gc < w.heap.size := by
  obtain ⟨cs, hc, _⟩ := h.ct
  exact ⟨(Array.getElem?_eq_some_iff.1 h.row).1, h.ls.lt, h.ou.lt, (Array.getElem?_eq_some_iff.1 hc).1⟩
theorem Wrk.apart (h : Wrk B wb gl go gc cc x gf cf gp cp K M C V ns nb pl lost out cut w) : wb ≠ gl ∧ wb ≠ go ∧ wb ≠ gc ∧ gl ≠ gc ∧ go ≠ gc := by
  obtain ⟨cs, hc, _⟩ := h.ct
  exact ⟨row_ne h.row h.ls (by decide), row_ne h.row h.ou (by decide), row_ne h.row hc (by decide), row_ne h.ls hc (by decide), row_ne h.ou hc (by decide)⟩
theorem Wrk.kept (h : Wrk B wb gl go gc cc x gf cf gp cp K M C V ns nb pl lost out cut w) (hk : ∀ j, j = x ∨ j = gf ∨ j = gp ∨ j = wb ∨ j = gl ∨ j = go ∨ j = gc → w'.heap[j]? = w.heap[j]?) : Wrk B wb gl go gc cc x gf cf gp cp K M C V ns nb pl lost out cut w' where
  pln := h.pln.kept (fun j hj => hk j (by rcases hj with e | e | e <;> simp [e]))
  row := (hk wb (by simp)).trans h.row
  ls := (hk gl (by simp)).trans h.ls
  ou := (hk go (by simp)).trans h.ou
  ct := by
    obtain ⟨cs, hc, hv⟩ := h.ct
    exact ⟨cs, (hk gc (by simp)).trans hc, hv⟩
  ne := h.ne
  lo := h.lo
  hi := h.hi
theorem Wrk.below (h : Wrk B wb gl go gc cc x gf cf gp cp K M C V ns nb pl lost out cut w) (hb : Below w.heap.size w w') : Wrk B wb gl go gc cc x gf cf gp cp K M C V ns nb pl lost out cut w' := by
  obtain ⟨l1, l2, l3, l4⟩ := h.lt
  obtain ⟨k1, k2, k3⟩ := h.lo
  obtain ⟨m1, _⟩ := h.hi
  exact h.kept (fun j hj => hb.block j (by rcases hj with e | e | e | e | e | e | e <;> omega))
theorem Wrk.cell (h : Wrk B wb gl go gc cc x gf cf gp cp K M C V ns nb pl lost out cut w) {v : Nat} (hv : v < V) : w.cell? ⟨gc, v, none⟩ = some (.int .i64 ((cut v : Nat) : Int)) := by
  obtain ⟨cs, hc, hcs⟩ := h.ct
  rw [cell_of_row w gc v cs 3 _ hc]
  exact hcs v hv
theorem Wrk.free (h : Wrk B wb gl go gc cc x gf cf gp cp K M C V ns nb pl lost out cut w) (v : Nat) : w.frozen? ⟨gc, v, none⟩ = false := by
  obtain ⟨cs, hc, hcs⟩ := h.ct
  exact frozen_of_row w gc v cs 3 hc
theorem Wrk.setOut (h : Wrk B wb gl go gc cc x gf cf gp cp K M C V ns nb pl lost out cut w) (i : Nat) : Wrk B wb gl go gc cc x gf cf gp cp K M C V ns nb pl lost (updB out i true) cut (w.setCell ⟨go, i, none⟩ (.bool true)) := by
  obtain ⟨a1, a2, a3, a4, a5⟩ := h.apart
  obtain ⟨k1, k2, k3⟩ := h.lo
  obtain ⟨m1, m2, m3, m4⟩ := h.hi
  have hne := h.ne
  have hk : ∀ j, j ≠ go → (w.setCell ⟨go, i, none⟩ (.bool true)).heap[j]? = w.heap[j]? := fun j hj => set_other _ _ _ _ _ hj
  exact {
    pln := h.pln.kept (fun j hj => hk j (by rcases hj with e | e | e <;> omega))
    row := (hk wb (by omega)).trans h.row
    ls := (hk gl (by omega)).trans h.ls
    ou := (h.ou.put i (.bool true)).to (fun j _ => by
      unfold updV updB
      split <;> rfl)
    ct := by
      obtain ⟨cs, hc, hv⟩ := h.ct
      exact ⟨cs, (hk gc (by omega)).trans hc, hv⟩
    ne := hne
    lo := h.lo
    hi := h.hi }
theorem Wrk.setCut (h : Wrk B wb gl go gc cc x gf cf gp cp K M C V ns nb pl lost out cut w) (i f : Nat) : Wrk B wb gl go gc cc x gf cf gp cp K M C V ns nb pl lost out (updC cut i f) (w.setCell ⟨gc, i, none⟩ (.int .i64 ((f : Nat) : Int))) := by
  obtain ⟨a1, a2, a3, a4, a5⟩ := h.apart
  obtain ⟨k1, k2, k3⟩ := h.lo
  obtain ⟨m1, m2, m3, m4⟩ := h.hi
  have hne := h.ne
  have hk : ∀ j, j ≠ gc → (w.setCell ⟨gc, i, none⟩ (.int .i64 ((f : Nat) : Int))).heap[j]? = w.heap[j]? := fun j hj => set_other _ _ _ _ _ hj
  exact {
    pln := h.pln.kept (fun j hj => hk j (by rcases hj with e | e | e <;> omega))
    row := (hk wb (by omega)).trans h.row
    ls := (hk gl (by omega)).trans h.ls
    ou := (hk go (by omega)).trans h.ou
    ct := by
      obtain ⟨cs, hc, hv⟩ := h.ct
      refine ⟨_, set_heap _ _ _ _ _ _ _ hc, fun v hv2 => ?_⟩
      have e := hv v hv2
      have hl : v < cs.size := (Array.getElem?_eq_some_iff.1 e).1
      rw [Array.getElem?_setIfInBounds]
      unfold updC
      by_cases ev : i = v
      · subst ev; rw [if_pos rfl, if_pos hl, if_pos rfl]
      · rw [if_neg ev, if_neg (fun e => ev e.symm)]; exact e
    ne := hne
    lo := h.lo
    hi := h.hi }
end
/-- a Wreck in the making -/
structure WN (w0 : World) (wb gl go x V nb : Nat) (cv : Value) (l : List Nat) (w : World) : Prop where
  row : w.heap[wb]? = some (.cells #[.pointer (some ⟨x, 0, none⟩), .slice (some ⟨gl, 0, none⟩) nb nb, .slice (some ⟨go, 0, none⟩) V V, cv] 96 (0, 0))
  ls : Rw w gl nb 4 (fun _ => .bool false)
  ou : Rw w go V 4 (fun _ => .bool false)
  ct : w.ownsRow w0.heap.size 3 1 cv l.length (unV l)
  bel : Below w0.heap.size w0 w
  lo : w0.heap.size ≤ wb ∧ w0.heap.size ≤ gl ∧ w0.heap.size ≤ go
  ne : gl ≠ go
theorem WN.app {w0 : World} {wb gl go x V nb : Nat} {cv : Value} {l : List Nat} {w : World} (h : WN w0 wb gl go x V nb cv l w) (y : Nat) (hl : l.length ≤ 1000) :
    ∃ v' w2, (Builtin.append_ #[39, 39] 39 #[cv, .slice (some ⟨w.heap.size, 0, none⟩) 1 1]).run Tryz.prog (w.alloc (.cells #[.int .i64 y] 3)) = .ok v' w2 ∧ WN w0 wb gl go x V nb v' (l ++ [y]) (w2.setCell ⟨wb, 3, none⟩ v') ∧ w2.heap[wb]? = some (.cells #[.pointer (some ⟨x, 0, none⟩), .slice (some ⟨gl, 0, none⟩) nb nb, .slice (some ⟨go, 0, none⟩) V V, cv] 96 (0, 0)) := by
  obtain ⟨v', w2, hrun, ho, hr, hr2, hk, hb, hbel⟩ := fld_app (k := 3) y h.row (by decide) h.ct h.bel.size (by omega)
  have hk2 : ∀ (g : Nat) (cs : Array Value), w.heap[g]? = some (Obj.cells cs 4 (0, 0)) → (w2.setCell ⟨wb, 3, none⟩ v').heap[g]? = w.heap[g]? := fun (g : Nat) (cs : Array Value) hg =>
    hk g (Array.getElem?_eq_some_iff.1 hg).1 (row_ne hg h.row (by decide)) (fun e => by
      obtain ⟨cur, hcur⟩ := own_type h.ct g e
      exact row_ne hg hcur (by decide) rfl)
  refine ⟨v', w2, hrun, ⟨hr2, (hk2 gl _ h.ls).trans h.ls, (hk2 go _ h.ou).trans h.ou, ho, hbel h.lo.1 _ h.bel, h.lo, h.ne⟩, hr⟩
theorem WN.done {w0 : World} {wb gl go x V nb : Nat} {cv : Value} {w : World} (h : WN w0 wb gl go x V nb cv ((List.range V).map (fun v => (v + 1) * nb / V)) w) (hV : 1 ≤ V) {gf cf gp cp K M C ns : Nat} {pl : Nat → Nat} (hP : Pln x gf cf gp cp K M C V ns nb pl w0) :
    ∃ gc cc, Wrk w0.heap.size wb gl go gc cc x gf cf gp cp K M C V ns nb pl (fun _ => false) (fun _ => false) (fun v => (v + 1) * nb / V) w := by
  have hct := h.ct
  have hl : ((List.range V).map (fun v => (v + 1) * nb / V)).length = V := by simp
  rw [hl] at hct
  obtain ⟨a, cc, rfl⟩ := own_shape hct
  obtain ⟨gc, rfl, hB, hc⟩ := unV_cells hct (by omega)
  obtain ⟨cs, hcs⟩ := own_type hct gc rfl
  refine ⟨gc, cc, ⟨hP.below (hP.lt hV) h.bel, h.row, h.ls, h.ou, ⟨cs, hcs, fun v hv => ?_⟩, h.ne, hP.lt hV, h.lo.1, h.lo.2.1, h.lo.2.2, hB⟩⟩
  have := hc v (by rw [hl]; exact hv)
  rw [cell_of_row w gc v cs 3 _ hcs] at this
  rw [this]
  simp
end Go.Proofs.YtadinjaocnlglaaGreatDoor
namespace Go.Proofs.YtadinjaocnlglaaGreatDoor
open Go.RowKit
set_option maxRecDepth 100000
set_option maxHeartbeats 4000000
def WrD (w : World) (x gf cf gp cp K M C V ns nb : Nat) (pl : Nat → Nat) (e : Ending) (w' : World) : Prop := ∃ wb gl go gc cc, e = .returned (.pointer (some ⟨wb, 0, none⟩)) ∧ Wrk w.heap.size wb gl go gc cc x gf cf gp cp K M C V ns nb pl (fun _ => false) (fun _ => false) (fun v => (v + 1) * nb / V) w' ∧ Below w.heap.size w w'
theorem WN.drew {w0 : World} {wb gl go x V nb : Nat} {cv : Value} {l : List Nat} {w : World} (h : WN w0 wb gl go x V nb cv l w) : WN w0 wb gl go x V nb cv l w.drew := ⟨h.row, h.ls, h.ou, own_kept h.ct (fun _ _ => rfl), h.bel.drew, h.lo, h.ne⟩
theorem wn_rows (w : World) (n1 n2 : Nat) (o : Obj) : Rw (((w.alloc (.cells (madeCells #[.bool false] n1) 4)).alloc (.cells (madeCells #[.bool false] n2) 4)).alloc o) w.heap.size n1 4 (fun _ => .bool false) ∧ Rw (((w.alloc (.cells (madeCells #[.bool false] n1) 4)).alloc (.cells (madeCells #[.bool false] n2) 4)).alloc o) (w.heap.size + 1) n2 4 (fun _ => .bool false) ∧ (((w.alloc (.cells (madeCells #[.bool false] n1) 4)).alloc (.cells (madeCells #[.bool false] n2) 4)).alloc o).heap[w.heap.size + 2]? = some o ∧ Below w.heap.size w (((w.alloc (.cells (madeCells #[.bool false] n1) 4)).alloc (.cells (madeCells #[.bool false] n2) 4)).alloc o) := by
  refine ⟨((Rw.made w n1 4 (.bool false)).alloc _).alloc _, ?_, ?_, (((Below.refl _ _).alloc (Nat.le_refl _) _).alloc (by simp) _).alloc (by simp; omega) _⟩
  · have := (Rw.made (w.alloc (.cells (madeCells #[.bool false] n1) 4)) n2 4 (.bool false)).alloc o
    have e : (w.alloc (.cells (madeCells #[.bool false] n1) 4)).heap.size = w.heap.size + 1 := by simp
    rw [e] at this
    exact this
  · have := heap_alloc_new ((w.alloc (.cells (madeCells #[.bool false] n1) 4)).alloc (.cells (madeCells #[.bool false] n2) 4)) o
    have e : ((w.alloc (.cells (madeCells #[.bool false] n1) 4)).alloc (.cells (madeCells #[.bool false] n2) 4)).heap.size = w.heap.size + 2 := by simp
    rw [e] at this
    exact this
theorem wrecked_any (x gf cf gp cp K M C V ns nb : Nat) (pl : Nat → Nat) (w : World) (h : Pln x gf cf gp cp K M C V ns nb pl w) (hV1 : 1 ≤ V) (hV : V ≤ 5) (hnb : nb ≤ 512) :
    Calls Tryz.prog 32 #[.pointer (some ⟨x, 0, none⟩)] w (WrD w x gf cf gp cp K M C V ns nb pl) := by
  have c3 : w.cell? ⟨x, 3, none⟩ = some (.int .i64 V) := cell_of_row _ _ _ _ 84 _ h.row
  have c5 : w.cell? ⟨x, 5, none⟩ = some (.int .i64 nb) := cell_of_row _ _ _ _ 84 _ h.row
  have HP : Hid _ := h
  clear h
  have hmk := run_make_row' (P := Tryz.prog) 94 4 (.bool false) 1 Tryz.underlying94 info4 rfl .i64 .i64 nb (by omega) (by omega)
  have hmk2 := run_make_row' (P := Tryz.prog) 94 4 (.bool false) 1 Tryz.underlying94 info4 rfl .i64 .i64 V (by omega) (by omega)
  have hxl : x < w.heap.size := block_lt_of_cell c3
  have c5' : (w.alloc (.cells (madeCells #[.bool false] V) 4)).cell? ⟨x, 5, none⟩ = some (.int .i64 nb) := (World.cell?_alloc_lt _ _ _ hxl).trans c5
  have c3' : (w.alloc (.cells (madeCells #[.bool false] nb) 4)).cell? ⟨x, 3, none⟩ = some (.int .i64 V) := (World.cell?_alloc_lt _ _ _ hxl).trans c3
  go_enter Tryz.func32, Tryz.ntmps32
  go_wp2_with fail
  go_region
  · obtain ⟨W, hW⟩ : ∃ W, (((w.alloc (Obj.cells (madeCells #[Value.bool false] nb) 4)).alloc (Obj.cells (madeCells #[Value.bool false] V) 4)).alloc (Obj.cells #[Value.pointer (some ⟨x, 0, none⟩), Value.slice (some ⟨w.heap.size, 0, none⟩) nb nb, Value.slice (some ⟨w.heap.size + 1, 0, none⟩) V V, Value.slice none 0 0] 96)).drew = W := ⟨_, rfl⟩
    obtain ⟨r1, r2, r3, r4⟩ := wn_rows w nb V (Obj.cells #[Value.pointer (some ⟨x, 0, none⟩), Value.slice (some ⟨w.heap.size, 0, none⟩) nb nb, Value.slice (some ⟨w.heap.size + 1, 0, none⟩) V V, Value.slice none 0 0] 96)
    have HWN : Hid (WN w (w.heap.size + 2) (w.heap.size) (w.heap.size + 1) x V nb (.slice none 0 0) [] W) := by
      show WN _ _ _ _ _ _ _ _ _ _
      rw [← hW]
      exact WN.drew ⟨r3, r1, r2, ⟨rfl, .inl ⟨rfl, rfl⟩⟩, r4, ⟨by omega, by omega, by omega⟩, by omega⟩
    rw [hW]
    obtain ⟨wb, hwb⟩ : ∃ wb, w.heap.size + 2 = wb := ⟨_, rfl⟩
    obtain ⟨gl, hgl⟩ : ∃ gl, w.heap.size = gl := ⟨_, rfl⟩
    obtain ⟨go, hgo⟩ : ∃ go, w.heap.size + 1 = go := ⟨_, rfl⟩
    rw [hwb, hgo, hgl] at HWN
    rw [hwb, hgo, hgl]
    clear hW r1 r2 r3 r4 hwb hgl hgo c3 c5 c3' c5' hmk hmk2 hxl
    go_wp2_with fail
    go_loopw [4] (fun iv wr => ∃ (i : Nat) (cv : Value), i ≤ V ∧ iv = .int .i64 i ∧ WN w wb gl go x V nb cv ((List.range i).map (fun v => (v + 1) * nb / V)) wr) (fun iv _ => V - (intOf iv).toNat)
    case atStart => exact ⟨0, .slice none 0 0, by omega, rfl, HWN.out⟩
    case round =>
      obtain ⟨i, cv, hi, rfl, hWN⟩ := hrel
      have HW : Hid _ := hWN
      clear hWN HWN
      have HPr : Hid (Pln x gf cf gp cp K M C V ns nb pl wr) := HP.out.below (HP.out.lt hV1) HW.out.bel
      have c3 : wr.cell? ⟨x, 3, none⟩ = some (.int .i64 V) := cell_of_row _ _ _ _ 84 _ HPr.out.row
      by_cases hlt : i < V
      · have hin : (i : Int) < (V : Int) := by omega
        have c6 : wr.cell? ⟨x, 6, none⟩ = some (.slice (some ⟨gf, 0, none⟩) (V + 1) cf) := cell_of_row _ _ _ _ 84 _ HPr.out.row
        have f1 := HPr.out.fst (i + 1) (by omega)
        obtain ⟨Q, hQ⟩ : ∃ Q, (i + 1) * nb / V = Q := ⟨_, rfl⟩
        rw [hQ] at f1
        obtain ⟨I1, hI1⟩ : ∃ I1, i + 1 = I1 := ⟨_, rfl⟩
        rw [hI1] at f1
        have e5 : IntKind.i64.wrap ((i : Int) + 1) = (I1 : Int) := by rw [IntKind.wrap_i64]; omega
        have e6 : (I1 : Int) < (V : Int) + 1 := by omega
        have x3 : wr.cell? ⟨wb, 3, none⟩ = some cv := cell_of_row _ _ _ _ 96 _ HW.out.row
        obtain ⟨v', w2, hrun, hW2, hrow2⟩ := WN.app HW.out.drew Q (by simp; omega)
        have HRUN : Hid ((Builtin.append_ #[39, 39] 39 #[cv, .slice (some ⟨wr.heap.size, 0, none⟩) 1 1]).run Tryz.prog (wr.alloc (.cells #[.int .i64 Q] 3)).drew = .ok v' w2) := hrun
        have HW2 : Hid _ := hW2
        have x3' : w2.cell? ⟨wb, 3, none⟩ = some cv := cell_of_row _ _ _ _ 96 _ hrow2
        have f3' := frozen_of_row w2 wb 3 _ 96 hrow2
        have HQ : Hid (((List.range (i + 1)).map (fun v => (v + 1) * nb / V)) = (List.range i).map (fun v => (v + 1) * nb / V) ++ [Q]) := by show _ = _; rw [List.range_succ (n := i), List.map_append]; simp [hQ]
        have HI1 : Hid _ := hI1
        clear hQ hrun hW2 hrow2 hI1
        have ho1 := HW.out.ct
        rw [show ((List.range i).map (fun v => (v + 1) * nb / V)).length = i by simp] at ho1
        obtain ⟨fa, fc, hfv⟩ := own_shape ho1
        subst hfv
        have ho2 := HW2.out.ct
        rw [show ((List.range i).map (fun v => (v + 1) * nb / V) ++ [Q]).length = i + 1 by simp] at ho2
        obtain ⟨ga, gc', hgv⟩ := own_shape ho2
        subst hgv
        clear ho1 ho2
        have hxl : x < wr.heap.size := block_lt_of_cell c3
        have hwl : wb < wr.heap.size := block_lt_of_cell x3
        have hfl : gf < wr.heap.size := block_lt_of_cell f1
        have x3a : (wr.alloc (.cells #[.int .i64 Q] 3)).cell? ⟨wb, 3, none⟩ = some (.slice fa i fc) := (World.cell?_alloc_lt _ _ _ hwl).trans x3
        go_wp2_with fail
        go_region_law (refine step_app rfl (.tmp 32) (.tmp 41) 39 rfl _ _ _ (by simp [Act.eval]) (by simp [Act.eval]) _ HRUN.out ?_)
        all_goals
          go_wp2_with fail
          go_roundw
          case rel => exact ⟨i + 1, _, by omega, by have := HI1.out; go_num, by rw [HQ.out]; exact HW2.out⟩
          case measure => have := HI1.out; simp [intOf]; omega
      · have hin : ¬ (i : Int) < (V : Int) := by omega
        obtain rfl : i = V := by omega
        go_wp2_with fail
        go_ret
        obtain ⟨gc, cc, hk⟩ := WN.done HW.out hV1 HP.out
        exact ⟨wb, gl, go, gc, cc, rfl, hk, HW.out.bel⟩
  · obtain ⟨W, hW⟩ : ∃ W, (((w.alloc (Obj.cells (madeCells #[Value.bool false] V) 4)).alloc (Obj.cells (madeCells #[Value.bool false] nb) 4)).alloc (Obj.cells #[Value.pointer (some ⟨x, 0, none⟩), Value.slice (some ⟨w.heap.size + 1, 0, none⟩) nb nb, Value.slice (some ⟨w.heap.size, 0, none⟩) V V, Value.slice none 0 0] 96)).drew = W := ⟨_, rfl⟩
    obtain ⟨r1, r2, r3, r4⟩ := wn_rows w V nb (Obj.cells #[Value.pointer (some ⟨x, 0, none⟩), Value.slice (some ⟨w.heap.size + 1, 0, none⟩) nb nb, Value.slice (some ⟨w.heap.size, 0, none⟩) V V, Value.slice none 0 0] 96)
    have HWN : Hid (WN w (w.heap.size + 2) (w.heap.size + 1) (w.heap.size) x V nb (.slice none 0 0) [] W) := by
      show WN _ _ _ _ _ _ _ _ _ _
      rw [← hW]
      exact WN.drew ⟨r3, r2, r1, ⟨rfl, .inl ⟨rfl, rfl⟩⟩, r4, ⟨by omega, by omega, by omega⟩, by omega⟩
    rw [hW]
    obtain ⟨wb, hwb⟩ : ∃ wb, w.heap.size + 2 = wb := ⟨_, rfl⟩
    obtain ⟨gl, hgl⟩ : ∃ gl, w.heap.size + 1 = gl := ⟨_, rfl⟩
    obtain ⟨go, hgo⟩ : ∃ go, w.heap.size = go := ⟨_, rfl⟩
    rw [hwb, hgl, hgo] at HWN
    rw [hwb, hgl, hgo]
    clear hW r1 r2 r3 r4 hwb hgl hgo c3 c5 c3' c5' hmk hmk2 hxl
    go_wp2_with fail
    go_loopw [4] (fun iv wr => ∃ (i : Nat) (cv : Value), i ≤ V ∧ iv = .int .i64 i ∧ WN w wb gl go x V nb cv ((List.range i).map (fun v => (v + 1) * nb / V)) wr) (fun iv _ => V - (intOf iv).toNat)
    case atStart => exact ⟨0, .slice none 0 0, by omega, rfl, HWN.out⟩
    case round =>
      obtain ⟨i, cv, hi, rfl, hWN⟩ := hrel
      have HW : Hid _ := hWN
      clear hWN HWN
      have HPr : Hid (Pln x gf cf gp cp K M C V ns nb pl wr) := HP.out.below (HP.out.lt hV1) HW.out.bel
      have c3 : wr.cell? ⟨x, 3, none⟩ = some (.int .i64 V) := cell_of_row _ _ _ _ 84 _ HPr.out.row
      by_cases hlt : i < V
      · have hin : (i : Int) < (V : Int) := by omega
        have c6 : wr.cell? ⟨x, 6, none⟩ = some (.slice (some ⟨gf, 0, none⟩) (V + 1) cf) := cell_of_row _ _ _ _ 84 _ HPr.out.row
        have f1 := HPr.out.fst (i + 1) (by omega)
        obtain ⟨Q, hQ⟩ : ∃ Q, (i + 1) * nb / V = Q := ⟨_, rfl⟩
        rw [hQ] at f1
        obtain ⟨I1, hI1⟩ : ∃ I1, i + 1 = I1 := ⟨_, rfl⟩
        rw [hI1] at f1
        have e5 : IntKind.i64.wrap ((i : Int) + 1) = (I1 : Int) := by rw [IntKind.wrap_i64]; omega
        have e6 : (I1 : Int) < (V : Int) + 1 := by omega
        have x3 : wr.cell? ⟨wb, 3, none⟩ = some cv := cell_of_row _ _ _ _ 96 _ HW.out.row
        obtain ⟨v', w2, hrun, hW2, hrow2⟩ := WN.app HW.out.drew Q (by simp; omega)
        have HRUN : Hid ((Builtin.append_ #[39, 39] 39 #[cv, .slice (some ⟨wr.heap.size, 0, none⟩) 1 1]).run Tryz.prog (wr.alloc (.cells #[.int .i64 Q] 3)).drew = .ok v' w2) := hrun
        have HW2 : Hid _ := hW2
        have x3' : w2.cell? ⟨wb, 3, none⟩ = some cv := cell_of_row _ _ _ _ 96 _ hrow2
        have f3' := frozen_of_row w2 wb 3 _ 96 hrow2
        have HQ : Hid (((List.range (i + 1)).map (fun v => (v + 1) * nb / V)) = (List.range i).map (fun v => (v + 1) * nb / V) ++ [Q]) := by show _ = _; rw [List.range_succ (n := i), List.map_append]; simp [hQ]
        have HI1 : Hid _ := hI1
        clear hQ hrun hW2 hrow2 hI1
        have ho1 := HW.out.ct
        rw [show ((List.range i).map (fun v => (v + 1) * nb / V)).length = i by simp] at ho1
        obtain ⟨fa, fc, hfv⟩ := own_shape ho1
        subst hfv
        have ho2 := HW2.out.ct
        rw [show ((List.range i).map (fun v => (v + 1) * nb / V) ++ [Q]).length = i + 1 by simp] at ho2
        obtain ⟨ga, gc', hgv⟩ := own_shape ho2
        subst hgv
        clear ho1 ho2
        have hxl : x < wr.heap.size := block_lt_of_cell c3
        have hwl : wb < wr.heap.size := block_lt_of_cell x3
        have hfl : gf < wr.heap.size := block_lt_of_cell f1
        have x3a : (wr.alloc (.cells #[.int .i64 Q] 3)).cell? ⟨wb, 3, none⟩ = some (.slice fa i fc) := (World.cell?_alloc_lt _ _ _ hwl).trans x3
        go_wp2_with fail
        go_region_law (refine step_app rfl (.tmp 32) (.tmp 41) 39 rfl _ _ _ (by simp [Act.eval]) (by simp [Act.eval]) _ HRUN.out ?_)
        all_goals
          go_wp2_with fail
          go_roundw
          case rel => exact ⟨i + 1, _, by omega, by have := HI1.out; go_num, by rw [HQ.out]; exact HW2.out⟩
          case measure => have := HI1.out; simp [intOf]; omega
      · have hin : ¬ (i : Int) < (V : Int) := by omega
        obtain rfl : i = V := by omega
        go_wp2_with fail
        go_ret
        obtain ⟨gc, cc, hk⟩ := WN.done HW.out hV1 HP.out
        exact ⟨wb, gl, go, gc, cc, rfl, hk, HW.out.bel⟩
end Go.Proofs.YtadinjaocnlglaaGreatDoor
namespace Go.Proofs.YtadinjaocnlglaaGreatDoor
open Go.RowKit
set_option maxRecDepth 100000
set_option maxHeartbeats 4000000
/-- a list of numbers in memory -/
def IR (w : World) (a : Option Addr) (l : List Nat) : Prop := ∀ i, i < l.length → ∃ g, a = some ⟨g, 0, none⟩ ∧ w.cell? ⟨g, i, none⟩ = some (.int .i64 (l.getD i 0 : Nat))
theorem own_ir {w : World} {B : Nat} {a : Option Addr} {n c : Nat} {l : List Nat} (h : w.ownsRow B 3 1 (.slice a n c) n (unV l)) (hn : n = l.length) : IR w a l := fun i hi => by
  obtain ⟨g, e, _, hc⟩ := unV_cells h (by omega)
  refine ⟨g, e, ?_⟩
  rw [hc i hi, List.getD_eq_getElem?_getD, List.getElem?_eq_getElem hi]
  rfl
theorem sameInts_any (l : List Nat) (a b : Option Addr) (c d : Nat) (w : World) (hl : l.length ≤ 1000000) (hA : IR w a l) (hB : IR w b l) :
    Calls Tryz.prog 41 #[.slice a l.length c, .slice b l.length d] w fun e w' => e = .returned (.bool true) ∧ ∃ m, w' = w.drewN m := by
  have HA : Hid (∀ i, i < l.length → ∃ g, a = some ⟨g, 0, none⟩ ∧ w.cell? ⟨g, i, none⟩ = some (.int .i64 (l.getD i 0 : Nat))) := hA
  have HB : Hid (∀ i, i < l.length → ∃ g, b = some ⟨g, 0, none⟩ ∧ w.cell? ⟨g, i, none⟩ = some (.int .i64 (l.getD i 0 : Nat))) := hB
  obtain ⟨n, hn⟩ : ∃ n, l.length = n := ⟨_, rfl⟩
  rw [hn] at HA HB hl ⊢
  clear hA hB hn
  go_enter Tryz.func41, Tryz.ntmps41
  go_wp2_with fail
  go_loopw [5] (fun iv wr => ∃ i m : Nat, i ≤ n ∧ iv = .int .i64 i ∧ wr = w.drewN m) (fun iv _ => n - (intOf iv).toNat)
  case atStart => exact ⟨0, 0, by omega, rfl, rfl⟩
  case round =>
    obtain ⟨i, m, hi, rfl, hw⟩ := hrel
    by_cases hlt : i < n
    · have hin : (i : Int) < (n : Int) := by omega
      obtain ⟨ga, rfl, x0⟩ := HA.out i hlt
      obtain ⟨gb, rfl, x1⟩ := HB.out i hlt
      have y0 : wr.cell? ⟨ga, i, none⟩ = some (.int .i64 (l.getD i 0 : Nat)) := by rw [hw]; exact x0
      have y1 : wr.cell? ⟨gb, i, none⟩ = some (.int .i64 (l.getD i 0 : Nat)) := by rw [hw]; exact x1
      obtain ⟨z, hz⟩ : ∃ z, l.getD i 0 = z := ⟨_, rfl⟩
      rw [hz] at y0 y1
      have HW : Hid _ := hw
      clear hw x0 x1 hz
      go_wp2_with fail
      go_quiet (fail)
      go_wp2_with fail
      go_roundw
      case rel => exact ⟨i + 1, _, by omega, by go_num, by rw [HW.out, World.drewN_drewN]⟩
      case measure => simp [intOf]; omega
    · have hin : ¬ (i : Int) < (n : Int) := by omega
      have HW : Hid _ := hw
      clear hw
      go_wp2_with fail
      go_ret
      exact ⟨rfl, m, HW.out⟩
/-- does a range meet a list of stripes? -/
def hitB (z a b : Nat) (l : List Nat) : Bool := (List.range (b - a)).any (fun i => decide (((a + i) / z) ∈ l))
theorem hitB_yes {z a b : Nat} {l : List Nat} {k : Nat} (h1 : a ≤ k) (h2 : k < b) (h : k / z ∈ l) : hitB z a b l = true := by
  unfold hitB
  rw [List.any_eq_true]
  exact ⟨k - a, List.mem_range.2 (by omega), by rw [show a + (k - a) = k by omega]; exact decide_eq_true h⟩
theorem hitB_no {z a b : Nat} {l : List Nat} (h : ∀ k, a ≤ k → k < b → ¬ k / z ∈ l) : hitB z a b l = false := by
  unfold hitB
  rw [List.any_eq_false]
  exact fun i hi => by rw [decide_eq_false (h _ (by omega) (by have := List.mem_range.1 hi; omega))]; simp
theorem hit_any (x gf cf gp cp K M C V ns nb from_ to_ : Nat) (pl : Nat → Nat) (l : List Nat) (a : Option Addr) (c : Nat) (w : World) (h : Pln x gf cf gp cp K M C V ns nb pl w) (hK1 : 1 ≤ K) (hK2 : K ≤ 5) (hC1 : 1 ≤ C) (hC2 : C ≤ 8) (hto : to_ ≤ 1000000) (hl : l.length ≤ 1000000) (hA : IR w a l) :
    Calls Tryz.prog 81 #[.pointer (some ⟨x, 0, none⟩), .int .i64 from_, .int .i64 to_, .slice a l.length c] w fun e w' => e = .returned (.bool (hitB (K * C) from_ to_ l)) ∧ ∃ m, w' = w.drewN m := by
  have c0 : w.cell? ⟨x, 0, none⟩ = some (.int .i64 K) := cell_of_row _ _ _ _ 84 _ h.row
  have c2 : w.cell? ⟨x, 2, none⟩ = some (.int .i64 C) := cell_of_row _ _ _ _ 84 _ h.row
  have HA : Hid (∀ i, i < l.length → ∃ g, a = some ⟨g, 0, none⟩ ∧ w.cell? ⟨g, i, none⟩ = some (.int .i64 (l.getD i 0 : Nat))) := hA
  have HM : Hid (∀ s, (∀ i, i < l.length → l.getD i 0 ≠ s) → ¬ s ∈ l) := fun s hs hm => by
    obtain ⟨i, hi, e⟩ := List.getElem_of_mem hm
    refine hs i hi ?_
    rw [List.getD_eq_getElem?_getD, List.getElem?_eq_getElem hi]
    exact e
  have HI : Hid (∀ i, i < l.length → l.getD i 0 ∈ l) := fun i hi => by
    rw [List.getD_eq_getElem?_getD, List.getElem?_eq_getElem hi]
    exact List.getElem_mem hi
  have hz0 : 0 < K * C := Nat.mul_pos hK1 hC1
  have hz1 : K * C ≤ 40 := Nat.le_trans (Nat.mul_le_mul hK2 hC2) (by omega)
  obtain ⟨z, hz⟩ : ∃ z, K * C = z := ⟨_, rfl⟩
  rw [hz] at hz0 hz1 ⊢
  have e1 : (K : Int) * (C : Int) = (z : Int) := by rw [← hz]; simp
  have HY : Hid (∀ k, from_ ≤ k → k < to_ → k / z ∈ l → hitB z from_ to_ l = true) := fun k h1 h2 h3 => hitB_yes h1 h2 h3
  have HN : Hid ((∀ k, from_ ≤ k → k < to_ → ¬ k / z ∈ l) → hitB z from_ to_ l = false) := hitB_no
  obtain ⟨r, hr⟩ : ∃ r, hitB z from_ to_ l = r := ⟨_, rfl⟩
  rw [hr] at HY HN ⊢
  obtain ⟨n, hn⟩ : ∃ n, l.length = n := ⟨_, rfl⟩
  rw [hn] at HA HM HI hl ⊢
  obtain ⟨G, hG⟩ : ∃ G : Nat → Nat, (fun i => l.getD i 0) = G := ⟨_, rfl⟩
  have HA2 : Hid (∀ i, i < n → ∃ g, a = some ⟨g, 0, none⟩ ∧ w.cell? ⟨g, i, none⟩ = some (.int .i64 (G i : Nat))) := fun i hi => by rw [← hG]; exact HA.out i hi
  have HM2 : Hid (∀ s, (∀ i, i < n → G i ≠ s) → ¬ s ∈ l) := fun s hs => HM.out s (fun i hi => by have := hs i hi; rw [← hG] at this; exact this)
  have HI2 : Hid (∀ i, i < n → G i ∈ l) := fun i hi => by rw [← hG]; exact HI.out i hi
  have hne : ((z : Int) == 0) = false := by simp; omega
  have hz3 : ¬ (z : Int) = 0 := by omega
  have hz4 : ¬ z = 0 := by omega
  have u1 : IntKind.i64.wrap (z : Int) = (z : Int) := by rw [IntKind.wrap_i64]; omega
  clear h hA hz hr hn hG HA HM HI
  go_enter Tryz.func81, Tryz.ntmps81
  go_wp2_with fail
  go_loopw [9] (fun kv wr => ∃ k m : Nat, from_ ≤ k ∧ kv = .int .i64 k ∧ (∀ j, from_ ≤ j → j < k → j < to_ → ¬ j / z ∈ l) ∧ wr = w.drewN m) (fun kv _ => to_ - (intOf kv).toNat)
  case atStart => exact ⟨from_, 0, Nat.le_refl _, rfl, fun j h1 h2 => absurd h1 (by omega), rfl⟩
  case round =>
    obtain ⟨k, m, hk, rfl, hno, hw⟩ := hrel
    have HNO : Hid _ := hno
    clear hno
    by_cases hlt : k < to_
    · have hin : (k : Int) < (to_ : Int) := by omega
      have d0 : wr.cell? ⟨x, 0, none⟩ = some (.int .i64 K) := by rw [hw]; exact c0
      have d2 : wr.cell? ⟨x, 2, none⟩ = some (.int .i64 C) := by rw [hw]; exact c2
      have hq1 : k / z ≤ k := Nat.div_le_self _ _
      obtain ⟨s, hs⟩ : ∃ s, k / z = s := ⟨_, rfl⟩
      rw [hs] at hq1
      have q1 : (k : Int) / (z : Int) = (s : Int) := by rw [← hs, Int.natCast_ediv]
      have q2 : (k : Int).tdiv (z : Int) = (s : Int) := by rw [Int.tdiv_eq_ediv_of_nonneg (by omega)]; exact q1
      have u2 : IntKind.i64.wrap (s : Int) = (s : Int) := by rw [IntKind.wrap_i64]; omega
      have HS : Hid _ := hs
      have HW : Hid _ := hw
      clear hs hw
      go_wp2_with fail
      go_quiet (fail)
      go_wp2_with fail
      obtain ⟨W2, hW2⟩ : ∃ W2, wr.drewN nq = W2 := ⟨_, rfl⟩
      have HW2 : Hid (W2 = w.drewN (m + nq)) := by show _ = _; rw [← hW2, HW.out, World.drewN_drewN]
      rw [hW2]
      clear hW2
      go_loopw [11] (fun iv wi => ∃ i : Nat, i ≤ n ∧ iv = .int .i64 i ∧ (∀ j, j < i → G j ≠ s) ∧ wi = W2) (fun iv _ => n - (intOf iv).toNat)
      case atStart => exact ⟨0, by omega, rfl, fun j hj => absurd hj (by omega), rfl⟩
      case round =>
        obtain ⟨i, hi, rfl, hnn, hwi⟩ := hrel
        subst hwi
        have HNN : Hid _ := hnn
        clear hnn
        by_cases hlt2 : i < n
        · have hin2 : (i : Int) < (n : Int) := by omega
          obtain ⟨ga, rfl, x0⟩ := HA2.out i hlt2
          have y0 : wr.cell? ⟨ga, i, none⟩ = some (.int .i64 (G i : Nat)) := by rw [HW2.out]; exact x0
          have hgi := HI2.out i hlt2
          obtain ⟨gi, hgi2⟩ : ∃ gi, G i = gi := ⟨_, rfl⟩
          rw [hgi2] at y0 hgi
          have HGI : Hid _ := hgi
          have HG2 : Hid _ := hgi2
          clear hgi hgi2 x0
          by_cases he : gi = s
          · have he' : ((gi : Int) == (s : Int)) = true := by simp [he]
            have HF : Hid (r = true) := HY.out k hk hlt (by rw [HS.out, ← he]; exact HGI.out)
            clear he
            go_wp2_with fail
            go_ret
            exact ⟨by rw [HF.out]; rfl, _, HW2.out⟩
          · have he' : ((gi : Int) == (s : Int)) = false := by simp; omega
            have HE : Hid (¬ gi = s) := he
            clear he
            go_wp2_with fail
            go_roundw
            case rel => exact ⟨i + 1, by omega, by go_num, fun j hj => by
              by_cases e : j = i
              · subst e; rw [HG2.out]; exact HE.out
              · exact HNN.out j (by omega), by first | rfl | trivial⟩
            case measure => simp [intOf]; omega
        · have hin2 : ¬ (i : Int) < (n : Int) := by omega
          obtain rfl : i = n := by omega
          have HX : Hid (¬ k / z ∈ l) := by show ¬ _; rw [HS.out]; exact HM2.out s HNN.out
          go_wp2_with fail
          go_roundw
          case rel => exact ⟨k + 1, _, by omega, by go_num, fun j h1 h2 h3 => by
            by_cases e : j = k
            · subst e; exact HX.out
            · exact HNO.out j h1 (by omega) h3, HW2.out⟩
          case measure => simp [intOf]; omega
    · have hin : ¬ (k : Int) < (to_ : Int) := by omega
      have HF : Hid (r = false) := HN.out (fun j h1 h2 => HNO.out j h1 (by omega) h2)
      have HW : Hid _ := hw
      clear hw
      go_wp2_with fail
      go_ret
      exact ⟨by rw [HF.out]; rfl, m, HW.out⟩
theorem there_any {B wb gl go gc cc x gf cf gp cp K M C V ns nb n v : Nat} {pl : Nat → Nat} {lost out : Nat → Bool} {cut : Nat → Nat} {w : World} (h : Wrk B wb gl go gc cc x gf cf gp cp K M C V ns nb pl lost out cut w) (hV : V ≤ 1000) (hv : v < V) (h1 : v * nb / V ≤ n) (h2 : n < (v + 1) * nb / V) :
    Calls Tryz.prog 39 #[.pointer (some ⟨wb, 0, none⟩), .int .i64 n] w fun e w' => e = .returned (.bool (!out v && decide (n < cut v))) ∧ w' = w := by
  have b0 : w.cell? ⟨wb, 0, none⟩ = some (.pointer (some ⟨x, 0, none⟩)) := cell_of_row _ _ _ _ 96 _ h.row
  have b2 : w.cell? ⟨wb, 2, none⟩ = some (.slice (some ⟨go, 0, none⟩) V V) := cell_of_row _ _ _ _ 96 _ h.row
  have b3 : w.cell? ⟨wb, 3, none⟩ = some (.slice (some ⟨gc, 0, none⟩) V cc) := cell_of_row _ _ _ _ 96 _ h.row
  have o1 : w.cell? ⟨go, v, none⟩ = some (.bool (out v)) := h.ou.cell v hv
  have d1 := h.cell hv
  have HVO : Hid _ := volumeOf_any x gf cf gp cp K M C V ns nb n v pl w h.pln hV hv h1 h2
  obtain ⟨ct, hct⟩ : ∃ ct, cut v = ct := ⟨_, rfl⟩
  obtain ⟨ov, hov⟩ : ∃ ov, out v = ov := ⟨_, rfl⟩
  rw [hct] at d1 ⊢
  rw [hov] at o1 ⊢
  clear h hct hov h1 h2
  go_enter Tryz.func39, Tryz.ntmps39
  go_wp2_with fail
  refine Calls.mono HVO.out ?_
  rintro e w1 ⟨rfl, rfl⟩
  cases ov
  · by_cases hc : n < ct
    · have hc' : (n : Int) < (ct : Int) := by omega
      have HD : Hid (decide (n < ct) = true) := decide_eq_true hc
      go_wp2_with fail
      go_ret
      exact ⟨by rw [HD.out]; rfl, rfl⟩
    · have hc' : ¬ (n : Int) < (ct : Int) := by omega
      have HD : Hid (decide (n < ct) = false) := decide_eq_false hc
      go_wp2_with fail
      go_ret
      exact ⟨by rw [HD.out]; rfl, rfl⟩
  · go_wp2_with fail
    go_ret
    exact ⟨rfl, rfl⟩
end Go.Proofs.YtadinjaocnlglaaGreatDoor
