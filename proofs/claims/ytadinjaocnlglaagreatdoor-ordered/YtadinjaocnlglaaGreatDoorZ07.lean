/-
  The walks of vault.Faults, sameMarks, told.
  The walk of varint.Of; plain: the bytes of a varint.
  Rows that are owned.
  A list made longer: its row is the old one, or a new one.
-/
import Derived.Test.YtadinjaocnlglaaGreatDoorZ06
import Derived.Test.YtadinjaocnlglaaGreatDoorProg
import Derived.WalkKit
import Derived.WalkSpells
import Derived.WalkLawsBesides
import Derived.BigRegion
import Derived.BigQuiet
import Derived.Deep.QuietTactic
import Derived.Deep.RegionWith
import Derived.Deep.RegionHeld3
import Derived.Deep.RegionLaw
namespace Go.Proofs.YtadinjaocnlglaaGreatDoor
open Go.RowKit
set_option maxHeartbeats 400000
theorem faults_nil (w : World) :
    Calls Tryz.prog 107 #[.nilIface] w fun e w' => e = .returned (.slice (some ⟨w.heap.size, 0, none⟩) 0 0) ∧ Below w.heap.size w w' := by
  have H : Hid _ := marks_nil w
  go_enter Tryz.func107, Tryz.ntmps107
  go_wp2_with fail
  refine Calls.mono H.out ?_
  rintro e w1 ⟨rfl, hB⟩
  go_wp2
  go_ret
  exact ⟨rfl, hB⟩
theorem faults_one (k i : Int) (e : Nat) (w : World) (hg : w.cell? ⟨0, 0, none⟩ = some (.iface 376 (.agg #[.pointer (some ⟨7, 63, none⟩)])))
    (he : w.heap[e]? = some (.cells #[.int .i64 k, .int .i64 i, .nilIface] 307 (0, 0))) :
    Calls Tryz.prog 107 #[.iface 305 (.pointer (some ⟨e, 0, none⟩))] w fun ev w' => ∃ g cap, ev = .returned (.slice (some ⟨g, 0, none⟩) 1 cap) ∧ w.heap.size ≤ g ∧ w'.cell? ⟨g, 0, none⟩ = some (.int .i64 k) ∧ w'.cell? ⟨g, 1, none⟩ = some (.int .i64 i) ∧ Below w.heap.size w w' := by
  have H : Hid _ := marks_one k i e w hg he
  clear hg he
  go_enter Tryz.func107, Tryz.ntmps107
  go_wp2_with fail
  refine Calls.mono H.out ?_
  rintro e w1 ⟨g, cap, rfl, h1, h2, h3, hB⟩
  go_wp2
  go_ret
  exact ⟨g, cap, rfl, h1, h2, h3, hB⟩
theorem sameM_0 (a1 a2 : Option Addr) (c1 c2 : Nat) (w : World) :
    Calls Tryz.prog 108 #[.slice a1 0 c1, .slice a2 0 c2] w fun e w' => e = .returned (.bool true) ∧ w' = w := by
  go_enter Tryz.func108, Tryz.ntmps108
  go_wp2
  refine wp_loop_rounds 1 ?_
  rw [rounds_succ]
  go_wp2
  go_ret
  exact ⟨rfl, rfl⟩
theorem sameM_1 (k i : Int) (g1 g2 c1 c2 : Nat) (w : World) (h1 : w.cell? ⟨g1, 0, none⟩ = some (.int .i64 k)) (h2 : w.cell? ⟨g1, 1, none⟩ = some (.int .i64 i)) (h3 : w.cell? ⟨g2, 0, none⟩ = some (.int .i64 k)) (h4 : w.cell? ⟨g2, 1, none⟩ = some (.int .i64 i)) :
    Calls Tryz.prog 108 #[.slice (some ⟨g1, 0, none⟩) 1 c1, .slice (some ⟨g2, 0, none⟩) 1 c2] w fun e w' => e = .returned (.bool true) ∧ Below w.heap.size w w' := by
  go_enter Tryz.func108, Tryz.ntmps108
  go_wp2
  refine wp_loop_rounds 2 ?_
  rw [rounds_succ]
  go_wp2
  go_quiet (fail)
  go_wp2
  rw [rounds_succ]
  go_wp2
  go_ret
  exact ⟨rfl, below_drewN (Below.refl _ _) _⟩
theorem told_none (w : World) :
    Calls Tryz.prog 64 #[.nilIface, .slice none 0 0] w fun e w' => e = .returned (.bool true) ∧ Below w.heap.size w w' := by
  have H : Hid _ := faults_nil w
  go_enter Tryz.func64, Tryz.ntmps64
  go_wp2_with fail
  refine Calls.mono H.out ?_
  rintro e w1 ⟨rfl, hB⟩
  go_wp2_with fail
  refine (sameM_0 _ _ _ _ _).mono ?_
  rintro e w2 ⟨rfl, rfl⟩
  go_wp2
  go_ret
  exact ⟨rfl, hB⟩
theorem told_one (k i : Int) (e g2 c2 : Nat) (w : World) (hg : w.cell? ⟨0, 0, none⟩ = some (.iface 376 (.agg #[.pointer (some ⟨7, 63, none⟩)])))
    (he : w.heap[e]? = some (.cells #[.int .i64 k, .int .i64 i, .nilIface] 307 (0, 0))) (h3 : w.cell? ⟨g2, 0, none⟩ = some (.int .i64 k)) (h4 : w.cell? ⟨g2, 1, none⟩ = some (.int .i64 i)) :
    Calls Tryz.prog 64 #[.iface 305 (.pointer (some ⟨e, 0, none⟩)), .slice (some ⟨g2, 0, none⟩) 1 c2] w fun e w' => e = .returned (.bool true) ∧ Below w.heap.size w w' := by
  have H : Hid _ := faults_one k i e w hg he
  have H3 : Hid _ := h3
  have H4 : Hid _ := h4
  have hl := block_lt_of_cell h3
  clear hg he h3 h4
  go_enter Tryz.func64, Tryz.ntmps64
  go_wp2_with fail
  refine Calls.mono H.out ?_
  rintro ev w1 ⟨g, cap, rfl, hg1, r0, r1, hB⟩
  have HR0 : Hid _ := r0
  have HR1 : Hid _ := r1
  have HB : Hid _ := hB
  clear r0 r1 hB
  go_wp2_with fail
  refine (sameM_1 k i g g2 cap c2 w1 HR0.out HR1.out ((HB.out.cell (p := ⟨g2, 0, none⟩) hl).trans H3.out) ((HB.out.cell (p := ⟨g2, 1, none⟩) hl).trans H4.out)).mono ?_
  rintro ev w2 ⟨rfl, hB2⟩
  have hB3 := HB.out.trans (hB2.mono HB.out.size)
  clear hB2
  go_wp2
  go_ret
  exact ⟨rfl, hB3⟩
end Go.Proofs.YtadinjaocnlglaaGreatDoor
namespace Go.Proofs.YtadinjaocnlglaaGreatDoor
open Go.RowKit
set_option maxRecDepth 100000
/-- the bytes of the varint of a number, at most f + 1 of them -/
def vb : Nat → Nat → List Nat
  | 0, n => [n]
  | f + 1, n => if n < 128 then [n] else (n % 128 + 128) :: vb f (n / 128)
theorem vb_len : ∀ f n, (vb f n).length ≤ f + 1
  | 0, n => by simp [vb]
  | f + 1, n => by
    rw [vb]
    have := vb_len f (n / 128)
    split
    · simp
    · simp; omega
def u8s (l : List Nat) : List Value := l.map fun x => .int .u8 ((x : Nat) : Int)
theorem u8s_snoc (l : List Nat) (x : Nat) : u8s (l ++ [x]) = u8s l ++ [.int .u8 ((x : Nat) : Int)] := by simp [u8s]
/-- the varint of a number, as a text -/
def vint (n : Nat) : ByteArray := strOfNums ((vb 4 n).map fun x => ((x : Nat) : Int))
theorem vint_size (n : Nat) : (vint n).size ≤ 5 := by
  unfold vint
  rw [strOfNums_size, List.length_map]
  exact vb_len 4 n
theorem or_128B : ∀ y : Fin 256, bits .or .u8 ((y.val : Nat) : Int) 128 = ((y.val % 128 + 128 : Nat) : Int) := by decide +kernel
theorem or_128 (x : Nat) : bits .or .u8 ((x : Int) % 256) 128 = ((x % 128 + 128 : Nat) : Int) := by
  have h := or_128B ⟨x % 256, Nat.mod_lt _ (by omega)⟩
  have e : ((x % 256 : Nat) : Int) = (x : Int) % 256 := by omega
  rw [← e, h]
  have e2 : x % 256 % 128 = x % 128 := by omega
  show (((x % 256) % 128 + 128 : Nat) : Int) = _
  rw [e2]
theorem info5v : (Tryz.prog.info? 5).map (fun i => (i.zero, i.size, i.bytes)) = some (some (.int .u8 0), 1, 1) := by kernel_rfl
theorem own_shape {w : World} {base : Nat} {e : TypeId} {size : Nat} {v : Value} {n : Nat} {xs : List Value} (h : w.ownsRow base e size v n xs) : ∃ a cap, v = .slice a n cap := by
  rcases h.2 with ⟨rfl, rfl⟩ | ⟨g, cap, cur, rfl, _⟩
  · exact ⟨none, 0, rfl⟩
  · exact ⟨_, _, rfl⟩
theorem own_lt {w : World} {base : Nat} {e : TypeId} {size : Nat} {v : Value} {n : Nat} {xs : List Value} (h : w.ownsRow base e size v n xs) : ∀ r, v.ownBlock = some r → r < w.heap.size := by
  intro r hr
  rcases h.2 with ⟨rfl, _⟩ | ⟨g, cap, cur, rfl, _, hg, _⟩
  · cases hr
  · cases hr; exact (Array.getElem?_eq_some_iff.1 hg).1
theorem own_ge {w : World} {base : Nat} {e : TypeId} {size : Nat} {v : Value} {n : Nat} {xs : List Value} (h : w.ownsRow base e size v n xs) : ∀ g, v.ownBlock = some g → base ≤ g := by
  intro g hg
  rcases h.2 with ⟨rfl, _⟩ | ⟨g', cap, cur, rfl, hb, _⟩
  · simp [Value.ownBlock] at hg
  · simp [Value.ownBlock] at hg; omega
theorem own_bytes {w : World} {base : Nat} {v : Value} {n : Nat} {l : List Nat} (h : w.ownsRow base 5 1 v n (u8s l)) (hl : l.length = n) (h0 : 0 < n) : (convert 165 9 v).run Tryz.prog w = .ok (.string (strOfNums (l.map fun x => ((x : Nat) : Int)))) w := by
  rcases h.2 with ⟨_, h1⟩ | ⟨g, cap, cur, hv, _⟩
  · omega
  · subst hv
    refine run_convert_bytes_arg (P := Tryz.prog) w 165 5 Tryz.underlying165 Tryz.underlying5 g 0 n cap (l.map fun x => ((x : Nat) : Int)) (by simp [hl]) (fun i hi => ?_) 9 Tryz.underlying9
    rw [Nat.zero_add, h.cellAt i (by omega)]
    simp [u8s, hl, hi]
set_option maxHeartbeats 2000000 in
theorem varint_any (n : Nat) (w : World) (hn : n < 4294967296) :
    Calls Tryz.prog 183 #[.int .u32 n] w fun e w' => e = .returned (.string (vint n)) ∧ Below w.heap.size w w' := by
  obtain ⟨i0, hi, hz0, hz1, hz2⟩ := info_parts info5v
  go_enter Tryz.func183, Tryz.ntmps183
  go_wp2
  go_loopw [0, 3] (fun xv v wr => ∃ (x f L : Nat) (pre : List Nat), xv = .int .u32 x ∧ x < 4294967296 ∧ x < 128 ^ (f + 1) ∧ f ≤ 4 ∧ pre.length = L ∧ L + f = 4 ∧ pre ++ vb f x = vb 4 n ∧ wr.ownsRow w.heap.size 5 1 v L (u8s pre) ∧ Below w.heap.size w wr) (fun xv _ _ => (intOf xv).toNat)
  case atStart => exact ⟨n, 4, 0, [], rfl, hn, by omega, by omega, rfl, by omega, rfl, World.ownsRow_nil _ _ _ _, Below.refl _ _⟩
  case round =>
    obtain ⟨x, f, L, pre, rfl, hx, hxf, hf, hL, hLf, hpre, hown, hbl⟩ := hrel
    obtain ⟨va, vc, hv⟩ := own_shape hown
    subst hv
    have HPR : Hid _ := hpre
    have HXF : Hid _ := hxf
    have HL : Hid _ := hL
    have HO : Hid (wr.ownsRow w.heap.size 5 1 (.slice va L vc) L (u8s pre)) := hown
    have HB : Hid (Below w.heap.size w wr) := hbl
    clear hpre hxf hL hown hbl
    by_cases hge : 128 ≤ x
    · have hor := or_128 x
      have hB' : w.heap.size ≤ (wr.alloc (Obj.cells #[Value.int IntKind.u8 ((x % 128 + 128 : Nat) : Int)] 5)).heap.size := by have := HB.out.size; simp; omega
      have hgi : (128 : Int) ≤ (x : Int) := by omega
      go_wp2_with (at_builtin; refine wpList_append_own_at _ rfl (.tmp 6) (.tmp 10) 165 rfl w.heap.size 5 i0 (.int .u8 0) 1 1 Tryz.underlying165 hi hz0 hz1 hz2 rfl (by decide) _ L (u8s pre) rfl (HO.out.alloc _) ⟨wr.heap.size, 0, none⟩ 1 1 [.int .u8 ((x % 128 + 128 : Nat) : Int)] rfl rfl (cell_one_new _ _ _) (by intro u hu; simp at hu; subst hu; rfl) ?kb ?kc hB' ?_)
      case kb => unfold maxLen; omega
      case kc => omega
      intro v' w' hown' hgrow _ hblk
      have hbl' : Below w.heap.size w w' := (HB.out.alloc HB.out.size _).grown hgrow hB' (fun g hg => own_ge HO.out g hg)
      have ho' : w'.ownsRow w.heap.size 5 1 v' (L + 1) (u8s (pre ++ [x % 128 + 128])) := by rw [u8s_snoc]; exact hown'
      clear hown' hgrow hblk HO HB hB' hor
      go_wp2
      go_roundw
      case rel =>
        have h1 := HXF.out
        have hf1 : 1 ≤ f := by
          rcases Nat.eq_zero_or_pos f with h | h
          · rw [h] at h1; omega
          · exact h
        obtain ⟨f', rfl⟩ : ∃ f', f = f' + 1 := ⟨f - 1, by omega⟩
        refine ⟨x / 128, f', L + 1, pre ++ [x % 128 + 128], by go_num, by omega, ?_, by omega, by simp [HL.out], by omega, ?_, ho', hbl'⟩
        · rw [Nat.pow_succ] at h1; omega
        · rw [← HPR.out, vb, if_neg (by omega), List.append_assoc]; rfl
      case measure => simp [intOf]; omega
    · have hgi : (x : Int) < 128 := by omega
      have hmod : (x : Int) % 256 = (x : Int) := by omega
      have HV : Hid (pre ++ [x] = vb 4 n) := by
        show pre ++ [x] = vb 4 n
        rw [← HPR.out]
        cases f with
        | zero => rfl
        | succ f => rw [vb, if_pos (by omega)]
      have hB' : w.heap.size ≤ (wr.alloc (Obj.cells #[Value.int IntKind.u8 ((x : Nat) : Int)] 5)).heap.size := by have := HB.out.size; simp; omega
      go_wp2_with (at_builtin; refine wpList_append_own_at _ rfl (.tmp 14) (.tmp 17) 165 rfl w.heap.size 5 i0 (.int .u8 0) 1 1 Tryz.underlying165 hi hz0 hz1 hz2 rfl (by decide) _ L (u8s pre) rfl (HO.out.alloc _) ⟨wr.heap.size, 0, none⟩ 1 1 [.int .u8 ((x : Nat) : Int)] rfl rfl (cell_one_new _ _ _) (by intro u hu; simp at hu; subst hu; rfl) ?kb ?kc hB' ?_)
      case kb => unfold maxLen; omega
      case kc => omega
      intro v' w' hown' hgrow _ hblk
      have hbl' : Below w.heap.size w w' := (HB.out.alloc HB.out.size _).grown hgrow hB' (fun g hg => own_ge HO.out g hg)
      have ho' : w'.ownsRow w.heap.size 5 1 v' (L + 1) (u8s (pre ++ [x])) := by rw [u8s_snoc]; exact hown'
      have hcv := own_bytes ho' (by simp [HL.out]) (by omega)
      rw [HV.out] at hcv
      clear hown' hgrow hblk HO HB hB' ho'
      go_wp2
      go_ret
      exact ⟨rfl, hbl'⟩
end Go.Proofs.YtadinjaocnlglaaGreatDoor
namespace Go.Proofs.YtadinjaocnlglaaGreatDoor
open Go.RowKit
theorem own_below {w w' : World} {base : Nat} {e : TypeId} {size : Nat} {v : Value} {n : Nat} {xs : List Value} (h : w.ownsRow base e size v n xs) (hb : Below w.heap.size w w') : w'.ownsRow base e size v n xs := by
  refine ⟨h.1, ?_⟩
  rcases h.2 with h2 | ⟨g, cap, cur, hv, hg, hh, rest⟩
  · exact .inl h2
  · exact .inr ⟨g, cap, cur, hv, hg, by rw [hb.block g (Array.getElem?_eq_some_iff.1 hh).1]; exact hh, rest⟩
theorem str_one (t : ByteArray) : ∀ u ∈ [Value.string t], u.oneCell' = true := by
  intro u hu; simp at hu; subst hu; rfl
theorem step_append_own {P : Program} {ops : Array Oper} {o : Oper} {a : Act} {w : World} {K : Act → World → Prop} {Q : Exit → Act → World → Prop} {E : Prop}
    (hg : o.guard = none) (s x : Operand) (t : TypeId) (hop : o.op = Op.call { callee := Callee.builtin Builtin.append, args := #[s, x], argTypes := #[t, t] })
    (e : TypeId) (i : TypeInfo) (z : Value) (size bytes : Nat) (h1 : P.underlying t = some (.slice e)) (h2 : P.info? e = some i) (h3 : i.zero = some z) (h4 : i.size = size) (h5 : i.bytes = bytes) (h6 : z.cells.size = size) (h7 : 0 < size)
    (base : Nat) (v : Value) (n : Nat) (xs : List Value) (hs : a.eval s = v) (hown : w.ownsRow base e size v n xs)
    (ad : Addr) (m c : Nat) (news : List Value) (hx : a.eval x = .slice (some ad) m c) (hn : news.length = m * size) (hc : ∀ j u, news[j]? = some u → w.cell? (ad.add j) = some u) (h1c : ∀ u ∈ news, u.oneCell' = true)
    (b1 : n + m ≤ maxLen) (b2 : (n + m) * bytes ≤ 140737488355328) (hbase : base ≤ w.heap.size)
    (hK : ∀ v' w', w'.ownsRow base e size v' (n + m) (xs ++ news) → w.grownBy w' v.ownBlock → K (a.put o.dst v') w') :
    if Region.wanted o (yielded ops a.tmps) = true then Oper.wp P o a w K Q else E := by
  have hw : Region.wanted o (yielded ops a.tmps) = true := by simp [Region.wanted, hg]
  rw [if_pos hw]
  obtain ⟨v', w', hrun, r1, r2, _⟩ := run_append_own (P := P) w base t o.type e i z size bytes h1 h2 h3 h4 h5 h6 h7 v n xs hown ad m c news hn hc h1c b1 b2 hbase
  unfold Oper.wp
  simp [execOp, hop, resolve, invoke, builtin, hs, hx, hrun, Result.andThen]
  exact hK v' w' r1 r2
end Go.Proofs.YtadinjaocnlglaaGreatDoor
namespace Go.Proofs.YtadinjaocnlglaaGreatDoor
open Go.RowKit
theorem app_at {P : Program} (w : World) (base : Nat) (t ty e : TypeId) (i : TypeInfo) (z : Value) (size bytes : Nat) (ht : P.underlying t = some (.slice e)) (hi : P.info? e = some i) (hz : i.zero = some z)
    (hsize : i.size = size) (hby : i.bytes = bytes) (hzs : z.cells.size = size) (hsz : 0 < size) (v : Value) (n : Nat) (xs : List Value) (hown : w.ownsRow base e size v n xs)
    (ad : Addr) (m c : Nat) (news : List Value) (hl : news.length = m * size) (hnews : ∀ j u, news[j]? = some u → w.cell? (ad.add j) = some u) (h1 : ∀ u ∈ news, u.oneCell' = true)
    (h63 : n + m ≤ maxLen) (hbytes : (n + m) * bytes ≤ 140737488355328) (v' : Value) (w' : World) (hr : (Builtin.append_ #[t, t] ty #[v, .slice (some ad) m c]).run P w = .ok v' w') :
    v'.ownBlock = v.ownBlock ∨ ∃ q, v'.ownBlock = some q ∧ w.heap.size ≤ q := by
  rcases hown.2 with ⟨rfl, rfl⟩ | ⟨g, cap, cur, rfl, hbg, hg, hnc, hcm, hcs, htake⟩
  · obtain ⟨v2, w2, hr2, ho2, _⟩ := run_append_own (P := P) w w.heap.size t ty e i z size bytes ht hi hz hsize hby hzs hsz (.slice none 0 0) 0 xs ⟨hown.1, .inl ⟨rfl, rfl⟩⟩ ad m c news hl hnews h1 h63 hbytes (Nat.le_refl _)
    rw [hr] at hr2
    obtain ⟨rfl, rfl⟩ : v' = v2 ∧ w' = w2 := by simpa using hr2
    rcases ho2.2 with ⟨h1, _⟩ | ⟨g, cap, cur, h1, hb, _⟩
    · left; rw [h1]
    · right; exact ⟨g, by rw [h1]; rfl, hb⟩
  · subst hsize
    subst hby
    have hm63 : n + m ≤ 9223372036854775807 := by simp only [maxLen] at h63; omega
    by_cases hroom : n + m ≤ cap
    · have hfit : n * i.size + news.length ≤ cur.size := by rw [hl, hcs, ← Nat.add_mul]; exact Nat.mul_le_mul_right _ hroom
      have hr2 := run_append_room (P := P) w t ty e i ht hi g n cap cur hg ad m c news hl hnews h1 hroom hfit
      rw [hr] at hr2
      have e1 := (Result.ok.inj hr2).1
      left; rw [e1]; rfl
    · have holds : ∀ j u, xs[j]? = some u → w.cell? ((⟨g, 0, none⟩ : Addr).add j) = some u := hown.cells (g := g) rfl
      have hr2 := run_append_grow (P := P) w t ty e i z ht hi hz ⟨g, 0, none⟩ n cap xs hown.1 holds ad m c news hl hnews (by omega) (by omega) (growslice_fits (by omega) hbytes)
      rw [hr] at hr2
      have e1 := (Result.ok.inj hr2).1
      right; exact ⟨w.heap.size, by rw [e1]; rfl, Nat.le_refl _⟩
theorem wp_append2 {P : Program} {w : World} {o : Oper} {a : Act} {K : Act → World → Prop} {Q : Exit → Act → World → Prop} (s x : Operand) (t : TypeId) (hop : o.op = .call { callee := .builtin .append, args := #[s, x], argTypes := #[t, t] })
    (e : TypeId) (i : TypeInfo) (z : Value) (size bytes : Nat) (h1 : P.underlying t = some (.slice e)) (h2 : P.info? e = some i) (h3 : i.zero = some z) (h4 : i.size = size) (h5 : i.bytes = bytes) (h6 : z.cells.size = size) (h7 : 0 < size)
    (base : Nat) (v : Value) (n : Nat) (xs : List Value) (hs : a.eval s = v) (hown : w.ownsRow base e size v n xs)
    (ad : Addr) (m c : Nat) (news : List Value) (hx : a.eval x = .slice (some ad) m c) (hn : news.length = m * size) (hc : ∀ j u, news[j]? = some u → w.cell? (ad.add j) = some u) (h1c : ∀ u ∈ news, u.oneCell' = true)
    (b1 : n + m ≤ maxLen) (b2 : (n + m) * bytes ≤ 140737488355328) (hbase : base ≤ w.heap.size)
    (hK : ∀ v' w', w'.ownsRow base e size v' (n + m) (xs ++ news) → w.grownBy w' v.ownBlock → (v'.ownBlock = v.ownBlock ∨ ∃ q, v'.ownBlock = some q ∧ w.heap.size ≤ q) → K (a.put o.dst v') w') : o.wp P a w K Q := by
  obtain ⟨v', w', hrun, r1, r2, _⟩ := run_append_own (P := P) w base t o.type e i z size bytes h1 h2 h3 h4 h5 h6 h7 v n xs hown ad m c news hn hc h1c b1 b2 hbase
  have r3 := app_at w base t o.type e i z size bytes h1 h2 h3 h4 h5 h6 h7 v n xs hown ad m c news hn hc h1c b1 b2 v' w' hrun
  unfold Oper.wp
  simp [execOp, hop, resolve, invoke, builtin, hs, hx, hrun, Result.andThen]
  exact hK v' w' r1 r2 r3
theorem step_append_own2 {P : Program} {ops : Array Oper} {o : Oper} {a : Act} {w : World} {K : Act → World → Prop} {Q : Exit → Act → World → Prop} {E : Prop}
    (hg : o.guard = none) (s x : Operand) (t : TypeId) (hop : o.op = Op.call { callee := Callee.builtin Builtin.append, args := #[s, x], argTypes := #[t, t] })
    (e : TypeId) (i : TypeInfo) (z : Value) (size bytes : Nat) (h1 : P.underlying t = some (.slice e)) (h2 : P.info? e = some i) (h3 : i.zero = some z) (h4 : i.size = size) (h5 : i.bytes = bytes) (h6 : z.cells.size = size) (h7 : 0 < size)
    (base : Nat) (v : Value) (n : Nat) (xs : List Value) (hs : a.eval s = v) (hown : w.ownsRow base e size v n xs)
    (ad : Addr) (m c : Nat) (news : List Value) (hx : a.eval x = .slice (some ad) m c) (hn : news.length = m * size) (hc : ∀ j u, news[j]? = some u → w.cell? (ad.add j) = some u) (h1c : ∀ u ∈ news, u.oneCell' = true)
    (b1 : n + m ≤ maxLen) (b2 : (n + m) * bytes ≤ 140737488355328) (hbase : base ≤ w.heap.size)
    (hK : ∀ v' w', w'.ownsRow base e size v' (n + m) (xs ++ news) → w.grownBy w' v.ownBlock → (v'.ownBlock = v.ownBlock ∨ ∃ q, v'.ownBlock = some q ∧ w.heap.size ≤ q) → K (a.put o.dst v') w') :
    if Region.wanted o (yielded ops a.tmps) = true then Oper.wp P o a w K Q else E := by
  rw [if_pos (show Region.wanted o (yielded ops a.tmps) = true by simp [Region.wanted, hg])]
  exact wp_append2 s x t hop e i z size bytes h1 h2 h3 h4 h5 h6 h7 base v n xs hs hown ad m c news hx hn hc h1c b1 b2 hbase hK
theorem wpList_append2 {P : Program} {w : World} {ops : Array Oper} {rest : List Oper} {o : Oper} {a : Act} {Q : Exit → Act → World → Prop} (hg : o.guard = none) (s x : Operand) (t : TypeId) (hop : o.op = .call { callee := .builtin .append, args := #[s, x], argTypes := #[t, t] })
    (e : TypeId) (i : TypeInfo) (z : Value) (size bytes : Nat) (h1 : P.underlying t = some (.slice e)) (h2 : P.info? e = some i) (h3 : i.zero = some z) (h4 : i.size = size) (h5 : i.bytes = bytes) (h6 : z.cells.size = size) (h7 : 0 < size)
    (base : Nat) (v : Value) (n : Nat) (xs : List Value) (hs : a.eval s = v) (hown : w.ownsRow base e size v n xs)
    (ad : Addr) (m c : Nat) (news : List Value) (hx : a.eval x = .slice (some ad) m c) (hn : news.length = m * size) (hc : ∀ j u, news[j]? = some u → w.cell? (ad.add j) = some u) (h1c : ∀ u ∈ news, u.oneCell' = true)
    (b1 : n + m ≤ maxLen) (b2 : (n + m) * bytes ≤ 140737488355328) (hbase : base ≤ w.heap.size)
    (hK : ∀ v' w', w'.ownsRow base e size v' (n + m) (xs ++ news) → w.grownBy w' v.ownBlock → (v'.ownBlock = v.ownBlock ∨ ∃ q, v'.ownBlock = some q ∧ w.heap.size ≤ q) → wpList P ops Q rest (a.put o.dst v') w') : wpList P ops Q (o :: rest) a w :=
  wpList_plain hg fun _ hk => wp_append2 s x t hop e i z size bytes h1 h2 h3 h4 h5 h6 h7 base v n xs hs hown ad m c news hx hn hc h1c b1 b2 hbase fun v' w' r1 r2 r3 => hk _ _ (hK v' w' r1 r2 r3)
end Go.Proofs.YtadinjaocnlglaaGreatDoor
