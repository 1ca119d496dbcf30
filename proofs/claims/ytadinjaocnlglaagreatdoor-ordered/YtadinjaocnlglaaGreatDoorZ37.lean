/-
  The document's Blocks and List.
  Close of the document's Writer, where it is refused.
-/
import Derived.Test.YtadinjaocnlglaaGreatDoorZ35
import Derived.Test.YtadinjaocnlglaaGreatDoorZ36
import Derived.Test.YtadinjaocnlglaaGreatDoorZ33
namespace Go.Proofs.YtadinjaocnlglaaGreatDoor
open Go.RowKit
set_option maxRecDepth 100000
set_option maxHeartbeats 4000000
theorem rblocks_any (K M C V len z : Nat) (w : World) (hz : K * C = z) (hz0 : 0 < z) (hz1 : z ≤ 100000) (hl : len ≤ 100000) (hK : K ≤ 1000) (hM : M ≤ 1000) :
    Calls Tryz.prog 133 #[.agg #[.int .i64 K, .int .i64 M, .int .i64 C, .int .i64 V], .int .i64 len] w fun e w' => e = .returned (.int .i64 (nst z len * (K + M) : Nat)) ∧ Below w.heap.size w w' := by
  have e1 : (K : Int) * (C : Int) = (z : Int) := by rw [← hz]; simp
  have e2 : (len : Int) + (z : Int) - 1 = ((len + z - 1 : Nat) : Int) := by omega
  have d1 : ((len : Int) + (z : Int) - 1) / (z : Int) = (((len + z - 1) / z : Nat) : Int) := by rw [e2, Int.natCast_ediv]
  have hne : ((z : Int) == 0) = false := by simp; omega
  have hns : nst z len ≤ 200000 := Nat.le_trans (Nat.div_le_self _ _) (by omega)
  have hd : nst z len = (len + z - 1) / z := rfl
  rw [← hd] at d1
  obtain ⟨n, hn⟩ : ∃ n, nst z len = n := ⟨_, rfl⟩
  rw [hn] at d1 hns ⊢
  have h1 : n * (K + M) ≤ 400000000 := Nat.le_trans (Nat.mul_le_mul hns (show K + M ≤ 2000 by omega)) (by omega)
  obtain ⟨r, hr⟩ : ∃ r, n * (K + M) = r := ⟨_, rfl⟩
  have e3 : (n : Int) * ((K : Int) + (M : Int)) = (r : Int) := by rw [← hr]; simp
  have e4 : ((len : Int) + (z : Int) - 1) / (z : Int) * ((K : Int) + (M : Int)) = (r : Int) := by rw [d1, e3]
  have E4 : Hid _ := e4
  rw [hr] at h1 ⊢
  clear hn hr hz e2 d1 hd e3 e4
  have hO : (w.alloc (Obj.cells #[Value.int IntKind.i64 K, Value.int IntKind.i64 M, Value.int IntKind.i64 C, Value.int IntKind.i64 V] 23)).heap[w.heap.size]? = some (.cells #[.int .i64 K, .int .i64 M, .int .i64 C, .int .i64 V] 23 (0, 0)) := heap_alloc_new _ _
  have c0 := cell_of_row _ _ 0 _ 23 _ hO
  have c1 := cell_of_row _ _ 1 _ 23 _ hO
  clear hO
  go_enter Tryz.func133, Tryz.ntmps133
  go_wp2
  go_quiet (fail)
  go_wp2
  go_ret
  refine ⟨?_, below_drewN ((Below.refl _ _).alloc (Nat.le_refl _) _) nq⟩
  show Ending.returned (.int .i64 (wrap64 (((len : Int) + (z : Int) - 1) / (z : Int) * ((K : Int) + (M : Int))))) = _
  have a2 : wrap64 (r : Int) = (r : Int) := by unfold wrap64; omega
  rw [E4.out, a2]
/-- the list's head -/
def hdT (K M C V n : Nat) : ByteArray := ⟨#[86, 76, 84, 49]⟩ ++ vint K ++ vint M ++ vint C ++ vint V ++ vint n
/-- and so many entries -/
def lsE (h : ByteArray) (Nm : Nat → ByteArray) (Ln : Nat → Nat) : Nat → ByteArray
  | 0 => h
  | j + 1 => lsE h Nm Ln j ++ vint (Nm j).size ++ Nm j ++ vint (Ln j)
theorem lsE_eq (h : ByteArray) (l : List UInt8) (hh : h.data.toList = l) (Nm : Nat → ByteArray) (Ln : Nat → Nat) : ∀ j, (lsE h Nm Ln j).data.toList = lst2 l Nm Ln j
  | 0 => hh
  | j + 1 => by
    rw [lsE, lst2, ← lsE_eq h l hh Nm Ln j]; simp
theorem hdT_eq (K M C V n : Nat) : (hdT K M C V n).data.toList = lst1 (num5 K M C V n) 5 := by
  unfold hdT
  simp [lst1, num5, vltT]
theorem lstT_eq (K M C V n : Nat) (Nm : Nat → ByteArray) (Ln : Nat → Nat) : lstT K M C V n Nm Ln = lsE (hdT K M C V n) Nm Ln n := by
  apply by_inj
  rw [lsE_eq (hdT K M C V n) _ (hdT_eq K M C V n)]
  rfl
theorem lsE_size (h : ByteArray) (Nm : Nat → ByteArray) (Ln : Nat → Nat) (hN : ∀ j, (Nm j).size ≤ 1000) : ∀ j, (lsE h Nm Ln j).size ≤ h.size + 1010 * j
  | 0 => by simp [lsE]
  | j + 1 => by
    have h1 := lsE_size h Nm Ln hN j
    have h2 := hN j
    have h3 := vint_size (Nm j).size
    have h4 := vint_size (Ln j)
    rw [lsE, ByteArray.size_append, ByteArray.size_append, ByteArray.size_append]; omega
theorem rlist_any (K M C V n cap : Nat) (a : Option Addr) (Nm : Nat → ByteArray) (Ln : Nat → Nat) (w : World) (hK : K ≤ 100000) (hM : M ≤ 100000) (hC : C ≤ 100000) (hV : V ≤ 100000) (hn : n ≤ 100000) (hN : ∀ j, (Nm j).size ≤ 1000) (hLn : ∀ j, Ln j ≤ 100000)
    (hE : ∀ j, j < n → ∃ b, a = some ⟨b, 0, none⟩ ∧ b < w.heap.size ∧ w.cell? ⟨b, j * 2, none⟩ = some (.string (Nm j)) ∧ w.cell? ⟨b, j * 2 + 1, none⟩ = some (.int .i64 (Ln j))) :
    Calls Tryz.prog 85 #[.agg #[.int .i64 K, .int .i64 M, .int .i64 C, .int .i64 V], .slice a n cap] w fun e w' => e = .returned (.string (lstT K M C V n Nm Ln)) ∧ Below w.heap.size w w' := by
  rw [lstT_eq]
  have HE : Hid _ := hE
  have HN : Hid _ := hN
  have HLN : Hid _ := hLn
  have vK := vint_size K
  have vM := vint_size M
  have vC := vint_size C
  have vV := vint_size V
  have vn := vint_size n
  have hv4 : (⟨#[86, 76, 84, 49]⟩ : ByteArray).size = 4 := rfl
  have k1 : ¬ (9223372036854775807 < 4 + (vint K).size) := by omega
  have k2 : ¬ (9223372036854775807 < 4 + (vint K).size + (vint M).size) := by omega
  have k3 : ¬ (9223372036854775807 < 4 + (vint K).size + (vint M).size + (vint C).size) := by omega
  have k4 : ¬ (9223372036854775807 < 4 + (vint K).size + (vint M).size + (vint C).size + (vint V).size) := by omega
  have k5 : ¬ (9223372036854775807 < 4 + (vint K).size + (vint M).size + (vint C).size + (vint V).size + (vint n).size) := by omega
  have HH : Hid ((hdT K M C V n).size ≤ 29) := by
    show _ ≤ _
    unfold hdT
    rw [ByteArray.size_append, ByteArray.size_append, ByteArray.size_append, ByteArray.size_append, ByteArray.size_append, hv4]; omega
  have HBX : Hid (Below w.heap.size w (w.alloc (.cells #[.int .i64 K, .int .i64 M, .int .i64 C, .int .i64 V] 23))) := (Below.refl _ _).alloc (Nat.le_refl _) _
  have hO : (w.alloc (.cells #[.int .i64 K, .int .i64 M, .int .i64 C, .int .i64 V] 23)).heap[w.heap.size]? = some (.cells #[.int .i64 K, .int .i64 M, .int .i64 C, .int .i64 V] 23 (0, 0)) := heap_alloc_new _ _
  obtain ⟨s0, hs0⟩ : ∃ s0, w.alloc (.cells #[.int .i64 K, .int .i64 M, .int .i64 C, .int .i64 V] 23) = s0 := ⟨_, rfl⟩
  rw [hs0] at HBX hO
  have d0 : s0.cell? ⟨w.heap.size, 0, none⟩ = some (.int .i64 K) := cell_of_row _ _ _ _ 23 _ hO
  have d1 : s0.cell? ⟨w.heap.size, 1, none⟩ = some (.int .i64 M) := cell_of_row _ _ _ _ 23 _ hO
  have d2 : s0.cell? ⟨w.heap.size, 2, none⟩ = some (.int .i64 C) := cell_of_row _ _ _ _ 23 _ hO
  have d3 : s0.cell? ⟨w.heap.size, 3, none⟩ = some (.int .i64 V) := cell_of_row _ _ _ _ 23 _ hO
  have hxl : w.heap.size < s0.heap.size := (Array.getElem?_eq_some_iff.1 hO).1
  obtain ⟨x, hx⟩ : ∃ x, w.heap.size = x := ⟨_, rfl⟩
  have HX : Hid (w.heap.size = x) := hx
  clear hE hN hLn hO
  go_enter Tryz.func85, Tryz.ntmps85
  go_wp2_with fail
  rw [hx] at d0 d1 d2 d3 hxl
  clear hs0 hx
  go_region_held3 (fun w2 => w2.cell? ⟨x, 0, none⟩ = some (.int .i64 K) ∧ w2.cell? ⟨x, 1, none⟩ = some (.int .i64 M) ∧ w2.cell? ⟨x, 2, none⟩ = some (.int .i64 C) ∧ w2.cell? ⟨x, 3, none⟩ = some (.int .i64 V)) (go_keep) ((go_at_call 136; refine (rvint_any _ _ (by omega)).mono ?_; rintro e w2 ⟨rfl, hb2⟩; have hB2 : Below s0.heap.size s0 w2 := (by first | exact hB2.trans (hb2.mono hB2.size) | exact hb2 | exact ((Below.refl _ _).drew).trans hb2); have q0 := (hB2.cell (p := ⟨x, 0, none⟩) hxl).trans d0; have q1 := (hB2.cell (p := ⟨x, 1, none⟩) hxl).trans d1; have q2 := (hB2.cell (p := ⟨x, 2, none⟩) hxl).trans d2; have q3 := (hB2.cell (p := ⟨x, 3, none⟩) hxl).trans d3))
  have HB2 : Hid (Below w.heap.size w w2) := HBX.out.trans (hB2.mono HBX.out.size)
  have he : (⟨#[86, 76, 84, 49]⟩ : ByteArray) ++ vint K ++ vint M ++ vint C ++ vint V ++ vint n = hdT K M C V n := rfl
  rw [he]
  obtain ⟨h, hh⟩ : ∃ h, hdT K M C V n = h := ⟨_, rfl⟩
  have HHH : Hid _ := hh
  rw [hh] at HH ⊢
  clear he hh q0 q1 q2 q3 d0 d1 d2 d3 k1 k2 k3 k4 k5 vK vM vC vV vn hv4 hB2 hb2
  go_wp2
  go_loopw [5, 6] (fun sv jv wr => ∃ j : Nat, j ≤ n ∧ jv = .int .i64 j ∧ sv = .string (lsE h Nm Ln j) ∧ Below w.heap.size w wr) (fun _ jv _ => n - (intOf jv).toNat)
  case atStart => exact ⟨0, by omega, rfl, rfl, HB2.out⟩
  case round =>
    obtain ⟨j, hj, rfl, rfl, hb⟩ := hrel
    by_cases hlt : j < n
    · obtain ⟨b, ha, hbl, e0, e1⟩ := HE.out j hlt
      subst ha
      have g0 : wr.cell? ⟨b, j * 2, none⟩ = some (.string (Nm j)) := (hb.cell (p := ⟨b, j * 2, none⟩) hbl).trans e0
      have g1 : wr.cell? ⟨b, j * 2 + 1, none⟩ = some (.int .i64 (Ln j)) := (hb.cell (p := ⟨b, j * 2 + 1, none⟩) hbl).trans e1
      have z1 := lsE_size h Nm Ln HN.out j
      have z2 := HN.out j
      have z3 := vint_size (Nm j).size
      have z4 := vint_size (Ln j)
      have z5 := HLN.out j
      have HS : Hid (lsE h Nm Ln (j + 1) = lsE h Nm Ln j ++ vint (Nm j).size ++ Nm j ++ vint (Ln j)) := rfl
      have hh29 := HH.out
      obtain ⟨A, hA⟩ : ∃ A, lsE h Nm Ln j = A := ⟨_, rfl⟩
      obtain ⟨T, hT⟩ : ∃ T, Nm j = T := ⟨_, rfl⟩
      obtain ⟨L, hL⟩ : ∃ L, Ln j = L := ⟨_, rfl⟩
      rw [hA, hT, hL] at HS
      rw [hA] at z1 ⊢
      rw [hT] at g0 z2 z3
      rw [hL] at g1 z4 z5
      have k1 : ¬ (9223372036854775807 < A.size + (vint T.size).size) := by omega
      have k2 : ¬ (9223372036854775807 < A.size + (vint T.size).size + T.size) := by omega
      have k3 : ¬ (9223372036854775807 < A.size + (vint T.size).size + T.size + (vint L).size) := by omega
      have hbl2 : b < wr.heap.size := Nat.lt_of_lt_of_le hbl hb.size
      have HBR : Hid (Below w.heap.size w wr) := hb
      have hj0 : (0 : Int) ≤ (j : Int) := by omega
      have hjn : (j : Int) < (n : Int) := by omega
      clear hA hT hL e0 e1 hb
      go_wp2_with fail
      go_region_held3 (fun w2 => w2.cell? ⟨b, j * 2, none⟩ = some (.string T) ∧ w2.cell? ⟨b, j * 2 + 1, none⟩ = some (.int .i64 L)) (go_keep) ((go_at_call 136; refine (rvint_any _ _ (by omega)).mono ?_; rintro e w3 ⟨rfl, hb3⟩; have hB3 : Below wr.heap.size wr w3 := (by first | exact hB3.trans (hb3.mono hB3.size) | exact hb3 | exact ((Below.refl _ _).drew).trans hb3); have q0 := (hB3.cell (p := ⟨b, j * 2, none⟩) hbl2).trans g0; have q1 := (hB3.cell (p := ⟨b, j * 2 + 1, none⟩) hbl2).trans g1))
      have HB3 : Hid (Below w.heap.size w w3) := HBR.out.trans (hB3.mono HBR.out.size)
      clear q0 q1 g0 g1 hB3 hb3
      go_wp2
      go_roundw
      case rel => exact ⟨j + 1, by omega, by go_num, by rw [HS.out], HB3.out⟩
      case measure => simp [intOf]; omega
    · have e : j = n := by omega
      subst e
      have HBR : Hid (Below w.heap.size w wr) := hb
      clear hb
      go_wp2
      go_ret
      exact ⟨by rw [HHH.out]; rfl, HBR.out⟩
end Go.Proofs.YtadinjaocnlglaaGreatDoor
namespace Go.Proofs.YtadinjaocnlglaaGreatDoor
open Go.RowKit
set_option maxRecDepth 100000
set_option maxHeartbeats 4000000
/-- the Writer is closed -/
theorem YI.shut {y : Nat} {S : Nat → Prop} {A : AW} {w : World} (h : YI y S A w) : YI y S A.clA (w.setCell ⟨y, 7, none⟩ (.bool true)) := by
  obtain ⟨vn, vd, vb, h1, h2, h3, h4, h5, h6, h7, h8⟩ := h.cells
  have hk : ∀ q, q ≠ y → (w.setCell ⟨y, 7, none⟩ (.bool true)).heap[q]? = w.heap[q]? := fun q hq => set_other _ _ _ _ _ hq
  have ne : ∀ (e : TypeId) (size n : Nat) (v : Value) (xs : List Value), e ≠ 185 → w.ownsRow 0 e size v n xs → ∀ q, v.ownBlock = some q → q ≠ y := fun e size n v xs he ho q hq e' => by
    obtain ⟨cur, hc⟩ := own_type ho q hq
    rw [e', h1] at hc; simp at hc; exact he hc.2.symm
  refine ⟨h.sy, fun j hj => by have := h.lt j hj; simpa [World.setCell] using this, vn, vd, vb, ?_, own_kept h2 (fun q hq => hk q (ne 9 1 _ _ _ (by decide) h2 q hq)), own_kept h3 (fun q hq => hk q (ne 9 1 _ _ _ (by decide) h3 q hq)), own_kept h4 (fun q hq => hk q (ne 250 2 _ _ _ (by decide) h4 q hq)), h5, h6, h7, h8⟩
  have := set_heap w y 7 (.bool true) _ _ _ h1
  simpa [yC, AW.clA] using this
theorem YDid.shut {y : Nat} {S : Nat → Prop} {A : AW} {w w' : World} (h : YI y S A w) (hb : Below (w.setCell ⟨y, 7, none⟩ (.bool true)).heap.size (w.setCell ⟨y, 7, none⟩ (.bool true)) w') : YDid y S A.clA w w' :=
  YDid.then ⟨S, h.shut, Gro.refl _ _, (Fr.refl S w).set (g := y) (.inl h.sy) 7 _⟩ hb
theorem rclose_cl (y : Nat) (S : Nat → Prop) (A : AW) (w : World) (hI : YI y S A w) (hc : A.cl = true) :
    Calls Tryz.prog 98 #[.pointer (some ⟨y, 0, none⟩)] w fun e w' => ∃ v, e = .returned (.tuple #[.slice none 0 0, .string ⟨#[]⟩, v]) ∧ w'.ownsRow 0 250 2 v 1 (mkL [(5, (A.n : Int))]) ∧ Below w.heap.size w w' := by
  obtain ⟨vn, vd, vb, hy, hnn, _⟩ := hI.cells
  obtain ⟨an, cn, hv⟩ := own_shape hnn
  subst hv
  have c4 : w.cell? ⟨y, 4, none⟩ = some (.slice an A.n cn) := cell_of_row _ _ _ _ 185 _ hy
  have c7 : w.cell? ⟨y, 7, none⟩ = some (.bool A.cl) := cell_of_row _ _ _ _ 185 _ hy
  rw [hc] at c7
  clear hy hnn hI
  go_enter Tryz.func98, Tryz.ntmps98
  go_wp2_with fail
  refine (at_own _ _ _).mono ?_
  rintro e w1 ⟨v, rfl, ho, hb1⟩
  have HO : Hid _ := ho
  have HB : Hid _ := hb1
  clear ho hb1
  go_wp2
  go_ret3
  exact ⟨_, rfl, own_le HO.out (Nat.zero_le _), HB.out⟩
theorem rclose_br (y : Nat) (S : Nat → Prop) (A : AW) (p : Int × Int) (w : World) (hI : YI y S A w) (hc : A.cl = false) (hbr : A.br = some p) :
    Calls Tryz.prog 98 #[.pointer (some ⟨y, 0, none⟩)] w fun e w' => ∃ v, e = .returned (.tuple #[.slice none 0 0, .string ⟨#[]⟩, v]) ∧ w'.ownsRow 0 250 2 v 2 (mkL [(6, (A.n : Int)), p]) ∧ YDid y S A.clA w w' := by
  obtain ⟨vn, vd, vb, hy, hnn, _, hbb, _⟩ := hI.cells
  have c7 : w.cell? ⟨y, 7, none⟩ = some (.bool A.cl) := cell_of_row _ _ _ _ 185 _ hy
  have f7 : w.frozen? ⟨y, 7, none⟩ = false := frozen_of_row _ _ _ _ 185 hy
  rw [hc] at c7
  have HI : Hid _ := hI
  obtain ⟨W, hW⟩ : ∃ W, w.setCell ⟨y, 7, none⟩ (.bool true) = W := ⟨_, rfl⟩
  have HIW : Hid (YI y S A.clA W) := by show YI _ _ _ _; rw [← hW]; exact hI.shut
  have HD : Hid (∀ w', Below W.heap.size W w' → YDid y S A.clA w w') := fun w' hb => YDid.shut hI (by rw [hW]; exact hb)
  obtain ⟨vn', vd', vb', hy', hnn', _, hbb', _⟩ := HIW.out.cells
  obtain ⟨an, cn, hv⟩ := own_shape hnn'
  subst hv
  obtain ⟨ab, cb, hv⟩ := own_shape hbb'
  subst hv
  have HBR : Hid (W.ownsRow 0 250 2 (.slice ab 1 cb) 1 (mkL [p])) := by
    have : A.clA.br = some p := hbr
    rw [this] at hbb'
    exact hbb'
  have hyl : y < W.heap.size := HIW.out.lt y HIW.out.sy
  have c4 : W.cell? ⟨y, 4, none⟩ = some (.slice an A.n cn) := cell_of_row _ _ _ _ 185 _ hy'
  have c6 : W.cell? ⟨y, 6, none⟩ = some (.slice ab 1 cb) := by
    have h0 : W.cell? ⟨y, 6, none⟩ = some (.slice ab A.clA.br.toList.length cb) := cell_of_row _ _ _ _ 185 _ hy'
    have : A.clA.br = some p := hbr
    rw [this] at h0
    exact h0
  have H : Hid (∀ X : World, Below W.heap.size W X → Calls Tryz.prog 105 #[.int .i64 6, .int .i64 A.n, .slice ab 1 cb] X fun e w' => ∃ v', e = .returned v' ∧ w'.ownsRow X.heap.size 250 2 v' 2 (mkL [(6, (A.n : Int)), p]) ∧ Below X.heap.size X w') := fun X hX => rover_any 6 A.n [p] (.slice ab 1 cb) 0 X (own_below HBR.out hX) (by simp)
  clear hy hnn hbb hy' hnn' hbb' hI hc hbr
  go_enter Tryz.func98, Tryz.ntmps98
  go_wp2_with fail
  clear hW c7 f7
  go_region_held3 (fun w2 => w2.cell? ⟨y, 4, none⟩ = some (.slice an A.n cn) ∧ w2.cell? ⟨y, 6, none⟩ = some (.slice ab 1 cb)) (go_keep) ((go_at_call 105; refine Calls.mono (H.out _ (by first | exact Below.refl _ _ | exact (Below.refl _ _).drew)) ?_; rintro e w2 ⟨v2, rfl, ho2, hb2⟩; have hB2 : Below W.heap.size W w2 := (by first | exact hb2 | exact ((Below.refl _ _).drew).trans hb2); have q4 := (hB2.cell (p := ⟨y, 4, none⟩) hyl).trans c4; have q6 := (hB2.cell (p := ⟨y, 6, none⟩) hyl).trans c6))
  have HO : Hid (w2.ownsRow 0 250 2 v2 2 (mkL [(6, (A.n : Int)), p])) := own_le ho2 (Nat.zero_le _)
  have HB : Hid _ := hB2
  clear ho2 hb2 hB2 q4 q6
  go_wp2
  go_ret3
  exact ⟨_, rfl, HO.out, HD.out _ HB.out⟩
theorem rclose_big (y : Nat) (S : Nat → Prop) (A : AW) (w : World) (hI : YI y S A w) (hA : A.ok) (hc : A.cl = false) (hbr : A.br = none) (hbig : 512 < A.nb) :
    Calls Tryz.prog 98 #[.pointer (some ⟨y, 0, none⟩)] w fun e w' => ∃ v, e = .returned (.tuple #[.slice none 0 0, .string ⟨#[]⟩, v]) ∧ w'.ownsRow 0 250 2 v 1 (mkL [(4, (A.nb : Int))]) ∧ YDid y S A.clA w w' := by
  obtain ⟨vn, vd, vb, hy, hnn, _, hbb, _⟩ := hI.cells
  have c7 : w.cell? ⟨y, 7, none⟩ = some (.bool A.cl) := cell_of_row _ _ _ _ 185 _ hy
  have f7 : w.frozen? ⟨y, 7, none⟩ = false := frozen_of_row _ _ _ _ 185 hy
  rw [hc] at c7
  obtain ⟨W, hW⟩ : ∃ W, w.setCell ⟨y, 7, none⟩ (.bool true) = W := ⟨_, rfl⟩
  have HIW : Hid (YI y S A.clA W) := by show YI _ _ _ _; rw [← hW]; exact hI.shut
  have HD : Hid (∀ w', Below W.heap.size W w' → YDid y S A.clA w w') := fun w' hb => YDid.shut hI (by rw [hW]; exact hb)
  obtain ⟨vn', vd', vb', hy', hnn', hdd', hbb', _⟩ := HIW.out.cells
  obtain ⟨ad, cd, hv⟩ := own_shape hdd'
  subst hv
  obtain ⟨ab, cb, hv⟩ := own_shape hbb'
  subst hv
  have hyl : y < W.heap.size := HIW.out.lt y HIW.out.sy
  have c0 : W.cell? ⟨y, 0, none⟩ = some (.int .i64 A.K) := cell_of_row _ _ _ _ 185 _ hy'
  have c1 : W.cell? ⟨y, 1, none⟩ = some (.int .i64 A.M) := cell_of_row _ _ _ _ 185 _ hy'
  have c2 : W.cell? ⟨y, 2, none⟩ = some (.int .i64 A.C) := cell_of_row _ _ _ _ 185 _ hy'
  have c3 : W.cell? ⟨y, 3, none⟩ = some (.int .i64 A.V) := cell_of_row _ _ _ _ 185 _ hy'
  have c5 : W.cell? ⟨y, 5, none⟩ = some (.slice ad A.n cd) := cell_of_row _ _ _ _ 185 _ hy'
  have c6 : W.cell? ⟨y, 6, none⟩ = some (.slice ab 0 cb) := by
    have h0 : W.cell? ⟨y, 6, none⟩ = some (.slice ab A.clA.br.toList.length cb) := cell_of_row _ _ _ _ 185 _ hy'
    have : A.clA.br = none := hbr
    rw [this] at h0
    exact h0
  have htot := hA.tot
  have hz0 : 0 < A.K * A.C := Nat.mul_pos hA.K1 hA.C1
  have hz1 : A.K * A.C ≤ 100000 := Nat.le_trans (Nat.mul_le_mul (show A.K ≤ 255 by have := hA.KM; omega) hA.C2) (by omega)
  have HDD : Hid (W.ownsRow 0 9 1 (.slice ad A.n cd) A.n (daV A.ob)) := hdd'
  have HT : Hid (∀ X : World, Below W.heap.size W X → Calls Tryz.prog 143 #[.slice ad A.n cd] X fun e w' => e = .returned (.int .i64 A.tot) ∧ w' = X) := fun X hX => rtotal A ad cd X (own_below HDD.out hX) (by omega)
  have HN : Hid (∀ X : World, Calls Tryz.prog 133 #[.agg #[.int .i64 A.K, .int .i64 A.M, .int .i64 A.C, .int .i64 A.V], .int .i64 A.tot] X fun e w' => e = .returned (.int .i64 A.nb) ∧ Below X.heap.size X w') := fun X => rblocks_any A.K A.M A.C A.V A.tot (A.K * A.C) X rfl hz0 hz1 (by omega) (by have := hA.KM; omega) (by have := hA.KM; omega)
  obtain ⟨nb, hnb⟩ : ∃ nb, A.nb = nb := ⟨_, rfl⟩
  have HNB : Hid _ := hnb
  rw [hnb] at HN hbig
  have hb5 : (nb : Int) > 512 := by omega
  clear hy hnn hbb hy' hnn' hdd' hbb' hI hc hbr hA hnb
  go_enter Tryz.func98, Tryz.ntmps98
  go_wp2_with fail
  clear hW c7 f7
  go_region_held3 (fun w2 => w2.cell? ⟨y, 0, none⟩ = some (.int .i64 A.K) ∧ w2.cell? ⟨y, 1, none⟩ = some (.int .i64 A.M) ∧ w2.cell? ⟨y, 2, none⟩ = some (.int .i64 A.C) ∧ w2.cell? ⟨y, 3, none⟩ = some (.int .i64 A.V) ∧ w2.cell? ⟨y, 5, none⟩ = some (.slice ad A.n cd)) (go_keep) (first | (go_at_call 143; refine Calls.mono (HT.out _ (by first | exact Below.refl _ _ | exact (Below.refl _ _).drew)) ?_; rintro e w1 ⟨rfl, rfl⟩) | (go_at_call 133; refine Calls.mono (HN.out _) ?_; rintro e w2 ⟨rfl, hb2⟩; have hB2 : Below W.heap.size W w2 := (by first | exact hb2 | exact ((Below.refl _ _).drew).trans hb2); have q0 := (hB2.cell (p := ⟨y, 0, none⟩) hyl).trans c0; have q1 := (hB2.cell (p := ⟨y, 1, none⟩) hyl).trans c1; have q2 := (hB2.cell (p := ⟨y, 2, none⟩) hyl).trans c2; have q3 := (hB2.cell (p := ⟨y, 3, none⟩) hyl).trans c3; have q5 := (hB2.cell (p := ⟨y, 5, none⟩) hyl).trans c5))
  have HB2 : Hid _ := hB2
  clear hb2 hB2 q0 q1 q2 q3 q5
  go_wp2_with fail
  refine (at_own _ _ _).mono ?_
  rintro e w3 ⟨v, rfl, ho, hb3⟩
  have HO : Hid (w3.ownsRow 0 250 2 v 1 (mkL [(4, (nb : Int))])) := own_le ho (Nat.zero_le _)
  have HB : Hid (Below W.heap.size W w3) := HB2.out.trans (hb3.mono HB2.out.size)
  clear ho hb3
  go_wp2
  go_ret3
  exact ⟨_, rfl, by rw [HNB.out]; exact HO.out, HD.out _ HB.out⟩
end Go.Proofs.YtadinjaocnlglaaGreatDoor
