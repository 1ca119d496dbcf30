/-
  The document's sorted.
-/
import Derived.Test.YtadinjaocnlglaaGreatDoorZ38
import Derived.Test.YtadinjaocnlglaaGreatDoorZ34
import Derived.Test.YtadinjaocnlglaaGreatDoorZ28
import Derived.Sort.Walk0
import Derived.BigQuiet
import Derived.BigRegion
import Derived.Deep.RegionLaw
import Derived.Test.YtadinjaocnlglaaGreatDoorZ07
import Derived.Test.YtadinjaocnlglaaGreatDoorZ29
import Derived.Laws.OwnMore
namespace Go.Proofs.YtadinjaocnlglaaGreatDoor
open Go.RowKit
set_option maxRecDepth 100000
set_option maxHeartbeats 4000000
/-- the first j of the sorted objects -/
def soV (l : List (ByteArray × ByteArray)) (j : Nat) : List Value := ((nmA l).take j).flatMap fun x => [.string ⟨x.toArray⟩, .string ⟨(datA l x).toArray⟩]
theorem soV_snoc (l : List (ByteArray × ByteArray)) (j : Nat) (hj : j < (nmA l).length) : soV l (j + 1) = soV l j ++ [.string ⟨(nmA l)[j].toArray⟩, .string ⟨(datA l (nmA l)[j]).toArray⟩] := by
  unfold soV
  rw [List.take_succ_eq_append_getElem hj, List.flatMap_append, List.flatMap_singleton]
theorem flat2_at {α : Type} (f g : α → Value) : ∀ (l : List α) (j : Nat) (h : j < l.length), (l.flatMap fun x => [f x, g x])[j * 2]? = some (f l[j])
  | x :: r, 0, _ => by simp
  | x :: r, j + 1, h => by
    have := flat2_at f g r j (by simpa using h)
    simpa [Nat.succ_mul] using this
theorem so_cell {w : World} {B c j : Nat} {a : Option Addr} {l : List (ByteArray × ByteArray)} (h : w.ownsRow B 72 2 (.slice a (j + 1) c) (j + 1) (soV l (j + 1))) (hj : j < (nmA l).length) :
    ∃ g, a = some ⟨g, 0, none⟩ ∧ g < w.heap.size ∧ w.cell? ⟨g, j * 2, none⟩ = some (.string ⟨(nmA l)[j].toArray⟩) := by
  rcases h.2 with ⟨_, h'⟩ | ⟨g, cap, cur, hv, hb, hh, _⟩
  · omega
  · obtain rfl : a = some ⟨g, 0, none⟩ := by simp at hv; exact hv.1
    refine ⟨g, rfl, (Array.getElem?_eq_some_iff.1 hh).1, ?_⟩
    have h1 := h.cellAt (j * 2) (by omega)
    refine h1.trans ?_
    unfold soV
    rw [flat2_at (fun x => .string ⟨x.toArray⟩) (fun x => .string ⟨(datA l x).toArray⟩) ((nmA l).take (j + 1)) j (by rw [List.length_take]; omega)]
    simp
theorem bl_lt (a b : ByteArray) : Op.bytesLess a.toList b.toList = decide (a.data.toList < b.data.toList) := by
  rw [bytesLess_eq, ByteArray.toList_eq, ByteArray.toList_eq]
theorem gt_lt10 (a b : ByteArray) : (!(Op.bytesLess a.toList b.toList || a.toList == b.toList)) = decide (b.data.toList < a.data.toList) := by
  rw [bl_lt, ByteArray.toList_eq, ByteArray.toList_eq]
  rcases Decidable.em (b.data.toList < a.data.toList) with h | h
  · have h1 : ¬ a.data.toList < b.data.toList := fun h2 => b_irr _ (b_tr h h2)
    have h2 : (a.data.toList == b.data.toList) = false := by rw [beq_eq_false_iff_ne]; exact fun e => b_irr b.data.toList (by rw [e] at h; exact h)
    rw [h2]; simp [h, h1]
  · rcases Decidable.em (a.data.toList < b.data.toList) with h1 | h1
    · simp [h, h1]
    · have : a.data.toList = b.data.toList := List.le_antisymm (List.not_lt.1 h) (List.not_lt.1 h1)
      simp [this]
theorem gt_b (a b : ByteArray) : (!Op.bytesLess a.toList b.toList && !(a.toList == b.toList)) = decide (b.data.toList < a.data.toList) := by
  rw [← gt_lt10, Bool.not_or]
theorem so_cell1 {w : World} {B c j : Nat} {a : Option Addr} {l : List (ByteArray × ByteArray)} (h : w.ownsRow B 72 2 (.slice a j c) j (soV l j)) (h0 : 0 < j) (hj : j - 1 < (nmA l).length) :
    ∃ g, a = some ⟨g, 0, none⟩ ∧ g < w.heap.size ∧ w.cell? ⟨g, (j - 1) * 2, none⟩ = some (.string ⟨(nmA l)[j - 1].toArray⟩) := by
  obtain ⟨k, rfl⟩ : ∃ k, j = k + 1 := ⟨j - 1, by omega⟩
  exact so_cell h hj
def lenOf : Value → Nat
  | .slice _ k _ => k
  | _ => 0
theorem rsorted_any (y : Nat) (S : Nat → Prop) (A : AW) (w : World) (hI : YI y S A w) (hA : A.n ≤ 16) (hn : (A.ob.map (·.1)).Nodup) :
    Calls Tryz.prog 144 #[.pointer (some ⟨y, 0, none⟩)] w fun e w' => ∃ v, e = .returned v ∧ w'.ownsRow w.heap.size 72 2 v A.n (soV A.ob A.n) ∧ Below w.heap.size w w' := by
  obtain ⟨vn, vd, vb, hy, hnn, hdd, _⟩ := hI.cells
  obtain ⟨an, cn, hv⟩ := own_shape hnn
  subst hv
  obtain ⟨ad, cd, hv⟩ := own_shape hdd
  subst hv
  have hyl : y < w.heap.size := (Array.getElem?_eq_some_iff.1 hy).1
  have c4 : w.cell? ⟨y, 4, none⟩ = some (.slice an A.n cn) := cell_of_row _ _ _ _ 185 _ hy
  have c5 : w.cell? ⟨y, 5, none⟩ = some (.slice ad A.n cd) := cell_of_row _ _ _ _ 185 _ hy
  have HNN : Hid (w.ownsRow 0 9 1 (.slice an A.ob.length cn) A.ob.length (nmV A.ob)) := hnn
  have HDD : Hid (w.ownsRow 0 9 1 (.slice ad A.ob.length cd) A.ob.length (daV A.ob)) := hdd
  have HN : Hid _ := hn
  obtain ⟨i0, hi0, z0, z1, z2⟩ := info_parts info36
  obtain ⟨n, hen⟩ : ∃ n, A.n = n := ⟨_, rfl⟩
  have HL : Hid (A.ob.length = n) := hen
  rw [hen] at c4 c5 hA ⊢
  clear hy hnn hdd hn hen
  go_enter Tryz.func144, Tryz.ntmps144
  go_wp2_with fail
  go_loopw [3] (fun ov wr => ∃ (j : Nat) (oo : Value), j ≤ n ∧ oo = ov ∧ wr.ownsRow w.heap.size 72 2 oo j (soV A.ob j) ∧ Below w.heap.size w wr) (fun ov _ => n - lenOf ov)
  case atStart => exact ⟨0, _, by omega, rfl, own0, Below.refl _ _⟩
  case round =>
    obtain ⟨j, oo, hj, rfl, ho, hb⟩ := hrel
    obtain ⟨wo, rfl⟩ : ∃ wo, wo = wr := ⟨wr, rfl⟩
    obtain ⟨ao, co, hsv⟩ := own_shape ho
    subst hsv
    have HOr : Hid (wo.ownsRow w.heap.size 72 2 (.slice ao j co) j (soV A.ob j)) := ho
    have HBr : Hid (Below w.heap.size w wo) := hb
    have p4 : wo.cell? ⟨y, 4, none⟩ = some (.slice an n cn) := (hb.cell (p := ⟨y, 4, none⟩) hyl).trans c4
    have p5 : wo.cell? ⟨y, 5, none⟩ = some (.slice ad n cd) := (hb.cell (p := ⟨y, 5, none⟩) hyl).trans c5
    have hsr : w.heap.size ≤ wo.heap.size := hb.size
    by_cases hlt : j < n
    · clear ho hb
      go_wp2_with fail
      go_loopw [4, 5] (fun bv iv wr => ∃ (i : Nat) (b : Int), i ≤ n ∧ bv = .int .i64 b ∧ iv = .int .i64 i ∧ Best A.ob (Lat (nmA A.ob) j) i b ∧ Below wo.heap.size wo wr) (fun _ iv _ => n - (intOf iv).toNat)
      case atStart => exact ⟨0, -1, by omega, rfl, rfl, best_zero _ _, Below.refl _ _⟩
      case round =>
        obtain ⟨i, b, hi, rfl, rfl, hbest, hbq⟩ := hrel
        have r4 : wr.cell? ⟨y, 4, none⟩ = some (.slice an n cn) := (hbq.cell (p := ⟨y, 4, none⟩) (Nat.lt_of_lt_of_le hyl hsr)).trans p4
        have HBQ : Hid _ := hbq
        have HBw : Hid (Below w.heap.size w wr) := HBr.out.trans (hbq.mono hsr)
        by_cases hin : i < n
        · have hil : i < A.ob.length := by rw [HL.out]; exact hin
          obtain ⟨g, ha, hgl, x0⟩ := nm_cell HNN.out i hil
          subst ha
          replace x0 : wr.cell? ⟨g, i, none⟩ = some (.string A.ob[i].1) := (HBw.out.cell (p := ⟨g, i, none⟩) hgl).trans x0
          obtain ⟨X, hX⟩ : ∃ X, A.ob[i].1 = X := ⟨_, rfl⟩
          have HTK : Hid (Lat (nmA A.ob) j X.data.toList → (b = -1 ∨ ∃ m, ∃ h : m < A.ob.length, b = (m : Int) ∧ X.data.toList < A.ob[m].1.data.toList) → Best A.ob (Lat (nmA A.ob) j) (i + 1) i) := by
            rw [← hX]; exact fun h1 h2 => best_take hbest hil h1 h2
          have HSK : Hid ((Lat (nmA A.ob) j X.data.toList → ∃ m, ∃ h : m < A.ob.length, b = (m : Int) ∧ ¬ X.data.toList < A.ob[m].1.data.toList) → Best A.ob (Lat (nmA A.ob) j) (i + 1) b) := by
            rw [← hX]; exact fun h1 => best_skip hbest hil h1
          rw [hX] at x0
          have HMC : Hid (∀ m, ∀ h : m < A.ob.length, wr.cell? ⟨g, m, none⟩ = some (.string A.ob[m].1)) := fun m hm => by
            obtain ⟨g', ha', hgl', xm⟩ := nm_cell HNN.out m hm
            cases ha'
            exact (HBw.out.cell (p := ⟨g, m, none⟩) hgl').trans xm
          have hbc : b = -1 ∨ ∃ m, ∃ h : m < A.ob.length, b = (m : Int) ∧ m < i := by
            rcases hbest with ⟨h, _⟩ | ⟨m, hm, h, h2, _⟩
            · exact .inl h
            · exact .inr ⟨m, hm, h, h2⟩
          clear hbest hbq hX c4 c5 p4 p5 hgl
          rcases Nat.eq_zero_or_pos j with hj0 | hj0
          · have HLA : Hid (Lat (nmA A.ob) j X.data.toList) := fun y h _ => by omega
            have hz1 : ((j : Int) == 0) = true := by rw [hj0]; rfl
            have hz2 : (j == 0) = true := by rw [hj0]; rfl
            clear hj0
            rcases hbc with rfl | ⟨m, hm, rfl, hmi⟩
            · have HT : Hid _ := HTK.out HLA.out (.inl rfl)
              clear HTK HSK HMC
              go_wp2_with fail
              go_quiet (fail)
              go_wp2_with fail
              have HB1 : Hid (Below wo.heap.size wo (wr.drewN nq)) := below_drewN HBQ.out _
              have r4' : (wr.drewN nq).cell? ⟨y, 4, none⟩ = some (.slice (some ⟨g, 0, none⟩) n cn) := r4
              have x0' : (wr.drewN nq).cell? ⟨g, i, none⟩ = some (.string X) := x0
              obtain ⟨V1, hV1⟩ : ∃ V1, wr.drewN nq = V1 := ⟨_, rfl⟩
              rw [hV1] at HB1 r4' x0' ⊢
              clear hV1 r4 x0
              go_quiet (fail)
              go_wp2
              go_roundw
              case rel => exact ⟨i + 1, i, by omega, by go_num, by go_num, HT.out, below_drewN HB1.out _⟩
              case measure => simp [intOf]; omega
            · have xm := HMC.out m hm
              have hm0 : ¬ ((m : Int) < 0) := by omega
              have hm1 : m < n := by omega
              have hm2 : (m : Int) < (n : Int) := by omega
              have hm3 : decide ((m : Int) < 0) = false := decide_eq_false hm0
              obtain ⟨Y, hY⟩ : ∃ Y, A.ob[m].1 = Y := ⟨_, rfl⟩
              rw [hY] at xm
              cases hc : Op.bytesLess X.toList Y.toList with
              | true =>
                have HT : Hid _ := HTK.out HLA.out (.inr ⟨m, hm, rfl, by rw [hY]; rw [bl_lt] at hc; exact of_decide_eq_true hc⟩)
                clear HTK HSK HMC hY
                go_wp2_with fail
                go_quiet (fail)
                go_wp2_with fail
                have HB1 : Hid (Below wo.heap.size wo (wr.drewN nq)) := below_drewN HBQ.out _
                have r4' : (wr.drewN nq).cell? ⟨y, 4, none⟩ = some (.slice (some ⟨g, 0, none⟩) n cn) := r4
                have x0' : (wr.drewN nq).cell? ⟨g, i, none⟩ = some (.string X) := x0
                have xm' : (wr.drewN nq).cell? ⟨g, m, none⟩ = some (.string Y) := xm
                obtain ⟨V1, hV1⟩ : ∃ V1, wr.drewN nq = V1 := ⟨_, rfl⟩
                rw [hV1] at HB1 r4' x0' xm' ⊢
                clear hV1 r4 x0 xm
                go_quiet (fail)
                go_wp2
                go_roundw
                case rel => exact ⟨i + 1, i, by omega, by go_num, by go_num, HT.out, below_drewN HB1.out _⟩
                case measure => simp [intOf]; omega
              | false =>
                have HT : Hid _ := HSK.out (fun _ => ⟨m, hm, rfl, by rw [hY]; rw [bl_lt] at hc; exact of_decide_eq_false hc⟩)
                clear HTK HSK HMC hY
                go_wp2_with fail
                go_quiet (fail)
                go_wp2_with fail
                have HB1 : Hid (Below wo.heap.size wo (wr.drewN nq)) := below_drewN HBQ.out _
                have r4' : (wr.drewN nq).cell? ⟨y, 4, none⟩ = some (.slice (some ⟨g, 0, none⟩) n cn) := r4
                have x0' : (wr.drewN nq).cell? ⟨g, i, none⟩ = some (.string X) := x0
                have xm' : (wr.drewN nq).cell? ⟨g, m, none⟩ = some (.string Y) := xm
                obtain ⟨V1, hV1⟩ : ∃ V1, wr.drewN nq = V1 := ⟨_, rfl⟩
                rw [hV1] at HB1 r4' x0' xm' ⊢
                clear hV1 r4 x0 xm
                go_quiet (fail)
                go_wp2
                go_roundw
                case rel => exact ⟨i + 1, m, by omega, by go_num, by go_num, HT.out, below_drewN HB1.out _⟩
                case measure => simp [intOf]; omega
          · obtain ⟨g2, ha2, hg2l, zc⟩ := so_cell1 HOr.out hj0 (by rw [nmA_len, HL.out]; omega)
            subst ha2
            replace zc := (HBQ.out.cell (p := ⟨g2, (j - 1) * 2, none⟩) hg2l).trans zc
            have HZ : Hid ((nmA A.ob)[j - 1]? = some ((nmA A.ob)[j - 1]'(by rw [nmA_len, HL.out]; omega))) := List.getElem?_eq_getElem _
            obtain ⟨Zl, hZl⟩ : ∃ Zl, (nmA A.ob)[j - 1]'(by rw [nmA_len, HL.out]; omega) = Zl := ⟨_, rfl⟩
            rw [hZl] at zc HZ
            obtain ⟨Z, hZ⟩ : ∃ Z : ByteArray, (⟨Zl.toArray⟩ : ByteArray) = Z := ⟨_, rfl⟩
            have hZ2 : Zl = Z.data.toList := by rw [← hZ]
            rw [hZ] at zc
            rw [hZ2] at HZ
            have hz1 : ((j : Int) == 0) = false := by simp; omega
            have hz2 : (j == 0) = false := by simp; omega
            have k2 : (j : Int) - 1 = ((j - 1 : Nat) : Int) := by omega
            have k3 : ((j - 1 : Nat) : Int) < (j : Int) := by omega
            clear hZl hZ hZ2 hg2l
            cases hgt : (!Op.bytesLess X.toList Z.toList && !(X.toList == Z.toList)) with
            | true =>
              have HLA : Hid (Lat (nmA A.ob) j X.data.toList) := fun y _ h => by
                rw [HZ.out] at h
                injection h with h
                rw [← h]
                rw [gt_b] at hgt
                exact of_decide_eq_true hgt
              rcases hbc with rfl | ⟨m, hm, rfl, hmi⟩
              · have HT : Hid _ := HTK.out HLA.out (.inl rfl)
                clear HTK HSK HMC
                go_wp2_with fail
                go_quiet (fail)
                go_wp2_with fail
                have HB1 : Hid (Below wo.heap.size wo (wr.drewN nq)) := below_drewN HBQ.out _
                have r4' : (wr.drewN nq).cell? ⟨y, 4, none⟩ = some (.slice (some ⟨g, 0, none⟩) n cn) := r4
                have x0' : (wr.drewN nq).cell? ⟨g, i, none⟩ = some (.string X) := x0
                obtain ⟨V1, hV1⟩ : ∃ V1, wr.drewN nq = V1 := ⟨_, rfl⟩
                rw [hV1] at HB1 r4' x0' ⊢
                clear hV1 r4 x0 zc
                go_quiet (fail)
                go_wp2
                go_roundw
                case rel => exact ⟨i + 1, i, by omega, by go_num, by go_num, HT.out, below_drewN HB1.out _⟩
                case measure => simp [intOf]; omega
              · have xm := HMC.out m hm
                have hm0 : ¬ ((m : Int) < 0) := by omega
                have hm1 : m < n := by omega
                have hm2 : (m : Int) < (n : Int) := by omega
                have hm3 : decide ((m : Int) < 0) = false := decide_eq_false hm0
                obtain ⟨Y, hY⟩ : ∃ Y, A.ob[m].1 = Y := ⟨_, rfl⟩
                rw [hY] at xm
                cases hc : Op.bytesLess X.toList Y.toList with
                | true =>
                  have HT : Hid _ := HTK.out HLA.out (.inr ⟨m, hm, rfl, by rw [hY]; rw [bl_lt] at hc; exact of_decide_eq_true hc⟩)
                  clear HTK HSK HMC hY
                  go_wp2_with fail
                  go_quiet (fail)
                  go_wp2_with fail
                  have HB1 : Hid (Below wo.heap.size wo (wr.drewN nq)) := below_drewN HBQ.out _
                  have r4' : (wr.drewN nq).cell? ⟨y, 4, none⟩ = some (.slice (some ⟨g, 0, none⟩) n cn) := r4
                  have x0' : (wr.drewN nq).cell? ⟨g, i, none⟩ = some (.string X) := x0
                  have xm' : (wr.drewN nq).cell? ⟨g, m, none⟩ = some (.string Y) := xm
                  obtain ⟨V1, hV1⟩ : ∃ V1, wr.drewN nq = V1 := ⟨_, rfl⟩
                  rw [hV1] at HB1 r4' x0' xm' ⊢
                  clear hV1 r4 x0 zc xm
                  go_quiet (fail)
                  go_wp2
                  go_roundw
                  case rel => exact ⟨i + 1, i, by omega, by go_num, by go_num, HT.out, below_drewN HB1.out _⟩
                  case measure => simp [intOf]; omega
                | false =>
                  have HT : Hid _ := HSK.out (fun _ => ⟨m, hm, rfl, by rw [hY]; rw [bl_lt] at hc; exact of_decide_eq_false hc⟩)
                  clear HTK HSK HMC hY
                  go_wp2_with fail
                  go_quiet (fail)
                  go_wp2_with fail
                  have HB1 : Hid (Below wo.heap.size wo (wr.drewN nq)) := below_drewN HBQ.out _
                  have r4' : (wr.drewN nq).cell? ⟨y, 4, none⟩ = some (.slice (some ⟨g, 0, none⟩) n cn) := r4
                  have x0' : (wr.drewN nq).cell? ⟨g, i, none⟩ = some (.string X) := x0
                  have xm' : (wr.drewN nq).cell? ⟨g, m, none⟩ = some (.string Y) := xm
                  obtain ⟨V1, hV1⟩ : ∃ V1, wr.drewN nq = V1 := ⟨_, rfl⟩
                  rw [hV1] at HB1 r4' x0' xm' ⊢
                  clear hV1 r4 x0 zc xm
                  go_quiet (fail)
                  go_wp2
                  go_roundw
                  case rel => exact ⟨i + 1, m, by omega, by go_num, by go_num, HT.out, below_drewN HB1.out _⟩
                  case measure => simp [intOf]; omega
            | false =>
              have HT : Hid _ := HSK.out (fun h => absurd (h _ hj0 HZ.out) (by rw [gt_b] at hgt; exact of_decide_eq_false hgt))
              have HG : Hid _ := hgt
              clear HTK HSK HMC hbc
              go_wp2_with fail
              go_quiet (fail)
              go_wp2_with fail
              have HB1 : Hid (Below wo.heap.size wo (wr.drewN nq)) := below_drewN HBQ.out _
              have r4' : (wr.drewN nq).cell? ⟨y, 4, none⟩ = some (.slice (some ⟨g, 0, none⟩) n cn) := r4
              have x0' : (wr.drewN nq).cell? ⟨g, i, none⟩ = some (.string X) := x0
              obtain ⟨V1, hV1⟩ : ∃ V1, wr.drewN nq = V1 := ⟨_, rfl⟩
              rw [hV1] at HB1 r4' x0' ⊢
              clear hV1 r4 x0 zc
              go_quiet (fail)
              go_wp2
              go_roundw
              case rel => exact ⟨i + 1, b, by omega, by go_num, by go_num, HT.out, below_drewN HB1.out _⟩
              case measure => simp [intOf]; omega
        · have ei : i = A.ob.length := by rw [HL.out]; omega
          subst ei
          have hjl : j < A.ob.length := by rw [HL.out]; exact hlt
          obtain ⟨m, hm, rfl, hmn, hmd⟩ := best_end HN.out hjl hbest
          have hmd' : A.ob[m].2.data.toList = datA A.ob A.ob[m].1.data.toList := by rw [hmd, hmn]
          obtain ⟨g, ha, hgl, x0⟩ := nm_cell HNN.out m hm
          subst ha
          obtain ⟨g', ha', hgl', y0⟩ := da_cell HDD.out m hm
          subst ha'
          replace x0 : wr.cell? ⟨g, m, none⟩ = some (.string A.ob[m].1) := (HBw.out.cell (p := ⟨g, m, none⟩) hgl).trans x0
          replace y0 : wr.cell? ⟨g', m, none⟩ = some (.string A.ob[m].2) := (HBw.out.cell (p := ⟨g', m, none⟩) hgl').trans y0
          have r5 : wr.cell? ⟨y, 5, none⟩ = some (.slice (some ⟨g', 0, none⟩) n cd) := (hbq.cell (p := ⟨y, 5, none⟩) (Nat.lt_of_lt_of_le hyl hsr)).trans p5
          have HSN : Hid (soV A.ob (j + 1) = soV A.ob j ++ [.string A.ob[m].1, .string A.ob[m].2]) := by
            show _ = _
            rw [soV_snoc A.ob j (by rw [nmA_len]; exact hjl), ← hmn, ← hmd']
          obtain ⟨X, hX⟩ : ∃ X, A.ob[m].1 = X := ⟨_, rfl⟩
          obtain ⟨Y, hY⟩ : ∃ Y, A.ob[m].2 = Y := ⟨_, rfl⟩
          rw [hX] at x0 HSN
          rw [hY] at y0 HSN
          have hmn1 : m < n := by rw [← HL.out]; exact hm
          have hmn2 : (m : Int) < (n : Int) := by omega
          have HOw : Hid (wr.ownsRow w.heap.size 72 2 (.slice ao j co) j (soV A.ob j)) := own_below HOr.out hbq
          have hsw : w.heap.size ≤ wr.heap.size := HBw.out.size
          have HM1 : Hid (j + 1 ≤ maxLen) := by show j + 1 ≤ maxLen; unfold maxLen; omega
          have HM2 : Hid ((j + 1) * 32 ≤ 140737488355328) := by show _ ≤ _; omega
          have HJ1 : Hid (j + 1 ≤ n) := hlt
          obtain ⟨q, hq⟩ : ∃ q, A.ob.length = q := ⟨_, rfl⟩
          have hqn : q = n := by rw [← hq]; exact HL.out
          rw [hq]
          clear hmn hmd hmd' hX hY hm hbest hbq hjl hin hi HNN HDD hq c4 c5 p4 p5 hgl hgl' hI HN HL
          subst hqn
          go_wp2_with fail
          go_region_law (refine step_append_own rfl (.tmp 67) (.tmp 83) 38 rfl 72 i0 (.agg #[.string ⟨#[]⟩, .string ⟨#[]⟩]) 2 32 Tryz.underlying38 hi0 z0 z1 z2 rfl (by decide) w.heap.size (.slice ao j co) j (soV A.ob j) (by simp [Act.eval]) (by exact (HOw.out.alloc _).drew) ⟨wr.heap.size, 0, none⟩ 1 1 [.string X, .string Y] (by simp [Act.eval]) rfl (by exact cells_new _ [.string X, .string Y] 72) (by intro u hu; simp at hu; rcases hu with rfl | rfl <;> rfl) HM1.out HM2.out (by show w.heap.size ≤ (wr.alloc _).heap.size; simp; omega) ?_; intro v6 w6 ho6 hg6)
          all_goals
            obtain ⟨a6, c6, hv6⟩ := own_shape ho6
            subst hv6
            have HO6 : Hid _ := ho6
            have HB6 : Hid (Below w.heap.size w w6) := ((HBw.out.alloc hsw _).drew).grown hg6 (by show w.heap.size ≤ (wr.alloc _).heap.size; simp; omega) (fun q hq => own_ge HOw.out q hq)
            clear ho6 hg6
            try go_wp2_with fail
            go_roundw
            case rel =>
              first
                | exact ⟨j + 1, _, HJ1.out, rfl, by rw [HSN.out]; exact HO6.out, HB6.out⟩
                | ((repeat apply Exists.intro); exact ⟨⟨j + 1, _, HJ1.out, rfl, by rw [HSN.out]; exact HO6.out, HB6.out⟩, rfl⟩)
            case measure =>
              have := HJ1.out
              show q - (j + 1) < q - j
              omega
    · have ej : j = n := by omega
      subst ej
      have HOf : Hid _ := HOr.out
      clear ho hb
      go_wp2
      go_ret
      exact ⟨_, rfl, HOr.out, HBr.out⟩
end Go.Proofs.YtadinjaocnlglaaGreatDoor
