/-
  Begin of the document's Writer.
-/
import Derived.Test.YtadinjaocnlglaaGreatDoorZ34
import Derived.Test.YtadinjaocnlglaaGreatDoorZ07
import Derived.BigQuiet
namespace Go.Proofs.YtadinjaocnlglaaGreatDoor
open Go.RowKit
set_option maxRecDepth 100000
set_option maxHeartbeats 4000000
theorem rbegin_state (y : Nat) (S : Nat → Prop) (A : AW) (s : ByteArray) (w : World) (hI : YI y S A w) (hs : A.state ≠ []) :
    Calls Tryz.prog 92 #[.pointer (some ⟨y, 0, none⟩), .string s] w fun e w' => ∃ v, e = .returned v ∧ w'.ownsRow 0 250 2 v A.state.length (mkL A.state) ∧ Below w.heap.size w w' := by
  have H : Hid _ := rstate_any y S A w hI
  have hl : 0 < A.state.length := List.length_pos_iff.2 hs
  clear hI hs
  go_enter Tryz.func92, Tryz.ntmps92
  go_wp2_with fail
  refine Calls.mono H.out ?_
  rintro e w1 ⟨v, rfl, ho, hb⟩
  obtain ⟨a, k, rfl⟩ := own_shape ho
  have HO : Hid _ := ho
  have HB : Hid _ := hb
  obtain ⟨q, hq⟩ : ∃ q, A.state.length = q := ⟨_, rfl⟩
  rw [hq] at hl HO ⊢
  have HQ : Hid _ := hq
  have hl2 : (0 : Int) < (q : Int) := by omega
  clear ho hb hq
  go_wp2
  go_ret
  exact ⟨.slice a q k, rfl, by rw [HQ.out]; exact own_le HO.out (Nat.zero_le _), HB.out⟩
theorem rbegin_name (y : Nat) (S : Nat → Prop) (A : AW) (s : ByteArray) (w : World) (hI : YI y S A w) (hs : A.state = []) (hn : s.size < 1 ∨ 255 < s.size) :
    Calls Tryz.prog 92 #[.pointer (some ⟨y, 0, none⟩), .string s] w fun e w' => ∃ v, e = .returned v ∧ w'.ownsRow 0 250 2 v 1 (mkL [(2, (A.n : Int))]) ∧ YDid y S { A with br := some (2, (A.n : Int)) } w w' := by
  have H : Hid _ := rstate_nil y S A w hI hs
  have HI : Hid _ := hI
  clear hI hs
  rcases hn with hn | hn
  · have hn2 : (s.size : Int) < 1 := by omega
    go_enter Tryz.func92, Tryz.ntmps92
    go_wp2_with fail
    refine Calls.mono H.out ?_
    rintro e w1 ⟨a1, k1, rfl, hb1⟩
    have HI1 : Hid (YI y S A w1) := HI.out.open hb1
    have HB1 : Hid _ := hb1
    obtain ⟨vn, vd, vb, hy, hnn, _⟩ := HI1.out.cells
    obtain ⟨an, cn, hv⟩ := own_shape hnn
    subst hv
    have c4 : w1.cell? ⟨y, 4, none⟩ = some (.slice an A.n cn) := cell_of_row _ _ _ _ 185 _ hy
    have HY : Hid _ := hy
    have HBK : Hid _ := rbreaks_any 2 A.n y A.K A.M A.C A.V (.slice an A.n cn) vd vb A.cl w1 hy
    clear hb1 hnn hy
    go_wp2_with fail
    refine Calls.mono HBK.out ?_
    rintro e w2 ⟨v2, vb', rfl, ho2, hy2, hov, hf⟩
    have HO : Hid (w2.ownsRow 0 250 2 v2 1 (mkL [(2, (A.n : Int))])) := own_le ho2 (Nat.zero_le _)
    have HD : Hid (YDid y S { A with br := some (2, (A.n : Int)) } w w2) := YDid.after HB1.out (YDid.broke HI1.out ⟨vb, HY.out⟩ hy2 hov hf)
    clear ho2 hy2 hov hf
    go_wp2
    go_ret
    exact ⟨_, rfl, HO.out, HD.out⟩
  · have hn2 : (s.size : Int) > 255 := by omega
    have hn3 : ¬ ((s.size : Int) < 1) := by omega
    go_enter Tryz.func92, Tryz.ntmps92
    go_wp2_with fail
    refine Calls.mono H.out ?_
    rintro e w1 ⟨a1, k1, rfl, hb1⟩
    have HI1 : Hid (YI y S A w1) := HI.out.open hb1
    have HB1 : Hid _ := hb1
    obtain ⟨vn, vd, vb, hy, hnn, _⟩ := HI1.out.cells
    obtain ⟨an, cn, hv⟩ := own_shape hnn
    subst hv
    have c4 : w1.cell? ⟨y, 4, none⟩ = some (.slice an A.n cn) := cell_of_row _ _ _ _ 185 _ hy
    have HY : Hid _ := hy
    have HBK : Hid _ := rbreaks_any 2 A.n y A.K A.M A.C A.V (.slice an A.n cn) vd vb A.cl w1 hy
    clear hb1 hnn hy
    go_wp2_with fail
    refine Calls.mono HBK.out ?_
    rintro e w2 ⟨v2, vb', rfl, ho2, hy2, hov, hf⟩
    have HO : Hid (w2.ownsRow 0 250 2 v2 1 (mkL [(2, (A.n : Int))])) := own_le ho2 (Nat.zero_le _)
    have HD : Hid (YDid y S { A with br := some (2, (A.n : Int)) } w w2) := YDid.after HB1.out (YDid.broke HI1.out ⟨vb, HY.out⟩ hy2 hov hf)
    clear ho2 hy2 hov hf
    go_wp2
    go_ret
    exact ⟨_, rfl, HO.out, HD.out⟩
theorem str_ne {a b : ByteArray} (h : a ≠ b) : (a.toList == b.toList) = false := by
  rw [beq_eq_false_iff_ne, ByteArray.toList_eq, ByteArray.toList_eq]
  exact fun e => h (by_inj e)
theorem rbegin_dup (y : Nat) (S : Nat → Prop) (A : AW) (s : ByteArray) (i : Nat) (w : World) (hI : YI y S A w) (hs : A.state = []) (h16 : A.n ≤ 16) (hs1 : 1 ≤ s.size) (hs2 : s.size ≤ 255) (hi : idxL s A.ob = some i) :
    Calls Tryz.prog 92 #[.pointer (some ⟨y, 0, none⟩), .string s] w fun e w' => ∃ v, e = .returned v ∧ w'.ownsRow 0 250 2 v 1 (mkL [(3, (i : Int))]) ∧ YDid y S { A with br := some (3, (i : Int)) } w w' := by
  have H : Hid _ := rstate_nil y S A w hI hs
  have HI : Hid _ := hI
  obtain ⟨hil, hie, hne⟩ := idxL_some hi
  have h3 : A.ob[i].1 = s := by rw [List.getElem?_eq_getElem hil] at hie; simpa using hie
  have HNE : Hid (∀ j, ∀ h : j < A.ob.length, j < i → A.ob[j].1 ≠ s) := fun j h hj e => hne j hj (by rw [List.getElem?_eq_getElem h]; simp [e])
  have H3 : Hid _ := h3
  have hin : i < A.n := hil
  have hs1' : ¬ ((s.size : Int) < 1) := by omega
  have hs2' : ¬ ((s.size : Int) > 255) := by omega
  clear hI hs hi hie hne h3
  go_enter Tryz.func92, Tryz.ntmps92
  go_wp2_with fail
  refine Calls.mono H.out ?_
  rintro e w1 ⟨a1, k1, rfl, hb1⟩
  have HI1 : Hid (YI y S A w1) := HI.out.open hb1
  have HB1 : Hid _ := hb1
  obtain ⟨vn, vd, vb, hy, hnn, _⟩ := HI1.out.cells
  obtain ⟨an, cn, hv⟩ := own_shape hnn
  subst hv
  have c4 : w1.cell? ⟨y, 4, none⟩ = some (.slice an A.n cn) := cell_of_row _ _ _ _ 185 _ hy
  have HY : Hid _ := hy
  have HNN : Hid (w1.ownsRow 0 9 1 (.slice an A.n cn) A.n (nmV A.ob)) := hnn
  have HBK : Hid _ := rbreaks_any 3 i y A.K A.M A.C A.V (.slice an A.n cn) vd vb A.cl w1 hy
  have HNL : Hid (A.n = A.ob.length) := rfl
  obtain ⟨n, hen⟩ : ∃ n, A.n = n := ⟨_, rfl⟩
  have HEN : Hid _ := hen
  rw [hen] at c4 hin h16
  clear hb1 hnn hy hen
  go_wp2_with fail
  go_loop [7] (fun iv => ∃ j : Nat, j ≤ i ∧ iv = .int .i64 j) (fun iv => i - (intOf iv).toNat)
  case atStart => exact ⟨0, by omega, rfl⟩
  case round =>
    obtain ⟨j, hj, rfl⟩ := hrel
    have hjl : j < A.ob.length := by have := HNL.out; have := HEN.out; omega
    obtain ⟨g, ha, hgl, x0⟩ := nm_cell HNN.out j hjl
    subst ha
    have hjn : (j : Int) < (n : Int) := by omega
    by_cases hlt : j < i
    · have hc := str_ne (HNE.out j hjl hlt)
      obtain ⟨X, hX⟩ : ∃ X, A.ob[j].1 = X := ⟨_, rfl⟩
      rw [hX] at x0 hc
      clear hX
      go_wp2
      go_round
      case rel => exact ⟨j + 1, by omega, by go_num⟩
      case measure => simp [intOf]; omega
    · have ej : j = i := by omega
      subst ej
      rw [H3.out] at x0
      go_wp2_with fail
      refine Calls.mono HBK.out ?_
      rintro e w2 ⟨v2, vb', rfl, ho2, hy2, hov, hf⟩
      have HO : Hid (w2.ownsRow 0 250 2 v2 1 (mkL [(3, (j : Int))])) := own_le ho2 (Nat.zero_le _)
      have HD : Hid (YDid y S { A with br := some (3, (j : Int)) } w w2) := YDid.after HB1.out (YDid.broke HI1.out ⟨vb, HY.out⟩ hy2 hov hf)
      clear ho2 hy2 hov hf
      go_wp2
      go_ret
      exact ⟨_, rfl, HO.out, HD.out⟩
theorem rbegin_full (y : Nat) (S : Nat → Prop) (A : AW) (s : ByteArray) (w : World) (hI : YI y S A w) (hs : A.state = []) (h16 : A.n = 16) (hs1 : 1 ≤ s.size) (hs2 : s.size ≤ 255) (hi : idxL s A.ob = none) :
    Calls Tryz.prog 92 #[.pointer (some ⟨y, 0, none⟩), .string s] w fun e w' => ∃ v, e = .returned v ∧ w'.ownsRow 0 250 2 v 1 (mkL [(4, 16)]) ∧ YDid y S { A with br := some (4, 16) } w w' := by
  have H : Hid _ := rstate_nil y S A w hI hs
  have HI : Hid _ := hI
  have hno := idxL_none hi
  have HNE : Hid (∀ j, ∀ h : j < A.ob.length, A.ob[j].1 ≠ s) := fun j h e => hno (by rw [← e]; exact List.mem_map.2 ⟨_, List.getElem_mem h, rfl⟩)
  have hs1' : ¬ ((s.size : Int) < 1) := by omega
  have hs2' : ¬ ((s.size : Int) > 255) := by omega
  clear hI hs hi hno
  go_enter Tryz.func92, Tryz.ntmps92
  go_wp2_with fail
  refine Calls.mono H.out ?_
  rintro e w1 ⟨a1, k1, rfl, hb1⟩
  have HI1 : Hid (YI y S A w1) := HI.out.open hb1
  have HB1 : Hid _ := hb1
  obtain ⟨vn, vd, vb, hy, hnn, _⟩ := HI1.out.cells
  obtain ⟨an, cn, hv⟩ := own_shape hnn
  subst hv
  have c4 : w1.cell? ⟨y, 4, none⟩ = some (.slice an A.n cn) := cell_of_row _ _ _ _ 185 _ hy
  have HY : Hid _ := hy
  have HNN : Hid (w1.ownsRow 0 9 1 (.slice an A.n cn) A.n (nmV A.ob)) := hnn
  have HBK : Hid _ := rbreaks_any 4 16 y A.K A.M A.C A.V (.slice an A.n cn) vd vb A.cl w1 hy
  have HNL : Hid (A.ob.length = 16) := h16
  rw [h16] at c4
  clear hb1 hnn hy h16
  go_wp2_with fail
  go_loop [7] (fun iv => ∃ j : Nat, j ≤ 16 ∧ iv = .int .i64 j) (fun iv => 16 - (intOf iv).toNat)
  case atStart => exact ⟨0, by omega, rfl⟩
  case round =>
    obtain ⟨j, hj, rfl⟩ := hrel
    by_cases hlt : j < 16
    · have hjl : j < A.ob.length := by have := HNL.out; omega
      obtain ⟨g, ha, hgl, x0⟩ := nm_cell HNN.out j hjl
      subst ha
      have hjn : (j : Int) < 16 := by omega
      have hc := str_ne (HNE.out j hjl)
      obtain ⟨X, hX⟩ : ∃ X, A.ob[j].1 = X := ⟨_, rfl⟩
      rw [hX] at x0 hc
      clear hX
      go_wp2
      go_round
      case rel => exact ⟨j + 1, by omega, by go_num⟩
      case measure => simp [intOf]; omega
    · have ej : j = 16 := by omega
      subst ej
      go_wp2_with fail
      refine Calls.mono HBK.out ?_
      rintro e w2 ⟨v2, vb', rfl, ho2, hy2, hov, hf⟩
      have HO : Hid (w2.ownsRow 0 250 2 v2 1 (mkL [(4, 16)])) := own_le ho2 (Nat.zero_le _)
      have HD : Hid (YDid y S { A with br := some (4, 16) } w w2) := YDid.after HB1.out (YDid.broke HI1.out ⟨vb, HY.out⟩ hy2 hov hf)
      clear ho2 hy2 hov hf
      go_wp2
      go_ret
      exact ⟨_, rfl, HO.out, HD.out⟩
/-- one more name, and one more text -/
theorem YI.begun {y : Nat} {S : Nat → Prop} {A : AW} {w w2 w4 : World} {vn vd vb v2 v4 : Value} {s : ByteArray} (h : YI y S A w) (h1 : w.heap[y]? = some (.cells (yC A.K A.M A.C A.V vn vd vb A.cl) 185 (0, 0)))
    (o2 : w2.ownsRow 0 9 1 v2 (A.n + 1) (nmV A.ob ++ [.string s])) (g2 : Fr S w w2) (q2 : v2.ownBlock = vn.ownBlock ∨ ∃ q, v2.ownBlock = some q ∧ w.heap.size ≤ q)
    (hk2 : ∀ j, j < w.heap.size → vn.ownBlock ≠ some j → w2.heap[j]? = w.heap[j]?)
    (o4 : w4.ownsRow 0 9 1 v4 (A.n + 1) (daV A.ob ++ [.string ⟨#[]⟩])) (g4 : Fr S (w2.setCell ⟨y, 4, none⟩ v2) w4) (q4 : v4.ownBlock = vd.ownBlock ∨ ∃ q, v4.ownBlock = some q ∧ w2.heap.size ≤ q)
    (hk4 : ∀ j, j < w2.heap.size → vd.ownBlock ≠ some j → w4.heap[j]? = (w2.setCell ⟨y, 4, none⟩ v2).heap[j]?) :
    YDid y S { A with ob := A.ob ++ [(s, ⟨#[]⟩)] } w (w4.setCell ⟨y, 5, none⟩ v4) := by
  obtain ⟨vn0, vd0, vb0, k1, k2, k3, k4, k5, k6, k7, k8⟩ := h.cells
  rw [h1] at k1
  have e : vn = vn0 ∧ vd = vd0 ∧ vb = vb0 := by simp [yC] at k1; exact k1
  obtain ⟨rfl, rfl, rfl⟩ := e
  have hyl : y < w.heap.size := h.lt y h.sy
  have hyn : vn.ownBlock ≠ some y := fun e => by obtain ⟨cur, hc⟩ := own_type k2 y e; rw [h1] at hc; simp at hc
  have hyd : vd.ownBlock ≠ some y := fun e => by obtain ⟨cur, hc⟩ := own_type k3 y e; rw [h1] at hc; simp at hc
  have a1 : w2.heap[y]? = some (.cells (yC A.K A.M A.C A.V vn vd vb A.cl) 185 (0, 0)) := by rw [hk2 y hyl hyn]; exact h1
  have a2 : (w2.setCell ⟨y, 4, none⟩ v2).heap[y]? = some (.cells (yC A.K A.M A.C A.V v2 vd vb A.cl) 185 (0, 0)) := set_heap w2 y 4 v2 _ _ _ a1
  have s2 := g2.size
  have ss : (w2.setCell ⟨y, 4, none⟩ v2).heap.size = w2.heap.size := by simp [World.setCell]
  have a3 : w4.heap[y]? = some (.cells (yC A.K A.M A.C A.V v2 vd vb A.cl) 185 (0, 0)) := by rw [hk4 y (by omega) hyd]; exact a2
  have a4 : (w4.setCell ⟨y, 5, none⟩ v4).heap[y]? = some (.cells (yC A.K A.M A.C A.V v2 v4 vb A.cl) 185 (0, 0)) := set_heap w4 y 5 v4 _ _ _ a3
  have hn1 : ({ A with ob := A.ob ++ [(s, (⟨#[]⟩ : ByteArray))] } : AW).n = A.n + 1 := by simp [AW.n]
  have hsz4 := g4.size
  rw [ss] at hsz4
  have hapart : ∀ q, v2.ownBlock = some q → v4.ownBlock ≠ some q := fun q hq hq4 => by
    have hq2l := own_lt o2 q hq
    rcases q4 with e4 | ⟨q', e4, l4⟩
    · rw [e4] at hq4
      rcases q2 with e2 | ⟨q'', e2, l2⟩
      · rw [e2] at hq; exact k8 q hq hq4
      · rw [e2] at hq; obtain rfl := Option.some.inj hq; have := own_lt k3 q'' hq4; omega
    · rw [e4] at hq4; obtain rfl := Option.some.inj hq4; omega
  have o2y : ∀ q, v2.ownBlock = some q → q ≠ y := fun q hq e => by
    obtain ⟨cur, hc⟩ := own_type o2 q hq
    rw [e, a1] at hc; simp at hc
  have o4y : ∀ q, v4.ownBlock = some q → q ≠ y := fun q hq e => by
    obtain ⟨cur, hc⟩ := own_type o4 q hq
    rw [e, a3] at hc; simp at hc
  have oby : ∀ q, vb.ownBlock = some q → q ≠ y := fun q hq e => by
    obtain ⟨cur, hc⟩ := own_type k4 q hq
    rw [e, h1] at hc; simp at hc
  have hvd2 : ∀ q, v2.ownBlock = some q → vd.ownBlock ≠ some q := fun q hq e => by
    rcases q2 with e2 | ⟨q'', e2, l2⟩
    · rw [e2] at hq; exact k8 q hq e
    · rw [e2] at hq; obtain rfl := Option.some.inj hq; have := own_lt k3 q'' e; omega
  refine ⟨fun j => S j ∨ v2.ownBlock = some j ∨ v4.ownBlock = some j, ⟨.inl h.sy, ?_, v2, v4, vb, a4, ?_, ?_, ?_, fun q hq => .inr (.inl hq), fun q hq => .inr (.inr hq), fun q hq => .inl (k7 q hq), hapart⟩, ?_, ?_⟩
  · intro j hj
    have : j < w4.heap.size := by
      rcases hj with hj | hj | hj
      · have := h.lt j hj; omega
      · have := own_lt o2 j hj; omega
      · exact own_lt o4 j hj
    simpa [World.setCell] using this
  · rw [hn1]
    have e1 : nmV (A.ob ++ [(s, (⟨#[]⟩ : ByteArray))]) = nmV A.ob ++ [.string s] := by simp [nmV]
    show World.ownsRow _ _ _ _ _ _ (nmV (A.ob ++ [(s, (⟨#[]⟩ : ByteArray))]))
    rw [e1]
    refine own_kept o2 (fun q hq => ?_)
    rw [set_other _ _ _ _ _ (o2y q hq), hk4 q (own_lt o2 q hq) (hvd2 q hq), set_other _ _ _ _ _ (o2y q hq)]
  · rw [hn1]
    have e1 : daV (A.ob ++ [(s, (⟨#[]⟩ : ByteArray))]) = daV A.ob ++ [.string ⟨#[]⟩] := by simp [daV]
    show World.ownsRow _ _ _ _ _ _ (daV (A.ob ++ [(s, (⟨#[]⟩ : ByteArray))]))
    rw [e1]
    exact own_kept o4 (fun q hq => set_other _ _ _ _ _ (o4y q hq))
  · refine own_kept k4 (fun q hq => ?_)
    obtain ⟨cur, hc⟩ := own_type k4 q hq
    have hql := own_lt k4 q hq
    have hn : vn.ownBlock ≠ some q := fun e => by obtain ⟨cur', hc'⟩ := own_type k2 q e; rw [hc] at hc'; simp at hc'
    have hd : vd.ownBlock ≠ some q := fun e => by obtain ⟨cur', hc'⟩ := own_type k3 q e; rw [hc] at hc'; simp at hc'
    rw [set_other _ _ _ _ _ (oby q hq), hk4 q (by omega) hd, set_other _ _ _ _ _ (oby q hq), hk2 q hql hn]
  · intro j hj
    rcases hj with hj | hj | hj
    · exact .inl hj
    · rcases q2 with e2 | ⟨q, e2, l2⟩
      · rw [e2] at hj; exact .inl (k5 j hj)
      · rw [e2] at hj; obtain rfl := Option.some.inj hj; exact .inr l2
    · rcases q4 with e4 | ⟨q, e4, l4⟩
      · rw [e4] at hj; exact .inl (k6 j hj)
      · rw [e4] at hj; obtain rfl := Option.some.inj hj; exact .inr (by omega)
  · have f1 : Fr S w (w2.setCell ⟨y, 4, none⟩ v2) := g2.set (g := y) (.inl h.sy) 4 _
    exact (f1.trans' g4).set (g := y) (.inl h.sy) 5 _
theorem rbegin_ok (y : Nat) (S : Nat → Prop) (A : AW) (s : ByteArray) (w : World) (hI : YI y S A w) (hs : A.state = []) (h16 : A.n < 16) (hs1 : 1 ≤ s.size) (hs2 : s.size ≤ 255) (hi : idxL s A.ob = none) :
    Calls Tryz.prog 92 #[.pointer (some ⟨y, 0, none⟩), .string s] w fun e w' => e = .returned (.slice none 0 0) ∧ YDid y S { A with ob := A.ob ++ [(s, ⟨#[]⟩)] } w w' := by
  have H : Hid _ := rstate_nil y S A w hI hs
  have HI : Hid _ := hI
  have hno := idxL_none hi
  have HNE : Hid (∀ j, ∀ h : j < A.ob.length, A.ob[j].1 ≠ s) := fun j h e => hno (by rw [← e]; exact List.mem_map.2 ⟨_, List.getElem_mem h, rfl⟩)
  have hs1' : ¬ ((s.size : Int) < 1) := by omega
  have hs2' : ¬ ((s.size : Int) > 255) := by omega
  obtain ⟨i0, hi9, hz0, hz1, hz2⟩ := info_parts info9
  clear hI hs hi hno
  go_enter Tryz.func92, Tryz.ntmps92
  go_wp2_with fail
  refine Calls.mono H.out ?_
  rintro e w1 ⟨a1, k1, rfl, hb1⟩
  have HI1 : Hid (YI y S A w1) := HI.out.open hb1
  have HB1 : Hid _ := hb1
  obtain ⟨vn, vd, vb, hy, hnn, hdd, _, k5, k6, _, k8⟩ := HI1.out.cells
  have K5 : Hid _ := k5
  have K6 : Hid _ := k6
  have K8 : Hid _ := k8
  obtain ⟨an, cn, hv⟩ := own_shape hnn
  subst hv
  obtain ⟨ad, cd, hv⟩ := own_shape hdd
  subst hv
  have c4 : w1.cell? ⟨y, 4, none⟩ = some (.slice an A.n cn) := cell_of_row _ _ _ _ 185 _ hy
  have HY : Hid (w1.heap[y]? = some (.cells (yC A.K A.M A.C A.V (.slice an A.n cn) (.slice ad A.n cd) vb A.cl) 185 (0, 0))) := hy
  have HNN : Hid (w1.ownsRow 0 9 1 (.slice an A.n cn) A.n (nmV A.ob)) := hnn
  have HDD : Hid (w1.ownsRow 0 9 1 (.slice ad A.n cd) A.n (daV A.ob)) := hdd
  have hyl : y < w1.heap.size := HI1.out.lt y HI1.out.sy
  have HYN : Hid (∀ q, (Value.slice an A.n cn).ownBlock = some q → q ≠ y) := fun q e e' => by obtain ⟨cur, hc⟩ := own_type hnn q e; rw [e', hy] at hc; simp at hc
  have HYD : Hid (∀ q, (Value.slice ad A.n cd).ownBlock = some q → q ≠ y) := fun q e e' => by obtain ⟨cur, hc⟩ := own_type hdd q e; rw [e', hy] at hc; simp at hc
  obtain ⟨n, hen⟩ : ∃ n, A.n = n := ⟨_, rfl⟩
  have HEN : Hid _ := hen
  have HNL : Hid (A.ob.length = n) := hen
  rw [hen] at c4 h16 HNN HDD HYN HYD K5 K6 K8 HY
  clear hb1 hnn hdd hy hen k5 k6 k8
  go_wp2_with fail
  go_loop [7] (fun iv => ∃ j : Nat, j ≤ n ∧ iv = .int .i64 j) (fun iv => n - (intOf iv).toNat)
  case atStart => exact ⟨0, by omega, rfl⟩
  case round =>
    obtain ⟨j, hj, rfl⟩ := hrel
    by_cases hlt : j < n
    · have hjl : j < A.ob.length := by have := HNL.out; omega
      obtain ⟨g, ha, hgl, x0⟩ := nm_cell HNN.out j hjl
      subst ha
      have hjn : (j : Int) < (n : Int) := by omega
      have hc := str_ne (HNE.out j hjl)
      obtain ⟨X, hX⟩ : ∃ X, A.ob[j].1 = X := ⟨_, rfl⟩
      rw [hX] at x0 hc
      clear hX
      go_wp2
      go_round
      case rel => exact ⟨j + 1, by omega, by go_num⟩
      case measure => simp [intOf]; omega
    · have ej : j = n := by omega
      subst ej
      have hn16 : ¬ ((j : Int) ≥ 16) := by omega
      go_wp2_with (first | (at_builtin; refine wpList_append2 rfl (.tmp 56) (.tmp 58) 42 rfl 9 i0 (.string ⟨#[]⟩) 1 16 Tryz.underlying42 hi9 hz0 hz1 hz2 rfl (by decide) 0 (.slice an j cn) j (nmV A.ob) (by simp [Act.eval]) (HNN.out.alloc _) ⟨w1.heap.size, 0, none⟩ 1 1 [.string s] (by simp [Act.eval]) rfl (cell_one_new _ _ _) (str_one _) (by unfold maxLen; omega) (by omega) (Nat.zero_le _) ?_; intro v2 w2 ho2 hg2 hq2; obtain ⟨a2, d2, hv2⟩ := own_shape ho2; subst hv2; have hy2 : w2.heap[y]? = some (.cells (yC A.K A.M A.C A.V (.slice an j cn) (.slice ad j cd) vb A.cl) 185 (0, 0)) := (by rw [hg2.block y (by simp; omega) (fun e => HYN.out y e.symm rfl), heap_alloc_old _ _ hyl]; exact HY.out); have e4 : w2.cell? ⟨y, 4, none⟩ = some (.slice an j cn) := cell_of_row _ _ _ _ 185 _ hy2; have f4 : w2.frozen? ⟨y, 4, none⟩ = false := frozen_of_row _ _ _ _ 185 hy2; have e5 : w2.cell? ⟨y, 5, none⟩ = some (.slice ad j cd) := cell_of_row _ _ _ _ 185 _ hy2; have HY2 : Hid _ := hy2; have HO2 : Hid _ := ho2; have HG2 : Hid _ := hg2; have HQ2 : Hid _ := hq2; have HD2 : Hid ((w2.setCell ⟨y, 4, none⟩ (.slice a2 (j + 1) d2)).ownsRow 0 9 1 (.slice ad j cd) j (daV A.ob)) := (own_kept HDD.out (fun q hq => by rw [set_other _ _ _ _ _ (HYD.out q hq), hg2.block q (by simp; have := own_lt HDD.out q hq; omega) (fun e => K8.out q e.symm hq), heap_alloc_old _ _ (own_lt HDD.out q hq)])); have HNW : Hid (∀ j' u, [Value.string ⟨#[]⟩][j']? = some u → ((w2.setCell ⟨y, 4, none⟩ (.slice a2 (j + 1) d2)).alloc (.cells #[.string ⟨#[]⟩] 9)).cell? ((⟨w2.heap.size, 0, none⟩ : Addr).add j') = some u) := (by have h := cell_one_new (w2.setCell ⟨y, 4, none⟩ (.slice a2 (j + 1) d2)) (.string ⟨#[]⟩) 9; have e : (w2.setCell ⟨y, 4, none⟩ (.slice a2 (j + 1) d2)).heap.size = w2.heap.size := (by simp); rw [e] at h; exact h); clear hy2 ho2 hg2 hq2) | (at_builtin; refine wpList_append2 rfl (.tmp 66) (.tmp 67) 42 rfl 9 i0 (.string ⟨#[]⟩) 1 16 Tryz.underlying42 hi9 hz0 hz1 hz2 rfl (by decide) 0 (.slice ad j cd) j (daV A.ob) (by simp [Act.eval]) (World.ownsRow.alloc HD2.out _) ⟨w2.heap.size, 0, none⟩ 1 1 [.string ⟨#[]⟩] (by simp [Act.eval]) rfl HNW.out (str_one _) (by unfold maxLen; omega) (by omega) (Nat.zero_le _) ?_; intro v4 w4 ho4 hg4 hq4; obtain ⟨a4, d4, hv4⟩ := own_shape ho4; subst hv4; have hy4 : w4.heap[y]? = some (.cells (yC A.K A.M A.C A.V (.slice a2 (j + 1) d2) (.slice ad j cd) vb A.cl) 185 (0, 0)) := (by rw [hg4.block y (by simp; have := (Array.getElem?_eq_some_iff.1 HY2.out).1; omega) (fun e => HYD.out y e.symm rfl), heap_alloc_old _ _ (by simp; exact (Array.getElem?_eq_some_iff.1 HY2.out).1)]; exact set_heap w2 y 4 _ _ _ _ HY2.out); have g5 : w4.cell? ⟨y, 5, none⟩ = some (.slice ad j cd) := cell_of_row _ _ _ _ 185 _ hy4; have f5 : w4.frozen? ⟨y, 5, none⟩ = false := frozen_of_row _ _ _ _ 185 hy4; have HO4 : Hid _ := ho4; have HG4 : Hid _ := hg4; have HQ4 : Hid _ := hq4; clear hy4 ho4 hg4 hq4))
      go_ret
      have hen := HEN.out
      subst hen
      have hs4 : (w2.setCell ⟨y, 4, none⟩ (.slice a2 (A.n + 1) d2)).heap.size = w2.heap.size := by simp [World.setCell]
      refine ⟨rfl, YDid.after HB1.out (YI.begun HI1.out HY.out HO2.out (((Fr.refl S w1).alloc _).grown HG2.out (fun q hq => .inl (K5.out q hq))) ?_ ?_ HO4.out (((Fr.refl S _).alloc _).grown HG4.out (fun q hq => .inl (K6.out q hq))) ?_ ?_)⟩
      · rcases HQ2.out with h | ⟨q, h1, h2⟩
        · exact .inl h
        · exact .inr ⟨q, h1, by simp at h2; omega⟩
      · intro k hk hne
        rw [HG2.out.block k (by simp; omega) (fun e => hne e.symm), heap_alloc_old _ _ hk]
      · rcases HQ4.out with h | ⟨q, h1, h2⟩
        · exact .inl h
        · exact .inr ⟨q, h1, by simp at h2; omega⟩
      · intro k hk hne
        rw [HG4.out.block k (by simp; omega) (fun e => hne e.symm), heap_alloc_old _ _ (by rw [hs4]; exact hk)]
theorem rbegin_any (y : Nat) (S : Nat → Prop) (A : AW) (s : ByteArray) (w : World) (hI : YI y S A w) (hA : A.ok) :
    Calls Tryz.prog 92 #[.pointer (some ⟨y, 0, none⟩), .string s] w fun e w' => ∃ v, e = .returned v ∧ w'.ownsRow 0 250 2 v (A.bgE s).length (mkL (A.bgE s)) ∧ YDid y S (A.bgA s) w w' := by
  by_cases hs : A.state = []
  · by_cases hn : s.size < 1 ∨ 255 < s.size
    · have e1 : A.bgE s = [(2, (A.n : Int))] := by unfold AW.bgE; rw [if_pos hs, if_pos hn]
      have e2 : A.bgA s = { A with br := some (2, (A.n : Int)) } := by unfold AW.bgA; rw [if_pos hs, e1]
      rw [e1, e2]
      exact rbegin_name y S A s w hI hs hn
    · cases hi : idxL s A.ob with
      | some i =>
        have e1 : A.bgE s = [(3, (i : Int))] := by unfold AW.bgE; rw [if_pos hs, if_neg hn, hi]
        have e2 : A.bgA s = { A with br := some (3, (i : Int)) } := by unfold AW.bgA; rw [if_pos hs, e1]
        rw [e1, e2]
        exact rbegin_dup y S A s i w hI hs hA.n16 (by omega) (by omega) hi
      | none =>
        by_cases h16 : A.n = 16
        · have e1 : A.bgE s = [(4, 16)] := by unfold AW.bgE; rw [if_pos hs, if_neg hn, hi]; simp [h16]
          have e2 : A.bgA s = { A with br := some (4, 16) } := by unfold AW.bgA; rw [if_pos hs, e1]
          rw [e1, e2]
          exact rbegin_full y S A s w hI hs h16 (by omega) (by omega) hi
        · have e1 : A.bgE s = [] := by unfold AW.bgE; rw [if_pos hs, if_neg hn, hi]; simp [h16]
          have e2 : A.bgA s = { A with ob := A.ob ++ [(s, ⟨#[]⟩)] } := by unfold AW.bgA; rw [if_pos hs, e1]
          have := hA.n16
          rw [e1, e2]
          refine (rbegin_ok y S A s w hI hs (by omega) (by omega) (by omega) hi).mono ?_
          rintro e w' ⟨rfl, hd⟩
          exact ⟨_, rfl, own0, hd⟩
  · have e1 : A.bgE s = A.state := by unfold AW.bgE; rw [if_neg hs]
    have e2 : A.bgA s = A := by unfold AW.bgA; rw [if_neg hs]
    rw [e1, e2]
    refine (rbegin_state y S A s w hI hs).mono ?_
    rintro e w' ⟨v, rfl, ho, hb⟩
    exact ⟨v, rfl, ho, YDid.same hI hb⟩
end Go.Proofs.YtadinjaocnlglaaGreatDoor
