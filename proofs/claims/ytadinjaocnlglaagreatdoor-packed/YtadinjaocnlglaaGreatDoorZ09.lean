/-
  The library's contracts at this program's numbers.
  A strings.Builder beside other work; the walk of layout.listOf.
-/
import Derived.Test.YtadinjaocnlglaaGreatDoorZ08
import Derived.WalkKit
import Derived.Test.YtadinjaocnlglaaGreatDoorZ07
namespace Go.Proofs.YtadinjaocnlglaaGreatDoor
open Go.RowKit
theorem bstr_k (B b : Nat) (l : List UInt8) (w : World) (h : Lib.IsBuilderF 310 5 B b (Lib.byteCells l) w) (hB : B ≤ w.heap.size) :
    Calls Tryz.prog 201 #[.pointer (some ⟨b, 0, none⟩)] w fun e w' => e = .returned (.string ⟨l.toArray⟩) ∧ (Lib.IsBuilderF 310 5 B b (Lib.byteCells l) w' ∧ Below B w w' ∧ Lib.OthersKept 5 (some b) w w') :=
  Any.Builder_String_any_k Tryz.lays169 Tryz.Builder_Extra_169 B b l w h hB
theorem join_none (a : Option Addr) (c : Nat) (sep : ByteArray) (w : World) :
    Calls Tryz.prog 184 #[.slice a 0 c, .string sep] w fun e w' => e = .returned (.string ⟨#[]⟩) ∧ w' = w :=
  Any.strings_Join_none Tryz.lays156 Tryz.Builder_Extra_156 a c sep w
theorem join_some (g o c : Nat) (xs : List ByteArray) (sep : ByteArray) (w : World) (h1 : ∀ (j : Nat) x, xs[j]? = some x → w.cell? ⟨g, o + j, none⟩ = some (.string x)) (h2 : g < w.heap.size) (h3 : xs.length ≤ 140737488355328) (h4 : xs.length ≤ c) (h5 : (Lib.join (xs.map (·.data.toList)) sep.data.toList).length ≤ 140737488355328) :
    Calls Tryz.prog 184 #[.slice (some ⟨g, o, none⟩) xs.length c, .string sep] w fun e w' => e = .returned (.string ⟨(Lib.join (xs.map (·.data.toList)) sep.data.toList).toArray⟩) ∧ Below w.heap.size w w' :=
  Any.strings_Join Tryz.lays156 Tryz.Builder_Extra_156 g o c xs sep w h1 h2 h3 h4 h5
theorem repeat_any (s : ByteArray) (c : Nat) (w : World) (h1 : c ≤ 9223372036854775807) (h2 : s.size * c ≤ 140737488355328) :
    Calls Tryz.prog 202 #[.string s, .int .i64 c] w fun e w' => e = .returned (.string ⟨(Lib.repeatL s.data.toList c).toArray⟩) ∧ Below w.heap.size w w' :=
  Any.strings_Repeat Tryz.lays105 Tryz.Builder_Extra_105 s c w h1 h2
end Go.Proofs.YtadinjaocnlglaaGreatDoor
namespace Go.Proofs.YtadinjaocnlglaaGreatDoor
open Go.RowKit Go.Shelf
set_option maxRecDepth 100000
set_option maxHeartbeats 2000000
theorem ownF_below {w w' : World} {base : Nat} {e : TypeId} {size : Nat} {v : Value} {n : Nat} {xs : List Value} (h : w.ownsRowF base e size v n xs) (hb : Below w.heap.size w w') : w'.ownsRowF base e size v n xs := by
  refine ⟨h.1, ?_⟩
  rcases h.2 with h2 | ⟨g, cap, cur, fz, hv, hg, hh, rest⟩
  · exact .inl h2
  · exact .inr ⟨g, cap, cur, fz, hv, hg, by rw [hb.block g (Array.getElem?_eq_some_iff.1 hh).1]; exact hh, rest⟩
theorem bldAt_below {B b : Nat} {p : Value} {bs : List Value} {w w' : World} (h : Lib.BuilderAtF 310 5 B b p bs w) (hb : Below w.heap.size w w') : Lib.BuilderAtF 310 5 B b p bs w' := by
  obtain ⟨h1, v, h2, h3, h4⟩ := h
  exact ⟨h1, v, by rw [hb.block b (Array.getElem?_eq_some_iff.1 h2).1]; exact h2, ownF_below h3 hb, h4⟩
/-- a builder of one's own that holds these bytes -/
def Bld (b : Nat) (l : List UInt8) (w : World) : Prop := Lib.IsBuilderF 310 5 b b (Lib.byteCells l) w
theorem Bld.below {b : Nat} {l : List UInt8} {w w' : World} (h : Bld b l w) (hb : Below w.heap.size w w') : Bld b l w' := by
  rcases h with h | h
  · exact .inl (bldAt_below h hb)
  · exact .inr (bldAt_below h hb)
theorem Bld.lt {b : Nat} {l : List UInt8} {w : World} (h : Bld b l w) : b < w.heap.size := by
  rcases h with h | h
  · exact h.lt
  · exact h.lt
theorem Bld.fresh (w : World) : Bld w.heap.size [] (w.alloc (.cells #[.pointer none, .slice none 0 0] 310)) := Lib.IsBuilderF.of (Lib.fresh_isBuilder 310 5 w)
/-- what stands beside the builder is as it was -/
def Oth (b : Nat) (w w' : World) : Prop := Lib.OthersKept 5 (some b) w w'
theorem Oth.below {b : Nat} {w w' : World} (hb : Below w.heap.size w w') : Oth b w w' := fun k o hk _ _ => by rw [hb.block k (Array.getElem?_eq_some_iff.1 hk).1]; exact hk
theorem Oth.trans {b : Nat} {a c d : World} (h : Oth b a c) (k : Oth b c d) : Oth b a d := Lib.OthersKept.trans h k
theorem Oth.row {b g : Nat} {w w' : World} {cs : Array Value} {t : TypeId} (h : Oth b w w') (hg : w.heap[g]? = some (.cells cs t (0, 0))) (hne : g ≠ b) (ht : t ≠ 5) : w'.heap[g]? = some (.cells cs t (0, 0)) :=
  h g _ hg (by simpa using hne) (fun c fz e => by simp at e; exact ht e.2.1)
theorem wstr_lay (B b : Nat) (bs : List Value) (s : ByteArray) (w : World) (h : Lib.IsBuilderF 310 5 B b bs w) (hlen : bs.length + s.size ≤ 140737488355328) (hBw : B ≤ w.heap.size) :
    Calls Tryz.prog 219 #[.pointer (some ⟨b, 0, none⟩), .string s] w fun e w' => e = .returned (.tuple #[.int .i64 s.size, .nilIface]) ∧ (Lib.BuilderAtF 310 5 B b (.pointer (some ⟨b, 0, none⟩)) (bs ++ Lib.strCells s) w' ∧ Below B w w' ∧ Lib.OthersKept 5 (some b) w w') :=
  Any.Builder_WriteString_k (P := Tryz.prog) (ρ := Tryz.lays156_ren) { Tryz.lays156 with } Tryz.Builder_Extra_156 B b bs s w h hlen hBw
theorem wstr_any (b : Nat) (l : List UInt8) (s : ByteArray) (w : World) (h : Bld b l w) (hl : l.length + s.size ≤ 140737488355328) :
    Calls Tryz.prog 219 #[.pointer (some ⟨b, 0, none⟩), .string s] w fun e w' => e = .returned (.tuple #[.int .i64 s.size, .nilIface]) ∧ Bld b (l ++ s.data.toList) w' ∧ Below b w w' ∧ Oth b w w' := by
  refine (wstr_lay b b (Lib.byteCells l) s w h (by rw [Lib.byteCells_length]; exact hl) (Nat.le_of_lt h.lt)).mono ?_
  rintro e w' ⟨he, h1, h2, h3⟩
  refine ⟨he, .inr ?_, h2, h3⟩
  rw [Lib.byteCells_append]
  exact h1
theorem bstr_any (b : Nat) (l : List UInt8) (w : World) (h : Bld b l w) :
    Calls Tryz.prog 201 #[.pointer (some ⟨b, 0, none⟩)] w fun e w' => e = .returned (.string ⟨l.toArray⟩) ∧ Below b w w' := by
  refine (bstr_k b b l w h (Nat.le_of_lt h.lt)).mono ?_
  rintro e w' ⟨he, _, h2, _⟩
  exact ⟨he, h2⟩
/-- the five numbers of a list -/
def num5 (K M C V n : Nat) : Nat → Nat
  | 0 => K
  | 1 => M
  | 2 => C
  | 3 => V
  | _ => n
def vltT : ByteArray := ⟨#[86, 76, 84, 49]⟩
/-- the list's head, with so many of the five numbers -/
def lst1 (F : Nat → Nat) : Nat → List UInt8
  | 0 => vltT.data.toList
  | i + 1 => lst1 F i ++ (vint (F i)).data.toList
/-- so many entries behind it -/
def lst2 (h : List UInt8) (Nm : Nat → ByteArray) (Ln : Nat → Nat) : Nat → List UInt8
  | 0 => h
  | j + 1 => lst2 h Nm Ln j ++ (vint (Nm j).size).data.toList ++ (Nm j).data.toList ++ (vint (Ln j)).data.toList
theorem dl (s : ByteArray) : s.data.toList.length = s.size := by simp
theorem lst1_len (F : Nat → Nat) : ∀ i, (lst1 F i).length ≤ 4 + 5 * i
  | 0 => by show vltT.data.toList.length ≤ _; decide
  | i + 1 => by
    have := lst1_len F i
    have := vint_size (F i)
    rw [lst1, List.length_append, dl]; omega
theorem lst2_len (h : List UInt8) (Nm : Nat → ByteArray) (Ln : Nat → Nat) (hN : ∀ j, (Nm j).size ≤ 1000) : ∀ j, (lst2 h Nm Ln j).length ≤ h.length + 1010 * j
  | 0 => by simp [lst2]
  | j + 1 => by
    have := lst2_len h Nm Ln hN j
    have := vint_size (Nm j).size
    have := vint_size (Ln j)
    have := hN j
    rw [lst2, List.length_append, List.length_append, List.length_append, dl, dl, dl]; omega
def lstT (K M C V n : Nat) (Nm : Nat → ByteArray) (Ln : Nat → Nat) : ByteArray := ⟨(lst2 (lst1 (num5 K M C V n) 5) Nm Ln n).toArray⟩
theorem listOf_any (K M C V n cap : Nat) (a : Option Addr) (Nm : Nat → ByteArray) (Ln : Nat → Nat) (w : World) (hK : K ≤ 100000) (hM : M ≤ 100000) (hC : C ≤ 100000) (hV : V ≤ 100000) (hn : n ≤ 100000) (hN : ∀ j, (Nm j).size ≤ 1000) (hLn : ∀ j, Ln j ≤ 100000)
    (hE : ∀ j, j < n → ∃ b, a = some ⟨b, 0, none⟩ ∧ b < w.heap.size ∧ w.cell? ⟨b, j * 2, none⟩ = some (.string (Nm j)) ∧ w.cell? ⟨b, j * 2 + 1, none⟩ = some (.int .i64 (Ln j))) :
    Calls Tryz.prog 180 #[.agg #[.int .i64 K, .int .i64 M, .int .i64 C, .int .i64 V], .slice a n cap] w fun e w' => e = .returned (.string (lstT K M C V n Nm Ln)) ∧ Below w.heap.size w w' := by
  have HE : Hid _ := hE
  have HN : Hid _ := hN
  have HLN : Hid _ := hLn
  clear hE hN hLn
  go_enter Tryz.func180, Tryz.ntmps180
  go_wp2_with fail
  obtain ⟨s1, hs1⟩ : ∃ s1, s1 = (w.alloc (Obj.cells #[Value.int IntKind.i64 K, Value.int IntKind.i64 M, Value.int IntKind.i64 C, Value.int IntKind.i64 V] 23)).alloc (Obj.cells #[Value.pointer none, Value.slice none 0 0] 310) := ⟨_, rfl⟩
  have HBl1 : Hid (Bld (w.heap.size + 1) [] s1) := by
    show Bld _ _ _
    have h := Bld.fresh (w.alloc (Obj.cells #[Value.int IntKind.i64 K, Value.int IntKind.i64 M, Value.int IntKind.i64 C, Value.int IntKind.i64 V] 23))
    rw [hs1]
    have e : (w.alloc (Obj.cells #[Value.int IntKind.i64 K, Value.int IntKind.i64 M, Value.int IntKind.i64 C, Value.int IntKind.i64 V] 23)).heap.size = w.heap.size + 1 := by simp
    rw [e] at h
    exact h
  have HX1 : Hid (s1.heap[w.heap.size]? = some (.cells #[.int .i64 K, .int .i64 M, .int .i64 C, .int .i64 V] 23 (0, 0))) := by
    show _ = _
    rw [hs1, Below.heap_alloc _ _ _ (by simp)]; exact heap_alloc_new _ _
  have HB1 : Hid (Below w.heap.size w s1) := by
    show Below _ _ _
    rw [hs1]; exact ((Below.refl _ w).alloc (Nat.le_refl _) _).alloc (by simp) _
  rw [← hs1]
  clear hs1
  obtain ⟨x, hx⟩ : ∃ x, x = w.heap.size := ⟨_, rfl⟩
  obtain ⟨b, hb⟩ : ∃ b, b = x + 1 := ⟨_, rfl⟩
  rw [← hx] at HBl1 HX1 ⊢
  rw [← hb] at HBl1 ⊢
  have HX : Hid _ := hx
  have hxb : x < b := by omega
  clear hx hb
  have HF : Hid (lst1 (num5 K M C V n) 0 = vltT.data.toList) := rfl
  refine (wstr_any b [] vltT s1 HBl1.out (by decide)).mono ?_
  rintro e s2 ⟨rfl, hb2, hw2, ho2⟩
  have HBl2 : Hid (Bld b (lst1 (num5 K M C V n) 0) s2) := hb2
  have HB2 : Hid (Below w.heap.size w s2) := HB1.out.trans (hw2.mono (by rw [← HX.out]; omega))
  have HX2 : Hid (s2.heap[x]? = some (.cells #[.int .i64 K, .int .i64 M, .int .i64 C, .int .i64 V] 23 (0, 0))) := by
    show _ = _
    rw [hw2.block x hxb]; exact HX1.out
  clear hb2 hw2 ho2 HBl1 HX1 HB1
  have c0 : s2.cell? ⟨x, 0, none⟩ = some (.int .i64 K) := cell_of_row _ _ _ _ 23 _ HX2.out
  have c1 : s2.cell? ⟨x, 1, none⟩ = some (.int .i64 M) := cell_of_row _ _ _ _ 23 _ HX2.out
  have c2 : s2.cell? ⟨x, 2, none⟩ = some (.int .i64 C) := cell_of_row _ _ _ _ 23 _ HX2.out
  have c3 : s2.cell? ⟨x, 3, none⟩ = some (.int .i64 V) := cell_of_row _ _ _ _ 23 _ HX2.out
  go_wp2
  obtain ⟨s3, hs3⟩ : ∃ s3, s3 = s2.alloc (Obj.cells #[Value.int IntKind.i64 K, Value.int IntKind.i64 M, Value.int IntKind.i64 C, Value.int IntKind.i64 V, Value.int IntKind.i64 n] 3) := ⟨_, rfl⟩
  have hb23 : Below s2.heap.size s2 s3 := by rw [hs3]; exact (Below.refl _ _).alloc (Nat.le_refl _) _
  have HR3 : Hid (s3.heap[s2.heap.size]? = some (.cells #[.int .i64 K, .int .i64 M, .int .i64 C, .int .i64 V, .int .i64 n] 3 (0, 0))) := by
    show _ = _
    rw [hs3]; exact heap_alloc_new _ _
  have HBl3 : Hid (Bld b (lst1 (num5 K M C V n) 0) s3) := HBl2.out.below hb23
  have HB3 : Hid (Below w.heap.size w s3) := HB2.out.trans (hb23.mono HB2.out.size)
  have hbn : b < s2.heap.size := HBl2.out.lt
  rw [← hs3]
  clear hs3 hb23 HBl2 HX2 HB2 c0 c1 c2 c3
  obtain ⟨nb, hnb⟩ : ∃ nb, nb = s2.heap.size := ⟨_, rfl⟩
  rw [← hnb] at HR3 hbn ⊢
  have HNB : Hid _ := hnb
  clear hnb
  have hF : ∀ i, num5 K M C V n i ≤ 100000 := fun i => by unfold num5; split <;> omega
  have HFB : Hid _ := hF
  have HFC : Hid (∀ i, i < 5 → (#[Value.int .i64 K, .int .i64 M, .int .i64 C, .int .i64 V, .int .i64 n] : Array Value)[i]? = some (.int .i64 ((num5 K M C V n i : Nat) : Int))) := fun i hi => by
    match i, hi with
    | 0, _ => rfl
    | 1, _ => rfl
    | 2, _ => rfl
    | 3, _ => rfl
    | 4, _ => rfl
  obtain ⟨F, hFe⟩ : ∃ F, num5 K M C V n = F := ⟨_, rfl⟩
  rw [hFe] at HBl3 HFB HFC
  have HFE : Hid _ := hFe
  clear hFe hF HF
  go_loopw [23] (fun iv wr => ∃ i : Nat, i ≤ 5 ∧ iv = .int .i64 i ∧ Bld b (lst1 F i) wr ∧ Oth b s3 wr ∧ Below w.heap.size w wr) (fun iv _ => 5 - (intOf iv).toNat)
  case atStart => exact ⟨0, by omega, rfl, HBl3.out, Oth.below (Below.refl _ _), HB3.out⟩
  case round =>
    obtain ⟨i, hi, rfl, hbl, hot, hbe⟩ := hrel
    have HBL : Hid (Bld b (lst1 F i) wr) := hbl
    have HOT : Hid (Oth b s3 wr) := hot
    have HBE : Hid (Below w.heap.size w wr) := hbe
    clear hbl hot hbe
    by_cases hlt : i < 5
    · have r0 : wr.cell? ⟨nb, i, none⟩ = some (.int .i64 ((F i : Nat) : Int)) := by
        rw [cell_of_row _ _ _ _ 3 _ (HOT.out.row HR3.out (by omega) (by decide))]; exact HFC.out i hlt
      have hFi := HFB.out i
      have hmod : ((F i : Nat) : Int) % 4294967296 = ((F i : Nat) : Int) := by omega
      have HLEN : Hid _ := lst1_len F i
      have HNX : Hid (lst1 F (i + 1) = lst1 F i ++ (vint (F i)).data.toList) := rfl
      go_wp2_with fail
      refine (varint_any (F i) wr (by omega)).mono ?_
      rintro e w1 ⟨rfl, hb1⟩
      have HBL1 : Hid (Bld b (lst1 F i) w1) := HBL.out.below hb1
      have HOT1 : Hid (Oth b s3 w1) := HOT.out.trans (Oth.below hb1)
      have HBE1 : Hid (Below w.heap.size w w1) := HBE.out.trans (hb1.mono HBE.out.size)
      clear hb1 HBL HOT HBE r0
      go_wp2_with fail
      refine (wstr_any b (lst1 F i) (vint (F i)) w1 HBL1.out (by have := HLEN.out; have := vint_size (F i); omega)).mono ?_
      rintro e w2 ⟨rfl, hb2, hw2, ho2⟩
      have HBL2 : Hid (Bld b (lst1 F (i + 1)) w2) := hb2
      have HOT2 : Hid (Oth b s3 w2) := HOT1.out.trans ho2
      have HBE2 : Hid (Below w.heap.size w w2) := HBE1.out.trans (hw2.mono (by rw [← HX.out]; omega))
      clear hb2 hw2 ho2 HBL1 HOT1 HBE1
      go_wp2
      go_roundw
      case rel => exact ⟨i + 1, by omega, by go_num, HBL2.out, HOT2.out, HBE2.out⟩
      case measure => simp [intOf]; omega
    · have e : i = 5 := by omega
      subst e
      obtain ⟨s4, hs4⟩ : ∃ s4, s4 = wr := ⟨_, rfl⟩
      rw [← hs4] at HBL HBE ⊢
      clear hs4
      obtain ⟨hd, hhd⟩ : ∃ hd, lst1 F 5 = hd := ⟨_, rfl⟩
      have hhl : hd.length ≤ 29 := by rw [← hhd]; exact lst1_len F 5
      rw [hhd] at HBL
      have HHD : Hid _ := hhd
      clear hhd HOT
      go_wp2
      go_loopw [34] (fun jv wr => ∃ j : Nat, j ≤ n ∧ jv = .int .i64 j ∧ Bld b (lst2 hd Nm Ln j) wr ∧ Below w.heap.size w wr) (fun jv _ => n - (intOf jv).toNat)
      case atStart => exact ⟨0, by omega, rfl, HBL.out, HBE.out⟩
      case round =>
        obtain ⟨j, hj, rfl, hbl, hbe⟩ := hrel
        have HBLj : Hid (Bld b (lst2 hd Nm Ln j) wr) := hbl
        have HBEj : Hid (Below w.heap.size w wr) := hbe
        clear hbl hbe
        by_cases hlj : j < n
        · obtain ⟨eb, ha, heb, hc0, hc1⟩ := HE.out j hlj
          subst ha
          have r0 : wr.cell? ⟨eb, j * 2, none⟩ = some (.string (Nm j)) := (HBEj.out.cell (p := ⟨eb, j * 2, none⟩) heb).trans hc0
          have r1 : wr.cell? ⟨eb, j * 2 + 1, none⟩ = some (.int .i64 (Ln j)) := (HBEj.out.cell (p := ⟨eb, j * 2 + 1, none⟩) heb).trans hc1
          have hNj := HN.out j
          have hLj := HLN.out j
          have HLEN : Hid _ := lst2_len hd Nm Ln HN.out j
          have hm1 : ((Nm j).size : Int) % 4294967296 = ((Nm j).size : Int) := by omega
          have hm2 : ((Ln j : Nat) : Int) % 4294967296 = ((Ln j : Nat) : Int) := by omega
          go_wp2_with fail
          obtain ⟨e1, he1⟩ : ∃ e1, e1 = wr.alloc (Obj.cells #[Value.string (Nm j), Value.int IntKind.i64 (Ln j)] 70) := ⟨_, rfl⟩
          have hb01 : Below wr.heap.size wr e1 := by rw [he1]; exact (Below.refl _ _).alloc (Nat.le_refl _) _
          have HP1 : Hid (e1.heap[wr.heap.size]? = some (.cells #[.string (Nm j), .int .i64 (Ln j)] 70 (0, 0))) := by
            show _ = _
            rw [he1]; exact heap_alloc_new _ _
          have HL1 : Hid (Bld b (lst2 hd Nm Ln j) e1) := HBLj.out.below hb01
          have HE1 : Hid (Below w.heap.size w e1) := HBEj.out.trans (hb01.mono HBEj.out.size)
          have hpb : b < wr.heap.size := HBLj.out.lt
          rw [← he1]
          clear he1 hb01 HBLj HBEj r0 r1
          obtain ⟨pb, hpe⟩ : ∃ pb, pb = wr.heap.size := ⟨_, rfl⟩
          rw [← hpe] at HP1 hpb ⊢
          have HPE : Hid _ := hpe
          clear hpe
          refine (varint_any (Nm j).size e1 (by omega)).mono ?_
          rintro e e2 ⟨rfl, hb2⟩
          have HP2 : Hid (e2.heap[pb]? = some (.cells #[.string (Nm j), .int .i64 (Ln j)] 70 (0, 0))) := by
            show _ = _
            rw [hb2.block pb (Array.getElem?_eq_some_iff.1 HP1.out).1]; exact HP1.out
          have HL2 : Hid (Bld b (lst2 hd Nm Ln j) e2) := HL1.out.below hb2
          have HE2 : Hid (Below w.heap.size w e2) := HE1.out.trans (hb2.mono HE1.out.size)
          clear hb2 HP1 HL1 HE1
          have hv1 := vint_size (Nm j).size
          have hv2 := vint_size (Ln j)
          go_wp2_with fail
          refine (wstr_any b _ (vint (Nm j).size) e2 HL2.out (by have := HLEN.out; omega)).mono ?_
          rintro e e3 ⟨rfl, hb3, hw3, ho3⟩
          have HP3 : Hid (e3.heap[pb]? = some (.cells #[.string (Nm j), .int .i64 (Ln j)] 70 (0, 0))) := ho3.row HP2.out (by omega) (by decide)
          have HL3 : Hid (Bld b (lst2 hd Nm Ln j ++ (vint (Nm j).size).data.toList) e3) := hb3
          have HE3 : Hid (Below w.heap.size w e3) := HE2.out.trans (hw3.mono (by rw [← HX.out]; omega))
          clear hb3 hw3 ho3 HP2 HL2 HE2
          have p0 : e3.cell? ⟨pb, 0, none⟩ = some (.string (Nm j)) := cell_of_row _ _ _ _ 70 _ HP3.out
          go_wp2_with fail
          refine (wstr_any b _ (Nm j) e3 HL3.out (by have := HLEN.out; rw [List.length_append, dl]; omega)).mono ?_
          rintro e e4 ⟨rfl, hb4, hw4, ho4⟩
          have HP4 : Hid (e4.heap[pb]? = some (.cells #[.string (Nm j), .int .i64 (Ln j)] 70 (0, 0))) := ho4.row HP3.out (by omega) (by decide)
          have HL4 : Hid (Bld b (lst2 hd Nm Ln j ++ (vint (Nm j).size).data.toList ++ (Nm j).data.toList) e4) := hb4
          have HE4 : Hid (Below w.heap.size w e4) := HE3.out.trans (hw4.mono (by rw [← HX.out]; omega))
          clear hb4 hw4 ho4 HP3 HL3 HE3 p0
          have p1 : e4.cell? ⟨pb, 1, none⟩ = some (.int .i64 (Ln j)) := cell_of_row _ _ _ _ 70 _ HP4.out
          go_wp2_with fail
          refine (varint_any (Ln j) e4 (by omega)).mono ?_
          rintro e e5 ⟨rfl, hb5⟩
          have HL5 : Hid (Bld b (lst2 hd Nm Ln j ++ (vint (Nm j).size).data.toList ++ (Nm j).data.toList) e5) := HL4.out.below hb5
          have HE5 : Hid (Below w.heap.size w e5) := HE4.out.trans (hb5.mono HE4.out.size)
          clear hb5 HP4 HL4 HE4 p1
          go_wp2_with fail
          refine (wstr_any b _ (vint (Ln j)) e5 HL5.out (by have := HLEN.out; rw [List.length_append, List.length_append, dl, dl]; omega)).mono ?_
          rintro e e6 ⟨rfl, hb6, hw6, _⟩
          have HL6 : Hid (Bld b (lst2 hd Nm Ln (j + 1)) e6) := hb6
          have HE6 : Hid (Below w.heap.size w e6) := HE5.out.trans (hw6.mono (by rw [← HX.out]; omega))
          clear hb6 hw6 HL5 HE5
          go_wp2
          go_roundw
          case rel => exact ⟨_, _, _, _, _, _, _, _, _, _, _, _, _, _, _, _, _, _, _, _, ⟨j + 1, by omega, by go_num, HL6.out, HE6.out⟩, rfl⟩
          case measure => simp [intOf]; omega
        · have e : j = n := by omega
          go_wp2_with fail
          refine (bstr_any b _ wr HBLj.out).mono ?_
          rintro e w1 ⟨rfl, hb1⟩
          have HF1 : Hid (Below w.heap.size w w1) := HBEj.out.trans (hb1.mono (by rw [← HX.out]; omega))
          clear hb1
          go_wp2
          go_ret
          refine ⟨?_, HF1.out⟩
          show Ending.returned (.string ⟨(lst2 hd Nm Ln n).toArray⟩) = _
          unfold lstT
          rw [HFE.out, HHD.out]
end Go.Proofs.YtadinjaocnlglaaGreatDoor
