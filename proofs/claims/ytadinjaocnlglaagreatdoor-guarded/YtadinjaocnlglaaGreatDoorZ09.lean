/-
  The library's contracts at this program's numbers.
  A strings.Builder beside other work; the walk of layout.listOf.
  The walk of strings.Builder's Write.
  The walk of draft's sorted.
  Rows that are owned.
  A list made longer: its row is the old one, or a new one.
  The walks of mark, fullTexts, keepTexts, looks.
-/
import Derived.Test.YtadinjaocnlglaaGreatDoorZ08
import Derived.WalkKit
import Derived.Test.YtadinjaocnlglaaGreatDoorZ07
import Derived.Test.YtadinjaocnlglaaGreatDoorZ06
import Derived.Sort.KeysCollected
import Derived.Test.YtadinjaocnlglaaGreatDoorZ04
import Derived.Deep.RegionLaw
import Derived.ArgAppend
import Derived.Maps.AppendAt
import Derived.BigRegion
import Derived.BigQuiet
import Derived.Deep.QuietTactic
import Derived.Deep.RegionWith
import Derived.Deep.RegionHeld3
import Derived.Deep.RegionLawGrows
namespace Go.Proofs.YtadinjaocnlglaaGreatDoor
open Go.RowKit
theorem bstr_k (B b : Nat) (l : List UInt8) (w : World) (h : Lib.IsBuilderF 310 5 B b (Lib.byteCells l) w) (hB : B ≤ w.heap.size) :
    Calls Tryz.prog 201 #[.pointer (some ⟨b, 0, none⟩)] w fun e w' => e = .returned (.string ⟨l.toArray⟩) ∧ (Lib.IsBuilderF 310 5 B b (Lib.byteCells l) w' ∧ Below B w w' ∧ Lib.OthersKept 5 (some b) w w') :=
  Any.Builder_String_any_k Tryz.lays169 Tryz.Builder_Extra_169 B b l w h hB
theorem join_none (a : Option Addr) (c : Nat) (sep : ByteArray) (w : World) :
    Calls Tryz.prog 184 #[.slice a 0 c, .string sep] w fun e w' => e = .returned (.string ⟨#[]⟩) ∧ w' = w :=
  Any.strings_Join_none Tryz.lays156 Tryz.Builder_Extra_156 a c sep w
theorem join_some (g o c : Nat) (xs : List ByteArray) (sep : ByteArray) (w : World) (h1 : ∀ (j : Nat) x, xs[j]? = some x → w.cell? ⟨g, o + j, none⟩ = some (.string x)) (h2 : g < w.heap.size) (h3 : xs.length ≤ 140737488355328) (h4 : xs.length ≤ c) (h5 : (Lib.join (xs.map (·.data.toList)) sep.data.toList).length ≤ 140737488355328) :
    Calls Tryz.prog 184 #[.slice (some ⟨g, o, none⟩) xs.length c, .string sep] w fun e w' => e = .returned (.string ⟨(Lib.join (xs.map (·.data.toList)) sep.data.toList).toArray⟩) ∧ Below w.heap.size w w' :=
  Any.strings_Join Tryz.lays156 Tryz.Builder_Extra_156 g o c xs sep w h1 h2 h3 h4 h5
theorem repeat_any (s : ByteArray) (c : Nat) (w : World) (h1 : c ≤ 9223372036854775807) (h2 : s.size * c ≤ 140737488355328) :
    Calls Tryz.prog 202 #[.string s, .int .i64 c] w fun e w' => e = .returned (.string ⟨(Lib.repeatL s.data.toList c).toArray⟩) ∧ Below w.heap.size w w' :=
  Any.strings_Repeat Tryz.lays105 Tryz.Builder_Extra_105 s c w h1 h2
end Go.Proofs.YtadinjaocnlglaaGreatDoor
namespace Go.Proofs.YtadinjaocnlglaaGreatDoor
open Go.RowKit Go.Shelf
set_option maxRecDepth 100000
set_option maxHeartbeats 2000000
theorem ownF_below {w w' : World} {base : Nat} {e : TypeId} {size : Nat} {v : Value} {n : Nat} {xs : List Value} (h : w.ownsRowF base e size v n xs) (hb : Below w.heap.size w w') : w'.ownsRowF base e size v n xs := by
  refine ⟨h.1, ?_⟩
  rcases h.2 with h2 | ⟨g, cap, cur, fz, hv, hg, hh, rest⟩
  · exact .inl h2
  · exact .inr ⟨g, cap, cur, fz, hv, hg, by rw [hb.block g (Array.getElem?_eq_some_iff.1 hh).1]; exact hh, rest⟩
theorem bldAt_below {B b : Nat} {p : Value} {bs : List Value} {w w' : World} (h : Lib.BuilderAtF 310 5 B b p bs w) (hb : Below w.heap.size w w') : Lib.BuilderAtF 310 5 B b p bs w' := by
  obtain ⟨h1, v, h2, h3, h4⟩ := h
  exact ⟨h1, v, by rw [hb.block b (Array.getElem?_eq_some_iff.1 h2).1]; exact h2, ownF_below h3 hb, h4⟩
/-- a builder of one's own that holds these bytes -/
def Bld (b : Nat) (l : List UInt8) (w : World) : Prop := Lib.IsBuilderF 310 5 b b (Lib.byteCells l) w
theorem Bld.below {b : Nat} {l : List UInt8} {w w' : World} (h : Bld b l w) (hb : Below w.heap.size w w') : Bld b l w' := by
  rcases h with h | h
  · exact .inl (bldAt_below h hb)
  · exact .inr (bldAt_below h hb)
theorem Bld.lt {b : Nat} {l : List UInt8} {w : World} (h : Bld b l w) : b < w.heap.size := by
  rcases h with h | h
  · exact h.lt
  · exact h.lt
theorem Bld.fresh (w : World) : Bld w.heap.size [] (w.alloc (.cells #[.pointer none, .slice none 0 0] 310)) := Lib.IsBuilderF.of (Lib.fresh_isBuilder 310 5 w)
/-- what stands beside the builder is as it was -/
def Oth (b : Nat) (w w' : World) : Prop := Lib.OthersKept 5 (some b) w w'
theorem Oth.below {b : Nat} {w w' : World} (hb : Below w.heap.size w w') : Oth b w w' := fun k o hk _ _ => by rw [hb.block k (Array.getElem?_eq_some_iff.1 hk).1]; exact hk
theorem Oth.trans {b : Nat} {a c d : World} (h : Oth b a c) (k : Oth b c d) : Oth b a d := Lib.OthersKept.trans h k
theorem Oth.row {b g : Nat} {w w' : World} {cs : Array Value} {t : TypeId} (h : Oth b w w') (hg : w.heap[g]? = some (.cells cs t (0, 0))) (hne : g ≠ b) (ht : t ≠ 5) : w'.heap[g]? = some (.cells cs t (0, 0)) :=
  h g _ hg (by simpa using hne) (fun c fz e => by simp at e; exact ht e.2.1)
theorem wstr_lay (B b : Nat) (bs : List Value) (s : ByteArray) (w : World) (h : Lib.IsBuilderF 310 5 B b bs w) (hlen : bs.length + s.size ≤ 140737488355328) (hBw : B ≤ w.heap.size) :
    Calls Tryz.prog 219 #[.pointer (some ⟨b, 0, none⟩), .string s] w fun e w' => e = .returned (.tuple #[.int .i64 s.size, .nilIface]) ∧ (Lib.BuilderAtF 310 5 B b (.pointer (some ⟨b, 0, none⟩)) (bs ++ Lib.strCells s) w' ∧ Below B w w' ∧ Lib.OthersKept 5 (some b) w w') :=
  Any.Builder_WriteString_k (P := Tryz.prog) (ρ := Tryz.lays156_ren) { Tryz.lays156 with } Tryz.Builder_Extra_156 B b bs s w h hlen hBw
theorem wstr_any (b : Nat) (l : List UInt8) (s : ByteArray) (w : World) (h : Bld b l w) (hl : l.length + s.size ≤ 140737488355328) :
    Calls Tryz.prog 219 #[.pointer (some ⟨b, 0, none⟩), .string s] w fun e w' => e = .returned (.tuple #[.int .i64 s.size, .nilIface]) ∧ Bld b (l ++ s.data.toList) w' ∧ Below b w w' ∧ Oth b w w' := by
  refine (wstr_lay b b (Lib.byteCells l) s w h (by rw [Lib.byteCells_length]; exact hl) (Nat.le_of_lt h.lt)).mono ?_
  rintro e w' ⟨he, h1, h2, h3⟩
  refine ⟨he, .inr ?_, h2, h3⟩
  rw [Lib.byteCells_append]
  exact h1
theorem bstr_any (b : Nat) (l : List UInt8) (w : World) (h : Bld b l w) :
    Calls Tryz.prog 201 #[.pointer (some ⟨b, 0, none⟩)] w fun e w' => e = .returned (.string ⟨l.toArray⟩) ∧ Below b w w' := by
  refine (bstr_k b b l w h (Nat.le_of_lt h.lt)).mono ?_
  rintro e w' ⟨he, _, h2, _⟩
  exact ⟨he, h2⟩
/-- the five numbers of a list -/
def num5 (K M C V n : Nat) : Nat → Nat
  | 0 => K
  | 1 => M
  | 2 => C
  | 3 => V
  | _ => n
def vltT : ByteArray := ⟨#[86, 76, 84, 49]⟩
/-- the list's head, with so many of the five numbers -/
def lst1 (F : Nat → Nat) : Nat → List UInt8
  | 0 => vltT.data.toList
  | i + 1 => lst1 F i ++ (vint (F i)).data.toList
/-- so many entries behind it -/
def lst2 (h : List UInt8) (Nm : Nat → ByteArray) (Ln : Nat → Nat) : Nat → List UInt8
  | 0 => h
  | j + 1 => lst2 h Nm Ln j ++ (vint (Nm j).size).data.toList ++ (Nm j).data.toList ++ (vint (Ln j)).data.toList
theorem dl (s : ByteArray) : s.data.toList.length = s.size := by simp
theorem lst1_len (F : Nat → Nat) : ∀ i, (lst1 F i).length ≤ 4 + 5 * i
  | 0 => by show vltT.data.toList.length ≤ _; decide
  | i + 1 => by
    have := lst1_len F i
    have := vint_size (F i)
    rw [lst1, List.length_append, dl]; omega
theorem lst2_len (h : List UInt8) (Nm : Nat → ByteArray) (Ln : Nat → Nat) (hN : ∀ j, (Nm j).size ≤ 1000) : ∀ j, (lst2 h Nm Ln j).length ≤ h.length + 1010 * j
  | 0 => by simp [lst2]
  | j + 1 => by
    have := lst2_len h Nm Ln hN j
    have := vint_size (Nm j).size
    have := vint_size (Ln j)
    have := hN j
    rw [lst2, List.length_append, List.length_append, List.length_append, dl, dl, dl]; omega
def lstT (K M C V n : Nat) (Nm : Nat → ByteArray) (Ln : Nat → Nat) : ByteArray := ⟨(lst2 (lst1 (num5 K M C V n) 5) Nm Ln n).toArray⟩
theorem listOf_any (K M C V n cap : Nat) (a : Option Addr) (Nm : Nat → ByteArray) (Ln : Nat → Nat) (w : World) (hK : K ≤ 100000) (hM : M ≤ 100000) (hC : C ≤ 100000) (hV : V ≤ 100000) (hn : n ≤ 100000) (hN : ∀ j, (Nm j).size ≤ 1000) (hLn : ∀ j, Ln j ≤ 100000)
    (hE : ∀ j, j < n → ∃ b, a = some ⟨b, 0, none⟩ ∧ b < w.heap.size ∧ w.cell? ⟨b, j * 2, none⟩ = some (.string (Nm j)) ∧ w.cell? ⟨b, j * 2 + 1, none⟩ = some (.int .i64 (Ln j))) :
    Calls Tryz.prog 180 #[.agg #[.int .i64 K, .int .i64 M, .int .i64 C, .int .i64 V], .slice a n cap] w fun e w' => e = .returned (.string (lstT K M C V n Nm Ln)) ∧ Below w.heap.size w w' := by
  have HE : Hid _ := hE
  have HN : Hid _ := hN
  have HLN : Hid _ := hLn
  clear hE hN hLn
  go_enter Tryz.func180, Tryz.ntmps180
  go_wp2_with fail
  obtain ⟨s1, hs1⟩ : ∃ s1, s1 = (w.alloc (Obj.cells #[Value.int IntKind.i64 K, Value.int IntKind.i64 M, Value.int IntKind.i64 C, Value.int IntKind.i64 V] 23)).alloc (Obj.cells #[Value.pointer none, Value.slice none 0 0] 310) := ⟨_, rfl⟩
  have HBl1 : Hid (Bld (w.heap.size + 1) [] s1) := by
    show Bld _ _ _
    have h := Bld.fresh (w.alloc (Obj.cells #[Value.int IntKind.i64 K, Value.int IntKind.i64 M, Value.int IntKind.i64 C, Value.int IntKind.i64 V] 23))
    rw [hs1]
    have e : (w.alloc (Obj.cells #[Value.int IntKind.i64 K, Value.int IntKind.i64 M, Value.int IntKind.i64 C, Value.int IntKind.i64 V] 23)).heap.size = w.heap.size + 1 := by simp
    rw [e] at h
    exact h
  have HX1 : Hid (s1.heap[w.heap.size]? = some (.cells #[.int .i64 K, .int .i64 M, .int .i64 C, .int .i64 V] 23 (0, 0))) := by
    show _ = _
    rw [hs1, Below.heap_alloc _ _ _ (by simp)]; exact heap_alloc_new _ _
  have HB1 : Hid (Below w.heap.size w s1) := by
    show Below _ _ _
    rw [hs1]; exact ((Below.refl _ w).alloc (Nat.le_refl _) _).alloc (by simp) _
  rw [← hs1]
  clear hs1
  obtain ⟨x, hx⟩ : ∃ x, x = w.heap.size := ⟨_, rfl⟩
  obtain ⟨b, hb⟩ : ∃ b, b = x + 1 := ⟨_, rfl⟩
  rw [← hx] at HBl1 HX1 ⊢
  rw [← hb] at HBl1 ⊢
  have HX : Hid _ := hx
  have hxb : x < b := by omega
  clear hx hb
  have HF : Hid (lst1 (num5 K M C V n) 0 = vltT.data.toList) := rfl
  refine (wstr_any b [] vltT s1 HBl1.out (by decide)).mono ?_
  rintro e s2 ⟨rfl, hb2, hw2, ho2⟩
  have HBl2 : Hid (Bld b (lst1 (num5 K M C V n) 0) s2) := hb2
  have HB2 : Hid (Below w.heap.size w s2) := HB1.out.trans (hw2.mono (by rw [← HX.out]; omega))
  have HX2 : Hid (s2.heap[x]? = some (.cells #[.int .i64 K, .int .i64 M, .int .i64 C, .int .i64 V] 23 (0, 0))) := by
    show _ = _
    rw [hw2.block x hxb]; exact HX1.out
  clear hb2 hw2 ho2 HBl1 HX1 HB1
  have c0 : s2.cell? ⟨x, 0, none⟩ = some (.int .i64 K) := cell_of_row _ _ _ _ 23 _ HX2.out
  have c1 : s2.cell? ⟨x, 1, none⟩ = some (.int .i64 M) := cell_of_row _ _ _ _ 23 _ HX2.out
  have c2 : s2.cell? ⟨x, 2, none⟩ = some (.int .i64 C) := cell_of_row _ _ _ _ 23 _ HX2.out
  have c3 : s2.cell? ⟨x, 3, none⟩ = some (.int .i64 V) := cell_of_row _ _ _ _ 23 _ HX2.out
  go_wp2
  obtain ⟨s3, hs3⟩ : ∃ s3, s3 = s2.alloc (Obj.cells #[Value.int IntKind.i64 K, Value.int IntKind.i64 M, Value.int IntKind.i64 C, Value.int IntKind.i64 V, Value.int IntKind.i64 n] 3) := ⟨_, rfl⟩
  have hb23 : Below s2.heap.size s2 s3 := by rw [hs3]; exact (Below.refl _ _).alloc (Nat.le_refl _) _
  have HR3 : Hid (s3.heap[s2.heap.size]? = some (.cells #[.int .i64 K, .int .i64 M, .int .i64 C, .int .i64 V, .int .i64 n] 3 (0, 0))) := by
    show _ = _
    rw [hs3]; exact heap_alloc_new _ _
  have HBl3 : Hid (Bld b (lst1 (num5 K M C V n) 0) s3) := HBl2.out.below hb23
  have HB3 : Hid (Below w.heap.size w s3) := HB2.out.trans (hb23.mono HB2.out.size)
  have hbn : b < s2.heap.size := HBl2.out.lt
  rw [← hs3]
  clear hs3 hb23 HBl2 HX2 HB2 c0 c1 c2 c3
  obtain ⟨nb, hnb⟩ : ∃ nb, nb = s2.heap.size := ⟨_, rfl⟩
  rw [← hnb] at HR3 hbn ⊢
  have HNB : Hid _ := hnb
  clear hnb
  have hF : ∀ i, num5 K M C V n i ≤ 100000 := fun i => by unfold num5; split <;> omega
  have HFB : Hid _ := hF
  have HFC : Hid (∀ i, i < 5 → (#[Value.int .i64 K, .int .i64 M, .int .i64 C, .int .i64 V, .int .i64 n] : Array Value)[i]? = some (.int .i64 ((num5 K M C V n i : Nat) : Int))) := fun i hi => by
    match i, hi with
    | 0, _ => rfl
    | 1, _ => rfl
    | 2, _ => rfl
    | 3, _ => rfl
    | 4, _ => rfl
  obtain ⟨F, hFe⟩ : ∃ F, num5 K M C V n = F := ⟨_, rfl⟩
  rw [hFe] at HBl3 HFB HFC
  have HFE : Hid _ := hFe
  clear hFe hF HF
  go_loopw [23] (fun iv wr => ∃ i : Nat, i ≤ 5 ∧ iv = .int .i64 i ∧ Bld b (lst1 F i) wr ∧ Oth b s3 wr ∧ Below w.heap.size w wr) (fun iv _ => 5 - (intOf iv).toNat)
  case atStart => exact ⟨0, by omega, rfl, HBl3.out, Oth.below (Below.refl _ _), HB3.out⟩
  case round =>
    obtain ⟨i, hi, rfl, hbl, hot, hbe⟩ := hrel
    have HBL : Hid (Bld b (lst1 F i) wr) := hbl
    have HOT : Hid (Oth b s3 wr) := hot
    have HBE : Hid (Below w.heap.size w wr) := hbe
    clear hbl hot hbe
    by_cases hlt : i < 5
    · have r0 : wr.cell? ⟨nb, i, none⟩ = some (.int .i64 ((F i : Nat) : Int)) := by
        rw [cell_of_row _ _ _ _ 3 _ (HOT.out.row HR3.out (by omega) (by decide))]; exact HFC.out i hlt
      have hFi := HFB.out i
      have hmod : ((F i : Nat) : Int) % 4294967296 = ((F i : Nat) : Int) := by omega
      have HLEN : Hid _ := lst1_len F i
      have HNX : Hid (lst1 F (i + 1) = lst1 F i ++ (vint (F i)).data.toList) := rfl
      go_wp2_with fail
      refine (varint_any (F i) wr (by omega)).mono ?_
      rintro e w1 ⟨rfl, hb1⟩
      have HBL1 : Hid (Bld b (lst1 F i) w1) := HBL.out.below hb1
      have HOT1 : Hid (Oth b s3 w1) := HOT.out.trans (Oth.below hb1)
      have HBE1 : Hid (Below w.heap.size w w1) := HBE.out.trans (hb1.mono HBE.out.size)
      clear hb1 HBL HOT HBE r0
      go_wp2_with fail
      refine (wstr_any b (lst1 F i) (vint (F i)) w1 HBL1.out (by have := HLEN.out; have := vint_size (F i); omega)).mono ?_
      rintro e w2 ⟨rfl, hb2, hw2, ho2⟩
      have HBL2 : Hid (Bld b (lst1 F (i + 1)) w2) := hb2
      have HOT2 : Hid (Oth b s3 w2) := HOT1.out.trans ho2
      have HBE2 : Hid (Below w.heap.size w w2) := HBE1.out.trans (hw2.mono (by rw [← HX.out]; omega))
      clear hb2 hw2 ho2 HBL1 HOT1 HBE1
      go_wp2
      go_roundw
      case rel => exact ⟨i + 1, by omega, by go_num, HBL2.out, HOT2.out, HBE2.out⟩
      case measure => simp [intOf]; omega
    · have e : i = 5 := by omega
      subst e
      obtain ⟨s4, hs4⟩ : ∃ s4, s4 = wr := ⟨_, rfl⟩
      rw [← hs4] at HBL HBE ⊢
      clear hs4
      obtain ⟨hd, hhd⟩ : ∃ hd, lst1 F 5 = hd := ⟨_, rfl⟩
      have hhl : hd.length ≤ 29 := by rw [← hhd]; exact lst1_len F 5
      rw [hhd] at HBL
      have HHD : Hid _ := hhd
      clear hhd HOT
      go_wp2
      go_loopw [34] (fun jv wr => ∃ j : Nat, j ≤ n ∧ jv = .int .i64 j ∧ Bld b (lst2 hd Nm Ln j) wr ∧ Below w.heap.size w wr) (fun jv _ => n - (intOf jv).toNat)
      case atStart => exact ⟨0, by omega, rfl, HBL.out, HBE.out⟩
      case round =>
        obtain ⟨j, hj, rfl, hbl, hbe⟩ := hrel
        have HBLj : Hid (Bld b (lst2 hd Nm Ln j) wr) := hbl
        have HBEj : Hid (Below w.heap.size w wr) := hbe
        clear hbl hbe
        by_cases hlj : j < n
        · obtain ⟨eb, ha, heb, hc0, hc1⟩ := HE.out j hlj
          subst ha
          have r0 : wr.cell? ⟨eb, j * 2, none⟩ = some (.string (Nm j)) := (HBEj.out.cell (p := ⟨eb, j * 2, none⟩) heb).trans hc0
          have r1 : wr.cell? ⟨eb, j * 2 + 1, none⟩ = some (.int .i64 (Ln j)) := (HBEj.out.cell (p := ⟨eb, j * 2 + 1, none⟩) heb).trans hc1
          have hNj := HN.out j
          have hLj := HLN.out j
          have HLEN : Hid _ := lst2_len hd Nm Ln HN.out j
          have hm1 : ((Nm j).size : Int) % 4294967296 = ((Nm j).size : Int) := by omega
          have hm2 : ((Ln j : Nat) : Int) % 4294967296 = ((Ln j : Nat) : Int) := by omega
          go_wp2_with fail
          obtain ⟨e1, he1⟩ : ∃ e1, e1 = wr.alloc (Obj.cells #[Value.string (Nm j), Value.int IntKind.i64 (Ln j)] 70) := ⟨_, rfl⟩
          have hb01 : Below wr.heap.size wr e1 := by rw [he1]; exact (Below.refl _ _).alloc (Nat.le_refl _) _
          have HP1 : Hid (e1.heap[wr.heap.size]? = some (.cells #[.string (Nm j), .int .i64 (Ln j)] 70 (0, 0))) := by
            show _ = _
            rw [he1]; exact heap_alloc_new _ _
          have HL1 : Hid (Bld b (lst2 hd Nm Ln j) e1) := HBLj.out.below hb01
          have HE1 : Hid (Below w.heap.size w e1) := HBEj.out.trans (hb01.mono HBEj.out.size)
          have hpb : b < wr.heap.size := HBLj.out.lt
          rw [← he1]
          clear he1 hb01 HBLj HBEj r0 r1
          obtain ⟨pb, hpe⟩ : ∃ pb, pb = wr.heap.size := ⟨_, rfl⟩
          rw [← hpe] at HP1 hpb ⊢
          have HPE : Hid _ := hpe
          clear hpe
          refine (varint_any (Nm j).size e1 (by omega)).mono ?_
          rintro e e2 ⟨rfl, hb2⟩
          have HP2 : Hid (e2.heap[pb]? = some (.cells #[.string (Nm j), .int .i64 (Ln j)] 70 (0, 0))) := by
            show _ = _
            rw [hb2.block pb (Array.getElem?_eq_some_iff.1 HP1.out).1]; exact HP1.out
          have HL2 : Hid (Bld b (lst2 hd Nm Ln j) e2) := HL1.out.below hb2
          have HE2 : Hid (Below w.heap.size w e2) := HE1.out.trans (hb2.mono HE1.out.size)
          clear hb2 HP1 HL1 HE1
          have hv1 := vint_size (Nm j).size
          have hv2 := vint_size (Ln j)
          go_wp2_with fail
          refine (wstr_any b _ (vint (Nm j).size) e2 HL2.out (by have := HLEN.out; omega)).mono ?_
          rintro e e3 ⟨rfl, hb3, hw3, ho3⟩
          have HP3 : Hid (e3.heap[pb]? = some (.cells #[.string (Nm j), .int .i64 (Ln j)] 70 (0, 0))) := ho3.row HP2.out (by omega) (by decide)
          have HL3 : Hid (Bld b (lst2 hd Nm Ln j ++ (vint (Nm j).size).data.toList) e3) := hb3
          have HE3 : Hid (Below w.heap.size w e3) := HE2.out.trans (hw3.mono (by rw [← HX.out]; omega))
          clear hb3 hw3 ho3 HP2 HL2 HE2
          have p0 : e3.cell? ⟨pb, 0, none⟩ = some (.string (Nm j)) := cell_of_row _ _ _ _ 70 _ HP3.out
          go_wp2_with fail
          refine (wstr_any b _ (Nm j) e3 HL3.out (by have := HLEN.out; rw [List.length_append, dl]; omega)).mono ?_
          rintro e e4 ⟨rfl, hb4, hw4, ho4⟩
          have HP4 : Hid (e4.heap[pb]? = some (.cells #[.string (Nm j), .int .i64 (Ln j)] 70 (0, 0))) := ho4.row HP3.out (by omega) (by decide)
          have HL4 : Hid (Bld b (lst2 hd Nm Ln j ++ (vint (Nm j).size).data.toList ++ (Nm j).data.toList) e4) := hb4
          have HE4 : Hid (Below w.heap.size w e4) := HE3.out.trans (hw4.mono (by rw [← HX.out]; omega))
          clear hb4 hw4 ho4 HP3 HL3 HE3 p0
          have p1 : e4.cell? ⟨pb, 1, none⟩ = some (.int .i64 (Ln j)) := cell_of_row _ _ _ _ 70 _ HP4.out
          go_wp2_with fail
          refine (varint_any (Ln j) e4 (by omega)).mono ?_
          rintro e e5 ⟨rfl, hb5⟩
          have HL5 : Hid (Bld b (lst2 hd Nm Ln j ++ (vint (Nm j).size).data.toList ++ (Nm j).data.toList) e5) := HL4.out.below hb5
          have HE5 : Hid (Below w.heap.size w e5) := HE4.out.trans (hb5.mono HE4.out.size)
          clear hb5 HP4 HL4 HE4 p1
          go_wp2_with fail
          refine (wstr_any b _ (vint (Ln j)) e5 HL5.out (by have := HLEN.out; rw [List.length_append, List.length_append, dl, dl]; omega)).mono ?_
          rintro e e6 ⟨rfl, hb6, hw6, _⟩
          have HL6 : Hid (Bld b (lst2 hd Nm Ln (j + 1)) e6) := hb6
          have HE6 : Hid (Below w.heap.size w e6) := HE5.out.trans (hw6.mono (by rw [← HX.out]; omega))
          clear hb6 hw6 HL5 HE5
          go_wp2
          go_roundw
          case rel => exact ⟨_, _, _, _, _, _, _, _, _, _, _, _, _, _, _, _, _, _, _, _, ⟨j + 1, by omega, by go_num, HL6.out, HE6.out⟩, rfl⟩
          case measure => simp [intOf]; omega
        · have e : j = n := by omega
          go_wp2_with fail
          refine (bstr_any b _ wr HBLj.out).mono ?_
          rintro e w1 ⟨rfl, hb1⟩
          have HF1 : Hid (Below w.heap.size w w1) := HBEj.out.trans (hb1.mono (by rw [← HX.out]; omega))
          clear hb1
          go_wp2
          go_ret
          refine ⟨?_, HF1.out⟩
          show Ending.returned (.string ⟨(lst2 hd Nm Ln n).toArray⟩) = _
          unfold lstT
          rw [HFE.out, HHD.out]
end Go.Proofs.YtadinjaocnlglaaGreatDoor
namespace Go.Proofs.YtadinjaocnlglaaGreatDoor
open Go.RowKit
set_option maxRecDepth 100000
set_option maxHeartbeats 1000000
/-- a builder of one's own, of which no text was taken yet -/
def BN (b : Nat) (l : List UInt8) (w : World) : Prop := Lib.IsBuilder 310 5 b b (Lib.byteCells l) w
theorem ccheck (b : Nat) (bs : List Value) (w : World) (h : Lib.IsBuilder 310 5 b b bs w) :
    Calls Tryz.prog 240 #[.pointer (some ⟨b, 0, none⟩)] w fun e w' => e = .returned (.tuple #[]) ∧ Lib.BuilderAt 310 5 b b (.pointer (some ⟨b, 0, none⟩)) bs w' ∧ Below b w w' ∧ Oth b w w' := by
  rcases h with h | h
  · refine (Any.Builder_copyCheck_fresh (P := Tryz.prog) (ρ := Tryz.lays156_ren) { Tryz.lays156 with } { Tryz.Builder_Extra_156 with } b w h.cell0 h.shape h.frozen0).mono ?_
    rintro e w' ⟨rfl, rfl⟩
    refine ⟨rfl, h.used _, (Below.refl b w).setCell (p := ⟨b, 0, none⟩) (Nat.le_refl b) _, fun k o hk hb _ => ?_⟩
    rw [set_other _ _ _ _ _ (by intro e; exact hb (by rw [e]))]
    exact hk
  · refine (Any.Builder_copyCheck_used (P := Tryz.prog) (ρ := Tryz.lays156_ren) { Tryz.lays156 with } { Tryz.Builder_Extra_156 with } b w h.cell0).mono ?_
    rintro e w' ⟨rfl, rfl⟩
    exact ⟨rfl, h, Below.refl _ _, fun _ _ hk _ _ => hk⟩
theorem own_low {w w' : World} {base b k : Nat} {e : TypeId} {size : Nat} {v : Value} {xs : List Value} (h : w.ownsRow base e size v k xs) (hlt : ∀ r, v.ownBlock = some r → r < b) (hb : Below b w w') : w'.ownsRow base e size v k xs := by
  refine ⟨h.1, ?_⟩
  rcases h.2 with h2 | ⟨g, cap, cur, rfl, hg, hh, rest⟩
  · exact .inl h2
  · exact .inr ⟨g, cap, cur, rfl, hg, by rw [hb.block g (hlt g rfl)]; exact hh, rest⟩
theorem grown_oth {w w' : World} {base n : Nat} {v : Value} {xs : List Value} (hown : w.ownsRow base 5 1 v n xs) (h : w.grownBy w' v.ownBlock) (k : Nat) (o : Obj) (hk : w.heap[k]? = some o) (ho : ∀ c fz, o ≠ .cells c 5 fz) : w'.heap[k]? = some o := by
  refine grown_row h hk ?_
  rcases hown.2 with ⟨rfl, _⟩ | ⟨g, cap, cur, rfl, _, hg, _⟩
  · simp [Value.ownBlock]
  · intro e
    simp only [Value.ownBlock, Option.some.injEq] at e
    subst e
    rw [hg] at hk
    cases hk
    exact ho _ _ rfl
theorem bwrite_end (b n : Nat) (l news : List UInt8) (v v2 : Value) (w w1 w2 : World) (hnl : news.length = n) (HB1 : Below b w w1) (HO1 : Oth b w w1) (HOW : w1.ownsRow b 5 1 v l.length (Lib.byteCells l)) (hG2 : w1.grownBy w2 v.ownBlock)
    (hbl : b < w1.heap.size) (hh2 : w2.heap[b]? = some (.cells #[.pointer (some ⟨b, 0, none⟩), v] 310 (0, 0))) (hO2 : w2.ownsRow b 5 1 v2 (l.length + n) (Lib.byteCells l ++ Lib.byteCells news)) :
    BN b (l ++ news) (w2.setCell ⟨b, 1, none⟩ v2) ∧ Below b w (w2.setCell ⟨b, 1, none⟩ v2) ∧ Oth b w (w2.setCell ⟨b, 1, none⟩ v2) := by
  refine ⟨.inr (Lib.BuilderAt.put (Nat.le_refl _) hh2 ?_ (by decide)), ?_, ?_⟩
  · rw [← Lib.byteCells_append] at hO2
    have e : (Lib.byteCells (l ++ news)).length = l.length + n := by rw [Lib.byteCells_length, List.length_append, hnl]
    rw [e]; exact hO2
  · exact (HB1.grown hG2 (Nat.le_of_lt hbl) (fun j hj => own_ge HOW j hj)).setCell (p := ⟨b, 1, none⟩) (Nat.le_refl b) _
  · intro k o hk hb ho
    rw [set_other _ _ _ _ _ (by intro e; exact hb (by rw [e]))]
    exact grown_oth HOW hG2 k o (HO1 k o hk hb ho) ho
theorem bwrite_some (b n base r cap : Nat) (l news : List UInt8) (w : World) (h : BN b l w) (hp : w.ownsRow base 5 1 (.slice (some ⟨r, 0, none⟩) n cap) n (Lib.byteCells news)) (hlt : r < b) (hn : n ≤ 100000) (hl : l.length ≤ 100000) :
    Calls Tryz.prog 200 #[.pointer (some ⟨b, 0, none⟩), .slice (some ⟨r, 0, none⟩) n cap] w fun e w' => e = .returned (.tuple #[.int .i64 n, .nilIface]) ∧ BN b (l ++ news) w' ∧ Below b w w' ∧ Oth b w w' := by
  have H69 : Hid _ := ccheck b _ w h
  obtain ⟨i5, hi, hz, hs1, hs2⟩ := u8info
  have hnl : news.length = n := by have := hp.1; rw [Lib.byteCells_length] at this; omega
  have HP : Hid _ := hp
  clear hp h
  go_enter Tryz.func200, Tryz.ntmps200
  go_wp2_with fail
  refine Calls.mono H69.out ?_
  rintro e w1 ⟨rfl, hB1, hb1, ho1⟩
  obtain ⟨_, v, hh, hown, hne⟩ := hB1
  rw [Lib.byteCells_length] at hown
  have c1 : w1.cell? ⟨b, 1, none⟩ = some v := cell_of_row _ _ _ _ 310 _ hh
  have HP1 : Hid (w1.ownsRow base 5 1 (.slice (some ⟨r, 0, none⟩) n cap) n (Lib.byteCells news)) := own_low HP.out (fun r' e => by cases e; exact hlt) hb1
  have hbl : b < w1.heap.size := (Array.getElem?_eq_some_iff.1 hh).1
  have HOW : Hid _ := hown
  have HH : Hid _ := hh
  have HB1 : Hid _ := hb1
  have HO1 : Hid _ := ho1
  clear H69 HP hown hb1 ho1 hh hne
  go_wp2_with (at_builtin; refine wpList_append_own _ rfl (.tmp 12) (.tmp 13) 165 rfl b 5 i5 (.int .u8 0) 1 1 Tryz.underlying165 hi hz hs1 hs2 rfl (by omega) v l.length (Lib.byteCells l) (by simp [Act.eval]) HOW.out ⟨r, 0, none⟩ n cap (Lib.byteCells news) (by simp [Act.eval]) (by rw [Lib.byteCells_length]; omega) (HP1.out.cells rfl) (Lib.byteCells_one _) (by unfold maxLen; omega) (by omega) (by omega) ?_; intro v2 w2 hO2 hG2 _; have hh2 : w2.heap[b]? = some (.cells #[.pointer (some ⟨b, 0, none⟩), v] 310 (0, 0)) := (grown_row hG2 HH.out (ne_own HOW.out HH.out (by decide))); have c2 : w2.cell? ⟨b, 1, none⟩ = some v := (cell_of_row _ _ _ _ 310 _ hh2); have f2 : w2.frozen? ⟨b, 1, none⟩ = false := (frozen_of_row _ _ _ _ 310 hh2); obtain ⟨a2, k2, hv2⟩ := own_shape hO2; subst hv2; clear c1)
  go_ret2
  exact ⟨rfl, bwrite_end b n l news v _ w w1 w2 hnl HB1.out HO1.out HOW.out hG2 hbl hh2 hO2⟩
theorem set_same (w : World) (g k : Nat) (v : Value) (cs : Array Value) (t : TypeId) (h : w.heap[g]? = some (.cells cs t (0, 0))) (hk : cs[k]? = some v) : w.setCell ⟨g, k, none⟩ v = w := by
  have e : (w.setCell ⟨g, k, none⟩ v).heap = w.heap := by
    apply Array.ext_getElem?
    intro j
    by_cases hj : j = g
    · subst hj
      rw [set_heap w j k v cs t (0, 0) h, h]
      congr 2
      apply Array.ext_getElem?
      intro i
      rw [Array.getElem?_setIfInBounds]
      split
      · rename_i hi; subst hi
        have := (Array.getElem?_eq_some_iff.1 hk).1
        rw [if_pos this, hk]
      · rfl
    · exact set_other w g k j v hj
  have : w.setCell ⟨g, k, none⟩ v = { w with heap := (w.setCell ⟨g, k, none⟩ v).heap } := rfl
  rw [this, e]
theorem bwrite_nil (b : Nat) (l : List UInt8) (w : World) (h : BN b l w) :
    Calls Tryz.prog 200 #[.pointer (some ⟨b, 0, none⟩), .slice none 0 0] w fun e w' => e = .returned (.tuple #[.int .i64 0, .nilIface]) ∧ BN b l w' ∧ Below b w w' ∧ Oth b w w' := by
  have H69 : Hid _ := ccheck b _ w h
  clear h
  go_enter Tryz.func200, Tryz.ntmps200
  go_wp2_with fail
  refine Calls.mono H69.out ?_
  rintro e w1 ⟨rfl, hB1, hb1, ho1⟩
  have HB : Hid _ := hB1
  obtain ⟨_, v, hh, hown, hne⟩ := hB1
  have c1 : w1.cell? ⟨b, 1, none⟩ = some v := cell_of_row _ _ _ _ 310 _ hh
  have f1 : w1.frozen? ⟨b, 1, none⟩ = false := frozen_of_row _ _ _ _ 310 hh
  have hset : w1.setCell ⟨b, 1, none⟩ v = w1 := set_same _ _ _ _ _ _ hh rfl
  rcases hown.2 with ⟨rfl, h0⟩ | ⟨r, cap, cur, rfl, hr, hcr, hcap, rest⟩
  · clear hown H69 hh hne
    go_wp2
    go_ret2
    exact ⟨rfl, .inr HB.out, hb1, ho1⟩
  · clear hown H69 hh hne rest hcr
    go_wp2
    go_ret2
    exact ⟨rfl, .inr HB.out, hb1, ho1⟩
theorem bwrite_any (b n base : Nat) (l news : List UInt8) (p : Value) (w : World) (h : BN b l w) (hp : w.ownsRow base 5 1 p n (Lib.byteCells news)) (hlt : ∀ r, p.ownBlock = some r → r < b) (hn : n ≤ 100000) (hl : l.length ≤ 100000) :
    Calls Tryz.prog 200 #[.pointer (some ⟨b, 0, none⟩), p] w fun e w' => e = .returned (.tuple #[.int .i64 n, .nilIface]) ∧ BN b (l ++ news) w' ∧ Below b w w' ∧ Oth b w w' := by
  rcases hp.2 with ⟨rfl, rfl⟩ | ⟨g, cap, cur, rfl, _⟩
  · have e : news = [] := List.eq_nil_of_length_eq_zero (by have := hp.1; rw [Lib.byteCells_length] at this; omega)
    subst e
    simpa using bwrite_nil b l w h
  · exact bwrite_some b n base g cap l news w h hp (hlt g rfl) hn hl
end Go.Proofs.YtadinjaocnlglaaGreatDoor
namespace Go.Proofs.YtadinjaocnlglaaGreatDoor
open Go.RowKit Go.Maps
set_option maxRecDepth 100000
set_option maxHeartbeats 1000000
/-- each name of the map leads to an object that holds its data -/
def Obs (w : World) (D : DataW Nat) (F : List UInt8 → List UInt8) : Prop := ∀ s, s ∈ strKeys D → ∃ ob num v, D.atKey (.string s) .nil = .held ob ∧ w.heap[ob]? = some (.cells #[num, v] 261 (0, 0)) ∧ w.ownsRow 0 5 1 v (F s).length (Lib.byteCells (F s))
theorem Obs.low {w w' : World} {D : DataW Nat} {F : List UInt8 → List UInt8} {B : Nat} (h : Obs w D F) (hB : w.heap.size ≤ B) (hb : Below B w w') : Obs w' D F := fun s hs => by
  obtain ⟨ob, num, v, h1, h2, h3⟩ := h s hs
  have hl := (Array.getElem?_eq_some_iff.1 h2).1
  exact ⟨ob, num, v, h1, by rw [hb.block ob (by omega)]; exact h2, own_low h3 (fun r hr => Nat.lt_of_lt_of_le (own_lt h3 r hr) hB) hb⟩
theorem own_apart {w : World} {B B' n n' size size' : Nat} {e e' : TypeId} {v v' : Value} {xs xs' : List Value} (h : w.ownsRow B e size v n xs) (h' : w.ownsRow B' e' size' v' n' xs') (he : e ≠ e') : v.ownBlock = none ∨ v.ownBlock ≠ v'.ownBlock := by
  rcases h.2 with ⟨rfl, _⟩ | ⟨g, cap, cur, rfl, _, hg, _⟩
  · exact .inl rfl
  · refine .inr ?_
    rcases h'.2 with ⟨rfl, _⟩ | ⟨g', cap', cur', rfl, _, hg', _⟩
    · simp [Value.ownBlock]
    · intro e2
      simp only [Value.ownBlock, Option.some.injEq] at e2
      subst e2
      rw [hg] at hg'
      simp at hg'
      exact he hg'.2
theorem own_oth {w w' : World} {B b n size : Nat} {e : TypeId} {v : Value} {xs : List Value} {cs : Array Value} (h : w.ownsRow B e size v n xs) (he : e ≠ 5) (hb : w.heap[b]? = some (.cells cs 310 (0, 0))) (he2 : e ≠ 310) (ho : Oth b w w') : w'.ownsRow B e size v n xs := by
  refine ⟨h.1, ?_⟩
  rcases h.2 with h2 | ⟨g, cap, cur, rfl, hg, hh, rest⟩
  · exact .inl h2
  · refine .inr ⟨g, cap, cur, rfl, hg, ho.row hh ?_ he, rest⟩
    intro e3; subst e3; rw [hb] at hh; simp at hh; exact he2 hh.2.symm
theorem BN.row {b : Nat} {l : List UInt8} {w : World} (h : BN b l w) : ∃ cs, w.heap[b]? = some (.cells cs 310 (0, 0)) := by
  rcases h with ⟨_, v, hh, _⟩ | ⟨_, v, hh, _⟩
  · exact ⟨_, hh⟩
  · exact ⟨_, hh⟩
theorem bnAt_grown {b : Nat} {p : Value} {l : List Value} {w w' : World} {B n size : Nat} {e : TypeId} {v : Value} {xs : List Value} (h : Lib.BuilderAt 310 5 b b p l w) (hown : w.ownsRow B e size v n xs) (he : e ≠ 5) (he2 : e ≠ 310) (hg : w.grownBy w' v.ownBlock) : Lib.BuilderAt 310 5 b b p l w' := by
  obtain ⟨h1, u, hh, hu, hne⟩ := h
  refine ⟨h1, u, grown_row hg hh ?_, hu.kept hg (own_apart hu hown he.symm), hne⟩
  rcases hown.2 with ⟨rfl, _⟩ | ⟨g, cap, cur, rfl, _, hg', _⟩
  · simp [Value.ownBlock]
  · intro e3
    simp only [Value.ownBlock, Option.some.injEq] at e3
    subst e3
    rw [hg'] at hh
    simp at hh
    exact he2 hh.2
theorem BN.grown {b : Nat} {l : List UInt8} {w w' : World} {B n size : Nat} {e : TypeId} {v : Value} {xs : List Value} (h : BN b l w) (hown : w.ownsRow B e size v n xs) (he : e ≠ 5) (he2 : e ≠ 310) (hg : w.grownBy w' v.ownBlock) : BN b l w' := by
  rcases h with h | h
  · exact .inl (bnAt_grown h hown he he2 hg)
  · exact .inr (bnAt_grown h hown he he2 hg)
theorem bnAt_alloc {b : Nat} {p : Value} {l : List Value} {w : World} (h : Lib.BuilderAt 310 5 b b p l w) (o : Obj) : Lib.BuilderAt 310 5 b b p l (w.alloc o) := by
  obtain ⟨h1, u, hh, hu, hne⟩ := h
  exact ⟨h1, u, by rw [heap_alloc_old _ _ (Array.getElem?_eq_some_iff.1 hh).1]; exact hh, hu.alloc o, hne⟩
theorem BN.alloc {b : Nat} {l : List UInt8} {w : World} (h : BN b l w) (o : Obj) : BN b l (w.alloc o) := by
  rcases h with h | h
  · exact .inl (bnAt_alloc h o)
  · exact .inr (bnAt_alloc h o)
theorem bstr_oth (b : Nat) (l : List UInt8) (w : World) (h : BN b l w) :
    Calls Tryz.prog 201 #[.pointer (some ⟨b, 0, none⟩)] w fun e w' => e = .returned (.string ⟨l.toArray⟩) ∧ Below b w w' ∧ Oth b w w' := by
  obtain ⟨cs, hcs⟩ := h.row
  refine (bstr_k b b l w (Lib.IsBuilderF.of h) (Nat.le_of_lt (Array.getElem?_eq_some_iff.1 hcs).1)).mono ?_
  rintro e w' ⟨he, _, h2, h3⟩
  exact ⟨he, h2, h3⟩
/-- what the list of entries holds of so many names -/
def entC (F : List UInt8 → List UInt8) (T : List (List UInt8)) (i : Nat) : List Value := (T.take i).flatMap fun s => [.string ⟨s.toArray⟩, .int .i64 (F s).length]
def datL (F : List UInt8 → List UInt8) (T : List (List UInt8)) (i : Nat) : List UInt8 := (T.take i).flatMap F
theorem take_next (T : List (List UInt8)) (i : Nat) (s : List UInt8) (h : T[i]? = some s) : T.take (i + 1) = T.take i ++ [s] := by
  rw [List.take_add_one, h]; rfl
theorem entC_next (F : List UInt8 → List UInt8) (T : List (List UInt8)) (i : Nat) (s : List UInt8) (h : T[i]? = some s) : entC F T (i + 1) = entC F T i ++ [.string ⟨s.toArray⟩, .int .i64 (F s).length] := by
  simp [entC, take_next T i s h]
theorem datL_next (F : List UInt8 → List UInt8) (T : List (List UInt8)) (i : Nat) (s : List UInt8) (h : T[i]? = some s) : datL F T (i + 1) = datL F T i ++ F s := by
  simp [datL, take_next T i s h]
theorem flat_le {α : Type} (G : α → List UInt8) (c : Nat) : ∀ T : List α, (∀ s ∈ T, (G s).length ≤ c) → (T.flatMap G).length ≤ T.length * c
  | [], _ => by simp
  | s :: r, h => by
    have ih := flat_le G c r (fun x hx => h x (by simp [hx]))
    have h1 := h s (by simp)
    rw [List.flatMap_cons, List.length_append, List.length_cons, Nat.succ_mul]
    omega
theorem datL_len (F : List UInt8 → List UInt8) (T : List (List UInt8)) (i : Nat) (h : ∀ s ∈ T, (F s).length ≤ 4096) (hT : T.length ≤ 16) : (datL F T i).length ≤ 65536 := by
  have h1 := flat_le F 4096 (T.take i) (fun s hs => h s (List.mem_of_mem_take hs))
  have h2 : (T.take i).length ≤ 16 := by rw [List.length_take]; omega
  unfold datL
  have : (T.take i).length * 4096 ≤ 16 * 4096 := Nat.mul_le_mul_right _ h2
  omega
theorem cells_new (w : World) (cs : List Value) (t : TypeId) (j : Nat) (u : Value) (h : cs[j]? = some u) : (w.alloc (.cells cs.toArray t)).cell? ((⟨w.heap.size, 0, none⟩ : Addr).add j) = some u := by
  rw [Addr.add_lit]
  rw [cell_of_row _ _ _ _ t _ (heap_alloc_new w (.cells cs.toArray t))]
  simpa using h
theorem info103 : (Tryz.prog.info? 70).map (fun i => (i.zero, i.size, i.bytes)) = some (some (.agg #[.string ⟨#[]⟩, .int .i64 0]), 2, 24) := by kernel_rfl
end Go.Proofs.YtadinjaocnlglaaGreatDoor
namespace Go.Proofs.YtadinjaocnlglaaGreatDoor
open Go.RowKit
theorem step_append_own {P : Program} {ops : Array Oper} {o : Oper} {a : Act} {w : World} {K : Act → World → Prop} {Q : Exit → Act → World → Prop} {E : Prop}
    (hg : o.guard = none) (s x : Operand) (t : TypeId) (hop : o.op = Op.call { callee := Callee.builtin Builtin.append, args := #[s, x], argTypes := #[t, t] })
    (e : TypeId) (i : TypeInfo) (z : Value) (size bytes : Nat) (h1 : P.underlying t = some (.slice e)) (h2 : P.info? e = some i) (h3 : i.zero = some z) (h4 : i.size = size) (h5 : i.bytes = bytes) (h6 : z.cells.size = size) (h7 : 0 < size)
    (base : Nat) (v : Value) (n : Nat) (xs : List Value) (hs : a.eval s = v) (hown : w.ownsRow base e size v n xs)
    (ad : Addr) (m c : Nat) (news : List Value) (hx : a.eval x = .slice (some ad) m c) (hn : news.length = m * size) (hc : ∀ j u, news[j]? = some u → w.cell? (ad.add j) = some u) (h1c : ∀ u ∈ news, u.oneCell' = true)
    (b1 : n + m ≤ maxLen) (b2 : (n + m) * bytes ≤ 140737488355328) (hbase : base ≤ w.heap.size)
    (hK : ∀ v' w', w'.ownsRow base e size v' (n + m) (xs ++ news) → w.grownBy w' v.ownBlock → K (a.put o.dst v') w') :
    if Region.wanted o (yielded ops a.tmps) = true then Oper.wp P o a w K Q else E := by
  have hw : Region.wanted o (yielded ops a.tmps) = true := by simp [Region.wanted, hg]
  rw [if_pos hw]
  obtain ⟨v', w', hrun, r1, r2, _⟩ := run_append_own (P := P) w base t o.type e i z size bytes h1 h2 h3 h4 h5 h6 h7 v n xs hown ad m c news hn hc h1c b1 b2 hbase
  unfold Oper.wp
  simp [execOp, hop, resolve, invoke, builtin, hs, hx, hrun, Result.andThen]
  exact hK v' w' r1 r2
end Go.Proofs.YtadinjaocnlglaaGreatDoor
namespace Go.Proofs.YtadinjaocnlglaaGreatDoor
open Go.RowKit
end Go.Proofs.YtadinjaocnlglaaGreatDoor
namespace Go.Proofs.YtadinjaocnlglaaGreatDoor
open Go.RowKit
set_option maxRecDepth 100000
set_option maxHeartbeats 1000000
theorem own_type {w : World} {base : Nat} {e : TypeId} {size : Nat} {v : Value} {n : Nat} {xs : List Value} (h : w.ownsRow base e size v n xs) : ∀ q, v.ownBlock = some q → ∃ cur, w.heap[q]? = some (.cells cur e (0, 0)) := by
  intro q hq
  rcases h.2 with ⟨h', _⟩ | ⟨g, cap, cur, hv, hg, hh, _⟩
  · rw [h'] at hq; simp [Value.ownBlock] at hq
  · rw [hv] at hq; simp [Value.ownBlock] at hq; subst hq; exact ⟨cur, hh⟩
end Go.Proofs.YtadinjaocnlglaaGreatDoor
