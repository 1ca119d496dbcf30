/-
  The walk of draft's sorted.
  What Close gives, told plainly; the walk of layout.Volumes over a list of blocks of one's own.
  The walk of draft's Close (nothing refused).
-/
import Derived.Test.YtadinjaocnlglaaGreatDoorZ09
import Derived.Test.YtadinjaocnlglaaGreatDoorZ16
import Derived.Defers
namespace Go.Proofs.YtadinjaocnlglaaGreatDoor
open Go.RowKit Go.Maps Go.Sort Go.Shelf
set_option maxRecDepth 100000
set_option maxHeartbeats 1000000
/-- a map's names, in their order -/
def nmS (D : DataW Nat) : List (List UInt8) := (strKeys D).mergeSort leB
theorem nmS_mem {D : DataW Nat} {s : List UInt8} (h : s ∈ nmS D) : s ∈ strKeys D := (List.mergeSort_perm (strKeys D) leB).mem_iff.1 h
theorem nmS_len (D : DataW Nat) : (nmS D).length = size D := by
  unfold nmS
  rw [List.length_mergeSort]
  cases D <;> simp [strKeys, size]
theorem keys_any (m n : Nat) (D : DataW Nat) (w : World) (hm : w.ownsMap Tryz.prog 9 pE m n D) (hn : n ≤ 16) :
    Calls Tryz.prog 198 #[.func (.func 239) #[] #[.pointer (some ⟨w.heap.size, 0, none⟩)]] (w.alloc (.cells #[.map (some m)] 247)) fun e w' => ∃ v, e = .returned v ∧ w'.ownsRow w.heap.size 9 1 v (nmS D).length ((nmS D).map encStr) ∧ Below w.heap.size w w' := by
  have hs := hm.size_le
  have sorts : ∀ k, AnyZ.SortsIn Tryz.prog Tryz.sorted45_ren Fence.wide k := fun _ =>
    ⟨fun blk off cap ss W h1 h2 h3 => callsIn_wide.2 (AnyM.slices_Sort_string Tryz.sort67 blk off cap ss W h1 h2 h3), fun p cap W => callsIn_wide.2 (AnyM.slices_Sort_string_none Tryz.sort67 p cap W)⟩
  have gives : SeqGives Fence.wide 2 Tryz.prog 239 #[.pointer (some ⟨w.heap.size, 0, none⟩)] encStr (fun ss => ss.Perm (strKeys D)) (Maps.size D) (w.alloc (.cells #[.map (some m)] 247)) :=
    AnyZ.keys_gives (ρ := Tryz.keys46_ren) { Tryz.keys46 with } Fence.wide _ trivial rfl (by omega) w.heap.size m n D _ (by simp) (by simp) (hm.alloc _)
  refine (callsIn_wide (n := 5)).1 ((AnyZ.sorted_in Tryz.sorted45 Fence.wide 5 trivial trivial trivial trivial rfl (by omega) (sorts _) (enters_of Tryz.func238 (by kernel_rfl) rfl) 239 #[.pointer (some ⟨w.heap.size, 0, none⟩)] trivial (enters_of Tryz.func239 (by kernel_rfl) rfl) _ _ (by unfold maxLen; omega) (by omega) _ gives).mono ?_)
  rintro e w' ⟨v, ss, rfl, hS, hrow, _, hb⟩
  refine ⟨v, rfl, ?_, ?_⟩
  · have e1 : ss.mergeSort leB = nmS D := mergeSort_of_perm hS
    have e2 : ss.length = (nmS D).length := by unfold nmS; rw [List.length_mergeSort]; exact hS.length_eq
    have hr : w'.ownsRow (w.alloc (.cells #[.map (some m)] 247)).heap.size 9 1 v (nmS D).length ((nmS D).map encStr) := by rw [← e1] at *; rw [← e2]; exact hrow
    refine ⟨hr.1, ?_⟩
    rcases hr.2 with h | ⟨g, cap, cur, h1, h2, h3⟩
    · exact .inl h
    · exact .inr ⟨g, cap, cur, h1, by simp at h2; omega, h3⟩
  · exact ((Below.refl _ w).alloc (Nat.le_refl _) _).trans (hb.mono (by simp))
theorem mkeys_any (mb : Option Nat) (W : World) : Calls Tryz.prog 199 #[.map mb] W fun e w' => e = .returned (.func (.func 239) #[] #[.pointer (some ⟨W.heap.size, 0, none⟩)]) ∧ w' = W.alloc (.cells #[.map mb] 247) :=
  (callsIn_wide (n := 5)).1 (AnyZ.keys_in Tryz.keys46 Fence.wide 5 trivial rfl mb W)
theorem sorted_any (g m K M C V n len : Nat) (last : Value) (D : DataW Nat) (F : List UInt8 → List UInt8) (w : World)
    (hg : w.heap[g]? = some (.cells (dC K M C V (.map (some m)) last n len) 252 (0, 0)) ∨ w.cell? ⟨g, 4, none⟩ = some (.map (some m))) (hm : w.ownsMap Tryz.prog 9 pE m n D) (hO : Obs w D F) (hn : n ≤ 16) (hF : ∀ s, s ∈ strKeys D → (F s).length ≤ 4096) (hK : ∀ s, s ∈ strKeys D → s.length ≤ 1000) :
    Calls Tryz.prog 155 #[.pointer (some ⟨g, 0, none⟩)] w fun e w' => ∃ aE cE, e = .returned (.tuple #[.slice aE (nmS D).length cE, .string ⟨(datL F (nmS D) (nmS D).length).toArray⟩]) ∧
      w'.ownsRow w.heap.size 70 2 (.slice aE (nmS D).length cE) (nmS D).length (entC F (nmS D) (nmS D).length) ∧ Below w.heap.size w w' := by
  have c4 : w.cell? ⟨g, 4, none⟩ = some (.map (some m)) := hg.elim (fun h => cell_of_row _ _ _ _ 252 _ h) id
  have hgl : g < w.heap.size := block_lt_of_cell c4
  have HM : Hid (w.ownsMap Tryz.prog 9 pE m n D) := hm
  have HO : Hid (Obs w D F) := hO
  have hT16 : (nmS D).length ≤ 16 := by rw [nmS_len]; have := hm.size_le; omega
  have HF : Hid (∀ s, s ∈ nmS D → (F s).length ≤ 4096) := fun s hs => hF s (nmS_mem hs)
  have HK : Hid (∀ s, s ∈ nmS D → s.length ≤ 1000) := fun s hs => hK s (nmS_mem hs)
  have HMEM : Hid (∀ s, s ∈ nmS D → s ∈ strKeys D) := fun s hs => nmS_mem hs
  obtain ⟨i0, hi0, hz0, hz1, hz2⟩ := info_parts info103
  have HI0 : Hid _ := hi0
  have HZ0 : Hid _ := hz0
  have HZ1 : Hid _ := hz1
  have HZ2 : Hid _ := hz2
  have hml : m < w.heap.size := hm.lt
  have HKEY : Hid (Calls Tryz.prog 198 #[.func (.func 239) #[] #[.pointer (some ⟨w.heap.size + 1, 0, none⟩)]] ((w.alloc (Obj.cells #[Value.pointer none, Value.slice none 0 0] 310)).alloc (.cells #[.map (some m)] 247)) fun e w' => ∃ v, e = .returned v ∧ w'.ownsRow (w.heap.size + 1) 9 1 v (nmS D).length ((nmS D).map encStr) ∧ Below (w.heap.size + 1) (w.alloc (Obj.cells #[Value.pointer none, Value.slice none 0 0] 310)) w') := by
    have h := keys_any m n D (w.alloc (Obj.cells #[Value.pointer none, Value.slice none 0 0] 310)) (hm.alloc _) hn
    have e : (w.alloc (Obj.cells #[Value.pointer none, Value.slice none 0 0] 310)).heap.size = w.heap.size + 1 := by simp
    rw [e] at h
    exact h
  clear hg hm hO hF hK hi0 hz0 hz1 hz2
  obtain ⟨T, hT⟩ : ∃ T, nmS D = T := ⟨_, rfl⟩
  rw [hT] at hT16 HF HK HMEM HKEY ⊢
  clear hT
  have d4 : (w.alloc (Obj.cells #[Value.pointer none, Value.slice none 0 0] 310)).cell? ⟨g, 4, none⟩ = some (.map (some m)) := (World.cell?_of_block (heap_alloc_old _ _ hgl)).trans c4
  go_enter Tryz.func155, Tryz.ntmps155
  go_wp2_with fail
  refine (mkeys_any (some m) _).mono ?_
  rintro e w1 ⟨rfl, rfl⟩
  go_wp2_with fail
  refine Calls.mono HKEY.out ?_
  rintro e s1 ⟨vn, rfl, hrow, hb1⟩
  obtain ⟨b, hbe⟩ : ∃ b, b = w.heap.size := ⟨_, rfl⟩
  rw [← hbe] at hrow hb1 hgl hml ⊢
  have HBN : Hid (BN b [] s1) := by
    show BN _ _ _
    refine .inl ⟨Nat.le_refl _, .slice none 0 0, ?_, ⟨rfl, .inl ⟨rfl, rfl⟩⟩, by simp [Value.ownBlock]⟩
    rw [hb1.block b (by omega), hbe]; exact heap_alloc_new _ _
  have HBE : Hid (Below b w s1) := by
    show Below _ _ _
    exact ((Below.refl b w).alloc (by omega) _).trans (hb1.mono (by omega))
  have HR : Hid (s1.ownsRow b 9 1 vn T.length (T.map encStr)) := by
    refine ⟨hrow.1, ?_⟩
    rcases hrow.2 with h | ⟨g, cap, cur, h1, h2, h3⟩
    · exact .inl h
    · exact .inr ⟨g, cap, cur, h1, by omega, h3⟩
  obtain ⟨na, nc, hvn⟩ := own_shape hrow
  subst hvn
  have HBS : Hid _ := hbe
  have HC4 : Hid _ := c4
  clear hrow hb1 d4 HKEY hbe c4
  go_wp2
  go_loopw [4, 16] (fun ev iv wr => ∃ i : Nat, i ≤ T.length ∧ iv = .int .i64 i ∧ wr.ownsRow b 70 2 ev i (entC F T i) ∧ BN b (datL F T i) wr ∧ wr.ownsRow b 9 1 (.slice na T.length nc) T.length (T.map encStr) ∧ Below b w wr) (fun _ iv _ => T.length - (intOf iv).toNat)
  case atStart => exact ⟨0, by omega, rfl, ⟨by simp [entC], .inl ⟨rfl, rfl⟩⟩, by simpa [datL] using HBN.out, HR.out, HBE.out⟩
  case round =>
    obtain ⟨i, hi, rfl, hev, hbn, hnr, hbe⟩ := hrel
    have HEV : Hid _ := hev
    have HBN2 : Hid (BN b (datL F T i) wr) := hbn
    have HNR : Hid (wr.ownsRow b 9 1 (.slice na T.length nc) T.length (T.map encStr)) := hnr
    have HB2 : Hid (Below b w wr) := hbe
    clear hev hbn hnr hbe HBN HBE HR
    by_cases hlt : i < T.length
    · obtain ⟨s, hs⟩ : ∃ s, T[i]? = some s := ⟨_, List.getElem?_eq_getElem hlt⟩
      have hsT : s ∈ T := List.mem_of_getElem? hs
      obtain ⟨ob, num, v, hat, hob, hov⟩ := HO.out s (HMEM.out s hsT)
      have hFs := HF.out s hsT
      have hsl := HK.out s hsT
      obtain ⟨va, vc, hvv⟩ := own_shape hov
      subst hvv
      have hvb : ∀ r, (Value.slice va (F s).length vc).ownBlock = some r → r < b := fun r hr => by rw [HBS.out]; exact own_lt hov r hr
      have hobl : ob < b := by rw [HBS.out]; exact (Array.getElem?_eq_some_iff.1 hob).1
      have o1 : wr.cell? ⟨ob, 1, none⟩ = some (.slice va (F s).length vc) := by
        rw [HB2.out.cell (p := ⟨ob, 1, none⟩) hobl]; exact cell_of_row _ _ _ _ 261 _ hob
      have r4 : wr.cell? ⟨g, 4, none⟩ = some (.map (some m)) := (HB2.out.cell (p := ⟨g, 4, none⟩) hgl).trans HC4.out
      have hlk : (Instr.lookup 247 (.map (some m)) (.string ⟨s.toArray⟩) false).run Tryz.prog wr = .ok (.pointer (some ⟨ob, 0, none⟩)) wr := by
        have hmw : wr.ownsMap Tryz.prog 9 pE m n D := by
          obtain ⟨es, ck, h1, h2⟩ := HM.out
          exact ⟨es, ck, by rw [HB2.out.block m hml]; exact h1, h2⟩
        have hkey : keyOf Tryz.prog 9 (.string ⟨s.toArray⟩) = some (.string s) := by
          have := Go.WideMaps.keyOf_string_mk (P := Tryz.prog) Tryz.underlying9 (s := ⟨s.toArray⟩) (by show s.toArray.size ≤ _; unfold maxLen; simp; omega)
          simpa using this
        obtain ⟨u, ps, h1, h2⟩ := hmw.lookup law9 Tryz.underlying247 (zero61 wr) (zd := .nil) (zp := []) rfl hkey
        rw [hat] at h2
        rw [h1, pE_held h2]
      obtain ⟨gn, hgn⟩ : ∃ gn, na = some ⟨gn, 0, none⟩ := by
        rcases HNR.out.2 with ⟨_, h⟩ | ⟨g', cap, cur, h, _⟩
        · omega
        · cases h; exact ⟨g', rfl⟩
      subst hgn
      have n1 : wr.cell? ⟨gn, i, none⟩ = some (.string ⟨s.toArray⟩) := by
        have := HNR.out.cells (g := gn) rfl i (encStr s) (by simp [hs])
        rw [Addr.add_lit] at this
        simpa using this
      have HAT : Hid _ := hat
      have HOV : Hid (w.ownsRow 0 5 1 (.slice va (F s).length vc) (F s).length (Lib.byteCells (F s))) := hov
      have HVB : Hid _ := hvb
      have HEN : Hid _ := entC_next F T i s hs
      have HDN : Hid _ := datL_next F T i s hs
      obtain ⟨ea, ec, hev⟩ := own_shape HEV.out
      subst hev
      have HE2 : Hid (wr.ownsRow b 70 2 (.slice ea i ec) i (entC F T i)) := HEV.out
      clear HEV hat hov hvb hob hs
      go_wp2_with (at_builtin; refine wpList_append_own _ rfl (.tmp 29) (.tmp 34) 59 rfl b 70 i0 (.agg #[.string ⟨#[]⟩, .int .i64 0]) 2 24 Tryz.underlying59 HI0.out HZ0.out HZ1.out HZ2.out rfl (by omega) (.slice ea i ec) i (entC F T i) (by simp [Act.eval]) (HE2.out.alloc _) ⟨wr.heap.size, 0, none⟩ 1 1 [.string ⟨s.toArray⟩, .int .i64 (F s).length] (by simp [Act.eval]) rfl (by exact cells_new _ [.string ⟨s.toArray⟩, .int .i64 (F s).length] 70) (by intro u hu; simp at hu; rcases hu with rfl | rfl <;> rfl) (by unfold maxLen; omega) (by omega) (by have := HB2.out.size; have := HBS.out; simp; omega) ?_; intro v2 w2 hO2 hG2 _)
      have hB3 : Below b w w2 := (HB2.out.alloc (by have := HB2.out.size; have := HBS.out; omega) _).grown hG2 (by have := HB2.out.size; have := HBS.out; simp; omega) (fun j hj => own_ge HE2.out j hj)
      have hN2 : BN b (datL F T i) w2 := (HBN2.out.alloc _).grown (HE2.out.alloc _) (by decide) (by decide) hG2
      have hR2 : w2.ownsRow b 9 1 (.slice (some ⟨gn, 0, none⟩) T.length nc) T.length (T.map encStr) := (HNR.out.alloc _).kept hG2 (own_apart HNR.out HE2.out (by decide))
      have HO2 : Hid _ := hO2
      have HB3 : Hid (Below b w w2) := hB3
      have HN2 : Hid (BN b (datL F T i) w2) := hN2
      have HR2 : Hid (w2.ownsRow b 9 1 (.slice (some ⟨gn, 0, none⟩) T.length nc) T.length (T.map encStr)) := hR2
      have HDL : Hid _ := datL_len F T i HF.out hT16
      clear hO2 hG2 hB3 hN2 hR2 hlk n1 r4 o1 HBN2 HNR HB2
      refine (bwrite_any b (F s).length 0 (datL F T i) (F s) (.slice va (F s).length vc) w2 HN2.out (own_low HOV.out HVB.out HB3.out) HVB.out (by omega) (by have := HDL.out; omega)).mono ?_
      rintro e w3 ⟨rfl, hbn3, hb3, ho3⟩
      obtain ⟨cs, hcs⟩ := HN2.out.row
      have HO3 : Hid (w3.ownsRow b 70 2 v2 (i + 1) (entC F T (i + 1))) := by
        show World.ownsRow _ _ _ _ _ _ _
        rw [HEN.out]; exact own_oth HO2.out (by decide) hcs (by decide) ho3
      have HR3 : Hid (w3.ownsRow b 9 1 (.slice (some ⟨gn, 0, none⟩) T.length nc) T.length (T.map encStr)) := own_oth HR2.out (by decide) hcs (by decide) ho3
      have HN3 : Hid (BN b (datL F T (i + 1)) w3) := by
        show BN _ _ _
        rw [HDN.out]; exact hbn3
      have HB4 : Hid (Below b w w3) := HB3.out.trans hb3
      clear hbn3 hb3 ho3 hcs HO2 HB3 HN2 HR2
      go_wp2
      go_roundw
      case rel => exact ⟨i + 1, by omega, by go_num, HO3.out, HN3.out, HR3.out, HB4.out⟩
      case measure => simp [intOf]; omega
    · have e : i = T.length := by omega
      subst e
      obtain ⟨ea, ec, hev⟩ := own_shape HEV.out
      subst hev
      have HE2 : Hid (wr.ownsRow b 70 2 (.slice ea T.length ec) T.length (entC F T T.length)) := HEV.out
      clear HEV
      go_wp2_with fail
      refine (bstr_oth b (datL F T T.length) wr HBN2.out).mono ?_
      rintro e w3 ⟨rfl, hb3, ho3⟩
      obtain ⟨cs, hcs⟩ := HBN2.out.row
      have HO3 : Hid (w3.ownsRow b 70 2 (.slice ea T.length ec) T.length (entC F T T.length)) := own_oth HE2.out (by decide) hcs (by decide) ho3
      have HB4 : Hid (Below b w w3) := HB2.out.trans hb3
      clear hb3 ho3 hcs
      go_wp2
      go_ret2
      rw [← HBS.out]
      exact ⟨ea, ec, rfl, HO3.out, HB4.out⟩
end Go.Proofs.YtadinjaocnlglaaGreatDoor
namespace Go.Proofs.YtadinjaocnlglaaGreatDoor
open Go.RowKit Go.Maps
set_option maxRecDepth 100000
set_option maxHeartbeats 1000000
/-- the i-th text of a list -/
def bkS (l : List Value) (i : Nat) : ByteArray := match l[i]? with | some (.string x) => x | _ => ⟨#[]⟩
def nmT (T : List (List UInt8)) (j : Nat) : ByteArray := ⟨(T.getD j []).toArray⟩
def lnT (F : List UInt8 → List UInt8) (T : List (List UInt8)) (j : Nat) : Nat := match T[j]? with | some s => (F s).length | none => 0
def dtT (F : List UInt8 → List UInt8) (T : List (List UInt8)) : ByteArray := ⟨(datL F T T.length).toArray⟩
def bkT (K M C : Nat) (s : ByteArray) : Nat → ByteArray := bkS (blkV (strm (K * C) s) (K * C) K M C (nst (K * C) s.size))
def nbT (K M C : Nat) (s : ByteArray) : Nat := nst (K * C) s.size * (K + M)
def lsT (K M C V : Nat) (F : List UInt8 → List UInt8) (T : List (List UInt8)) : ByteArray := lstT K M C V T.length (nmT T) (lnT F T)
def rtT (kt : Nat → Int) (K M C V : Nat) (F : List UInt8 → List UInt8) (T : List (List UInt8)) : ByteArray := rootT (ofT kt) (lsT K M C V F T) (nbT K M C (dtT F T)) fun i => leafT (ofT kt) (bkT K M C (dtT F T) i)
def voT (kt : Nat → Int) (K M C V : Nat) (F : List UInt8 → List UInt8) (T : List (List UInt8)) : Nat → ByteArray :=
  volT (ofT kt) (rtT kt K M C V F T) (lsT K M C V F T) (nbT K M C (dtT F T)) (fun i => leafT (ofT kt) (bkT K M C (dtT F T) i)) (bkT K M C (dtT F T)) V
theorem pc_le (s : ByteArray) (z i : Nat) : (pc s z i).size ≤ z := by
  unfold pc
  rw [ByteArray.size_extract, Nat.succ_mul]
  omega
theorem vl_size (p q : Nat → Nat) (r c : Nat) (S : Nat → ByteArray) (i : Nat) : (vl p q r c S i).size = c := by
  unfold vl txtN; rw [strOfNums_size]; simp
theorem whl_txt (S : Nat → ByteArray) (k m c : Nat) (hS : ∀ j, (S j).size ≤ c) : ∀ u ∈ whl S k m c, ∃ x : ByteArray, u = .string x ∧ x.size ≤ c := by
  intro u hu
  rcases List.mem_append.1 hu with h | h
  · simp only [tV, List.mem_map] at h
    obtain ⟨i, _, rfl⟩ := h
    exact ⟨_, rfl, hS i⟩
  · simp only [tV, List.mem_map] at h
    obtain ⟨i, _, rfl⟩ := h
    exact ⟨_, rfl, Nat.le_of_eq (vl_size _ _ _ _ _ _)⟩
theorem blkV_txt (t : ByteArray) (z K M C : Nat) : ∀ n, ∀ u ∈ blkV t z K M C n, ∃ x : ByteArray, u = .string x ∧ x.size ≤ C
  | 0, u, h => by simp [blkV] at h
  | n + 1, u, h => by
    rcases List.mem_append.1 h with h | h
    · exact blkV_txt t z K M C n u h
    · exact whl_txt _ K M C (fun j => pc_le _ _ _) u h
theorem bkS_get (l : List Value) (c : Nat) (hl : ∀ u ∈ l, ∃ x : ByteArray, u = .string x ∧ x.size ≤ c) (i : Nat) (hi : i < l.length) : l[i]? = some (.string (bkS l i)) ∧ (bkS l i).size ≤ c := by
  have h := List.getElem?_eq_getElem hi
  obtain ⟨x, hx, hc⟩ := hl _ (List.getElem_mem hi)
  unfold bkS
  rw [h, hx]
  exact ⟨rfl, hc⟩
theorem volumes_own (kt : Nat → Int) (K M C V nE capE nB B : Nat) (aE : Option Addr) (v : Value) (l : List Value) (Nm : Nat → ByteArray) (Ln : Nat → Nat) (w : World) (hK : K ≤ 100000) (hM : M ≤ 100000) (hC : C ≤ 100000) (hV1 : 1 ≤ V) (hV : V ≤ 1000) (hnE : nE ≤ 1000)
    (hN : ∀ j, (Nm j).size ≤ 1000) (hLn : ∀ j, Ln j ≤ 100000) (hE : ∀ j, j < nE → ∃ b, aE = some ⟨b, 0, none⟩ ∧ b < w.heap.size ∧ w.cell? ⟨b, j * 2, none⟩ = some (.string (Nm j)) ∧ w.cell? ⟨b, j * 2 + 1, none⟩ = some (.int .i64 (Ln j)))
    (hnB : nB ≤ 10000) (hv : w.ownsRow B 9 1 v nB l) (hnil : nB = 0 → v = .slice none 0 0) (hl : ∀ u ∈ l, ∃ x : ByteArray, u = .string x ∧ x.size ≤ 1000) (hG : Gd kt w) :
    Calls Tryz.prog 124 #[.agg #[.int .i64 K, .int .i64 M, .int .i64 C, .int .i64 V], .slice aE nE capE, v] w fun e w' => ∃ gv, e = .returned (.tuple #[.slice (some ⟨gv, 0, none⟩) V V, .string (rootT (ofT kt) (lstT K M C V nE Nm Ln) nB fun i => leafT (ofT kt) (bkS l i))]) ∧ w.heap.size ≤ gv ∧ Rw w' gv V 9 (tX (volT (ofT kt) (rootT (ofT kt) (lstT K M C V nE Nm Ln) nB fun i => leafT (ofT kt) (bkS l i)) (lstT K M C V nE Nm Ln) nB (fun i => leafT (ofT kt) (bkS l i)) (bkS l) V)) ∧ Below w.heap.size w w' := by
  rcases Nat.eq_zero_or_pos nB with h0 | h0
  · subst h0
    rw [hnil rfl]
    exact volumes_nil kt K M C V nE capE aE Nm Ln (bkS l) w hK hM hC hV1 hV hnE hN hLn hE hG
  · have hl1 : l.length = nB := by have := hv.1; omega
    obtain ⟨g, cap, rfl, hB, hc⟩ := own_cellsAdd hv h0
    rcases hv.2 with ⟨h, _⟩ | ⟨g', cap', cur, h, _, hh, hcap, _⟩
    · cases h
    · cases h
      refine volumes_some kt K M C V nE capE nB cap g aE Nm Ln (bkS l) w hK hM hC hV1 hV hnE hN hLn hE h0 hnB hcap (fun i hi => (bkS_get l 1000 hl i (by omega)).2) (Array.getElem?_eq_some_iff.1 hh).1 (fun i hi => ?_) hG
      have := hc i _ (bkS_get l 1000 hl i (by omega)).1
      rw [Addr.add_lit] at this
      simpa [tI] using this
theorem entC_get (F : List UInt8 → List UInt8) : ∀ (T : List (List UInt8)) (j : Nat), j < T.length → (entC F T T.length)[j * 2]? = some (.string (nmT T j)) ∧ (entC F T T.length)[j * 2 + 1]? = some (.int .i64 (lnT F T j))
  | [], j, h => by simp at h
  | s :: r, 0, _ => by simp [entC, nmT, lnT]
  | s :: r, j + 1, h => by
    have ih := entC_get F r j (by simpa using h)
    have e : entC F (s :: r) (s :: r).length = [.string ⟨s.toArray⟩, .int .i64 (F s).length] ++ entC F r r.length := by simp [entC]
    rw [e]
    have a1 : (j + 1) * 2 = 2 + j * 2 := by omega
    have a2 : (j + 1) * 2 + 1 = 2 + (j * 2 + 1) := by omega
    rw [a2, a1, List.getElem?_append_right (by simp), List.getElem?_append_right (by simp)]
    simpa [nmT, lnT] using ih
theorem ent_cells {w : World} {B nE cE : Nat} {aE : Option Addr} {F : List UInt8 → List UInt8} {T : List (List UInt8)} (hn : nE = T.length) (h : w.ownsRow B 70 2 (.slice aE nE cE) nE (entC F T T.length)) :
    ∀ j, j < nE → ∃ b, aE = some ⟨b, 0, none⟩ ∧ b < w.heap.size ∧ w.cell? ⟨b, j * 2, none⟩ = some (.string (nmT T j)) ∧ w.cell? ⟨b, j * 2 + 1, none⟩ = some (.int .i64 (lnT F T j)) := by
  intro j hj
  rcases h.2 with ⟨_, h2⟩ | ⟨g, cap, cur, hv, _, hh, _⟩
  · omega
  · cases hv
    obtain ⟨h1, h2⟩ := entC_get F T j (by omega)
    have c1 := h.cells (g := g) rfl _ _ h1
    have c2 := h.cells (g := g) rfl _ _ h2
    rw [Addr.add_lit] at c1 c2
    exact ⟨g, rfl, (Array.getElem?_eq_some_iff.1 hh).1, by simpa using c1, by simpa using c2⟩
end Go.Proofs.YtadinjaocnlglaaGreatDoor
namespace Go.Proofs.YtadinjaocnlglaaGreatDoor
open Go.RowKit Go.Maps
set_option maxRecDepth 100000
set_option maxHeartbeats 1000000
theorem letGo_d (g : Nat) (u : FrameMode) (w : World) (v4 v5 : Value) (h4 : w.cell? ⟨g, 4, none⟩ = some v4) (h5 : w.cell? ⟨g, 5, none⟩ = some v5) (hf : ∀ k, w.frozen? ⟨g, k, none⟩ = false) :
    CallsD Tryz.prog 152 #[.pointer (some ⟨g, 0, none⟩)] u w fun e u' w' => u' = u ∧ (e = .returned (.tuple #[]) ∧ w' = (w.setCell ⟨g, 4, none⟩ (.map none)).setCell ⟨g, 5, none⟩ (.pointer none)) := by
  have f4 := hf 4
  have f5 := hf 5
  go_enter_d Tryz.func152, Tryz.ntmps152
  go_wp2
  go_end0
  exact ⟨rfl, rfl⟩
theorem Obs.set {w : World} {D : DataW Nat} {F : List UInt8 → List UInt8} {g k : Nat} {v : Value} {cs : Array Value} (h : Obs w D F) (hg : w.heap[g]? = some (.cells cs 252 (0, 0))) : Obs (w.setCell ⟨g, k, none⟩ v) D F := fun s hs => by
  obtain ⟨ob, num, u, h1, h2, h3⟩ := h s hs
  refine ⟨ob, num, u, h1, ?_, own_set h3 hg (by decide)⟩
  rw [set_other]
  · exact h2
  · intro e; subst e; rw [hg] at h2; simp at h2
theorem Gd.set {kt : Nat → Int} {w : World} {g k : Nat} {v : Value} (h : Gd kt w) (hg : 4 ≤ g) : Gd kt (w.setCell ⟨g, k, none⟩ v) :=
  ⟨fun j hj => (World.cell?_of_block (set_other w g k 2 v (by omega))).trans (h.tab j hj), by have := h.one; simpa [World.setCell] using this⟩
/-- a Draft's cells when it is closed -/
def dX (K M C V : Nat) (obj last : Value) (n len : Nat) : Array Value :=
  #[.int .i64 K, .int .i64 M, .int .i64 C, .int .i64 V, obj, last, .int .i64 n, .int .i64 len, .bool false, .int .i64 0, .int .i64 0, .bool true]
theorem dclose_full (kt : Nat → Int) (g m K M C V n len : Nat) (last : Value) (D : DataW Nat) (F : List UInt8 → List UInt8) (w : World)
    (hg : w.heap[g]? = some (.cells (dC K M C V (.map (some m)) last n len) 252 (0, 0))) (hg1 : 4 ≤ g) (hm : w.ownsMap Tryz.prog 9 pE m n D) (hO : Obs w D F) (hn : n ≤ 16) (hF : ∀ s, s ∈ strKeys D → (F s).length ≤ 4096) (hN : ∀ s, s ∈ strKeys D → s.length ≤ 1000)
    (hlen : len = (dtT F (nmS D)).size) (hl1 : len ≤ 100000) (hK1 : 1 ≤ K) (hKM : K + M ≤ 255) (hC1 : 1 ≤ C) (hC2 : C ≤ 64) (hV1 : 1 ≤ V) (hV2 : V ≤ 16) (hB : nbT K M C (dtT F (nmS D)) ≤ 512) (hG : Gd kt w) :
    Calls Tryz.prog 103 #[.pointer (some ⟨g, 0, none⟩)] w fun e w' => ∃ gv, e = .returned (.tuple #[.slice (some ⟨gv, 0, none⟩) V V, .string (rtT kt K M C V F (nmS D)), .nilIface]) ∧ w.heap.size ≤ gv ∧ Rw w' gv V 9 (tX (voT kt K M C V F (nmS D))) ∧ w.heap.size ≤ w'.heap.size ∧ (∀ j, j < w.heap.size → j ≠ g → w'.heap[j]? = w.heap[j]?) ∧ Calm w w' ∧ w'.heap[g]? = some (.cells (dX K M C V (.map none) (.pointer none) n len) 252 (0, 0)) := by
  have c8 : w.cell? ⟨g, 8, none⟩ = some (.bool false) := cell_of_row _ _ _ _ 252 _ hg
  have c11 : w.cell? ⟨g, 11, none⟩ = some (.bool false) := cell_of_row _ _ _ _ 252 _ hg
  have f11 : w.frozen? ⟨g, 11, none⟩ = false := frozen_of_row _ _ _ _ 252 hg
  have hmg : m ≠ g := fun e => by subst e; obtain ⟨es, ck, h1, _⟩ := hm; rw [h1] at hg; simp at hg
  obtain ⟨W, hW⟩ : ∃ W, w.setCell ⟨g, 11, none⟩ (.bool true) = W := ⟨_, rfl⟩
  have hgW : W.heap[g]? = some (.cells (dX K M C V (.map (some m)) last n len) 252 (0, 0)) := by
    rw [← hW]; have := set_heap w g 11 (.bool true) _ _ _ hg; simpa [dC, dX] using this
  have HM : Hid (W.ownsMap Tryz.prog 9 pE m n D) := by show World.ownsMap _ _ _ _ _ _ _; rw [← hW]; exact hm.setCell (by simpa using hmg) _
  have HO : Hid (Obs W D F) := by show Obs _ _ _; rw [← hW]; exact hO.set hg
  have HG : Hid (Gd kt W) := by show Gd _ _; rw [← hW]; exact hG.set hg1
  have HFR : Hid (∀ j, j ≠ g → W.heap[j]? = w.heap[j]?) := fun j hj => by rw [← hW]; exact set_other _ _ _ _ _ hj
  have HSZ : Hid (W.heap.size = w.heap.size) := by show _ = _; rw [← hW]; simp [World.setCell]
  have HCA : Hid (Calm w W) := by show Calm _ _; rw [← hW]; exact ⟨rfl, rfl, rfl⟩
  have HF : Hid _ := hF
  have HN : Hid _ := hN
  have c8' : W.cell? ⟨g, 8, none⟩ = some (.bool false) := cell_of_row _ _ _ _ 252 _ hgW
  have hgl : g < W.heap.size := (Array.getElem?_eq_some_iff.1 hgW).1
  have HLEN : Hid _ := hlen
  have HB : Hid _ := hB
  have HMG : Hid _ := hmg
  clear hg hm hO hF hN hG hlen hB hmg
  go_enter_defers Tryz.func103, Tryz.ntmps103
  go_wp2_with fail
  clear hW c8 c11 f11 c8'
  have d0 : W.cell? ⟨g, 0, none⟩ = some (.int .i64 K) := cell_of_row _ _ _ _ 252 _ hgW
  have d1 : W.cell? ⟨g, 1, none⟩ = some (.int .i64 M) := cell_of_row _ _ _ _ 252 _ hgW
  have d2 : W.cell? ⟨g, 2, none⟩ = some (.int .i64 C) := cell_of_row _ _ _ _ 252 _ hgW
  have d3 : W.cell? ⟨g, 3, none⟩ = some (.int .i64 V) := cell_of_row _ _ _ _ 252 _ hgW
  have d7 : W.cell? ⟨g, 7, none⟩ = some (.int .i64 len) := cell_of_row _ _ _ _ 252 _ hgW
  have hz0 : 0 < K * C := Nat.mul_pos hK1 hC1
  have hz1 : K * C ≤ 100000 := Nat.le_trans (Nat.mul_le_mul (show K ≤ 255 by omega) hC2) (by omega)
  have H29 : Hid (∀ X, Calls Tryz.prog 154 #[.agg #[.int .i64 K, .int .i64 M, .int .i64 C, .int .i64 V], .int .i64 len] X fun e w' => e = .returned (.int .i64 (nst (K * C) len * (K + M) : Nat)) ∧ Below X.heap.size X w') := fun X => countBlocks_any K M C V len (K * C) X rfl hz0 hz1 hl1 (by omega) (by omega)
  have hcnt : nst (K * C) len * (K + M) ≤ 512 := by have := HB.out; unfold nbT at this; rw [← HLEN.out] at this; exact this
  have HCNT : Hid (nst (K * C) len * (K + M) = nbT K M C (dtT F (nmS D))) := by show _ = _; unfold nbT; rw [← HLEN.out]
  have HH29 : Hid _ := H29
  obtain ⟨cn, hcn⟩ : ∃ cn, nst (K * C) len * (K + M) = cn := ⟨_, rfl⟩
  rw [hcn] at H29 hcnt HCNT
  clear hcn HH29
  have hc1 : ¬ ((cn : Int) > 512) := by omega
  go_region_held3 (fun w2 => w2.cell? ⟨g, 0, none⟩ = some (.int .i64 K) ∧ w2.cell? ⟨g, 1, none⟩ = some (.int .i64 M) ∧ w2.cell? ⟨g, 2, none⟩ = some (.int .i64 C) ∧ w2.cell? ⟨g, 3, none⟩ = some (.int .i64 V) ∧ w2.cell? ⟨g, 7, none⟩ = some (.int .i64 len)) (go_keep) ((go_at_call 154; refine Calls.mono (H29.out _) ?_; rintro e w2 ⟨rfl, hb2⟩; have hB2 : Below W.heap.size W w2 := (by first | exact hb2 | exact ((Below.refl _ _).drew).trans hb2); have q0 : w2.cell? ⟨g, 0, none⟩ = some (.int .i64 K) := ((hB2.cell (p := ⟨g, 0, none⟩) hgl).trans d0); have q1 : w2.cell? ⟨g, 1, none⟩ = some (.int .i64 M) := ((hB2.cell (p := ⟨g, 1, none⟩) hgl).trans d1); have q2 : w2.cell? ⟨g, 2, none⟩ = some (.int .i64 C) := ((hB2.cell (p := ⟨g, 2, none⟩) hgl).trans d2); have q3 : w2.cell? ⟨g, 3, none⟩ = some (.int .i64 V) := ((hB2.cell (p := ⟨g, 3, none⟩) hgl).trans d3); have q7 : w2.cell? ⟨g, 7, none⟩ = some (.int .i64 len) := ((hB2.cell (p := ⟨g, 7, none⟩) hgl).trans d7)))
  have HB2 : Hid (Below W.heap.size W w2) := hB2
  have HM2 : Hid (w2.ownsMap Tryz.prog 9 pE m n D) := by
    obtain ⟨es, ck, h1, h2⟩ := HM.out
    exact ⟨es, ck, by rw [hB2.block m HM.out.lt]; exact h1, h2⟩
  have HO2 : Hid (Obs w2 D F) := HO.out.low (Nat.le_refl _) hB2
  have HG2 : Hid (Gd kt w2) := HG.out.below hB2
  have hg2 : w2.heap[g]? = some (.cells (dX K M C V (.map (some m)) last n len) 252 (0, 0)) := by rw [hB2.block g hgl]; exact hgW
  clear hB2 hb2 q0 q1 q2 q3 q7 d0 d1 d2 d3 d7 HM HO HG hgW H29
  go_wp2_with fail
  refine (sorted_any g m K M C V n len last D F w2 (.inr (cell_of_row _ _ _ _ 252 _ hg2)) HM2.out HO2.out hn HF.out HN.out).mono ?_
  rintro e w3 ⟨aE, cE, rfl, hE3, hb3⟩
  have HE3 : Hid (w3.ownsRow w2.heap.size 70 2 (.slice aE (nmS D).length cE) (nmS D).length (entC F (nmS D) (nmS D).length)) := hE3
  have hg3 : w3.heap[g]? = some (.cells (dX K M C V (.map (some m)) last n len) 252 (0, 0)) := by rw [hb3.block g (Array.getElem?_eq_some_iff.1 hg2).1]; exact hg2
  have HG3 : Hid (Gd kt w3) := HG2.out.below hb3
  have HB3 : Hid (Below W.heap.size W w3) := HB2.out.trans (hb3.mono HB2.out.size)
  have hT16 : (nmS D).length ≤ 16 := by rw [nmS_len]; have := HM2.out.size_le; omega
  clear hE3 hb3 HM2 HO2 HG2 HB2 hg2
  go_wp2_with fail
  have HN2 : Hid (∀ j, (nmT (nmS D) j).size ≤ 1000) := fun j => by
    unfold nmT
    show ((nmS D).getD j []).toArray.size ≤ 1000
    rw [List.size_toArray, List.getD_eq_getElem?_getD]
    cases h : (nmS D)[j]? with
    | none => simp
    | some x => exact HN.out x (nmS_mem (List.mem_of_getElem? h))
  have HL2 : Hid (∀ j, lnT F (nmS D) j ≤ 100000) := fun j => by
    show lnT F (nmS D) j ≤ 100000
    unfold lnT
    split
    · rename_i x h
      have := HF.out x (nmS_mem (List.mem_of_getElem? h))
      omega
    · omega
  have H32 : Hid (∀ X, Calls Tryz.prog 156 #[.agg #[.int .i64 K, .int .i64 M, .int .i64 C, .int .i64 V], .string (dtT F (nmS D))] X fun e w' => ∃ v, e = .returned v ∧ w'.ownsRow X.heap.size 9 1 v (nbT K M C (dtT F (nmS D))) (blkV (strm (K * C) (dtT F (nmS D))) (K * C) K M C (nst (K * C) (dtT F (nmS D)).size)) ∧ Below X.heap.size X w' ∧ (nst (K * C) (dtT F (nmS D)).size = 0 → v = .slice none 0 0)) := fun X => blocks_any K M C V (K * C) (dtT F (nmS D)) X rfl hK1 hC1 hKM (by omega) hz1 (by rw [← HLEN.out]; exact hl1)
  have H31 : Hid (∀ X a c, Below w3.heap.size w3 X → X.ownsRow w3.heap.size 9 1 (.slice a (nbT K M C (dtT F (nmS D))) c) (nbT K M C (dtT F (nmS D))) (blkV (strm (K * C) (dtT F (nmS D))) (K * C) K M C (nst (K * C) (dtT F (nmS D)).size)) → (nst (K * C) (dtT F (nmS D)).size = 0 → Value.slice a (nbT K M C (dtT F (nmS D))) c = .slice none 0 0) →
      Calls Tryz.prog 124 #[.agg #[.int .i64 K, .int .i64 M, .int .i64 C, .int .i64 V], .slice aE (nmS D).length cE, .slice a (nbT K M C (dtT F (nmS D))) c] X fun e w' => ∃ gv, e = .returned (.tuple #[.slice (some ⟨gv, 0, none⟩) V V, .string (rtT kt K M C V F (nmS D))]) ∧ X.heap.size ≤ gv ∧ Rw w' gv V 9 (tX (voT kt K M C V F (nmS D))) ∧ Below X.heap.size X w') := fun X a c hX hv hnil =>
    volumes_own kt K M C V (nmS D).length cE (nbT K M C (dtT F (nmS D))) w3.heap.size aE _ _ (nmT (nmS D)) (lnT F (nmS D)) X (by omega) (by omega) (by omega) hV1 (by omega) (by omega) HN2.out HL2.out (ent_cells rfl (own_low HE3.out (fun r hr => own_lt HE3.out r hr) hX)) (by have := HB.out; omega) hv (fun h => hnil (by unfold nbT at h; rcases Nat.mul_eq_zero.1 h with h | h; exact h; omega)) (fun u hu => by obtain ⟨x, h1, h2⟩ := blkV_txt _ _ _ _ _ _ u hu; exact ⟨x, h1, by omega⟩) (HG3.out.below hX)
  have hes : (⟨(datL F (nmS D) (nmS D).length).toArray⟩ : ByteArray) = dtT F (nmS D) := rfl
  rw [hes]
  clear hes
  obtain ⟨R, hR⟩ : ∃ R, rtT kt K M C V F (nmS D) = R := ⟨_, rfl⟩
  obtain ⟨VO, hVO⟩ : ∃ VO, voT kt K M C V F (nmS D) = VO := ⟨_, rfl⟩
  obtain ⟨BL, hBL⟩ : ∃ BL, blkV (strm (K * C) (dtT F (nmS D))) (K * C) K M C (nst (K * C) (dtT F (nmS D)).size) = BL := ⟨_, rfl⟩
  obtain ⟨NB, hNB⟩ : ∃ NB, nbT K M C (dtT F (nmS D)) = NB := ⟨_, rfl⟩
  obtain ⟨NS, hNS⟩ : ∃ NS, nst (K * C) (dtT F (nmS D)).size = NS := ⟨_, rfl⟩
  obtain ⟨SS, hSS⟩ : ∃ SS, dtT F (nmS D) = SS := ⟨_, rfl⟩
  obtain ⟨nE, hnE⟩ : ∃ nE, (nmS D).length = nE := ⟨_, rfl⟩
  rw [hBL, hNB, hNS, hnE, hR, hVO] at H31
  rw [hBL, hNB, hNS, hSS] at H32
  rw [hnE, hSS]
  have HRR : Hid _ := hR
  have HVO : Hid _ := hVO
  clear HL2 HN2 HE3 HLEN HB HCNT hR hVO hBL hNB hNS hSS hnE HG3 HF HN
  have d0 : w3.cell? ⟨g, 0, none⟩ = some (.int .i64 K) := cell_of_row _ _ _ _ 252 _ hg3
  have d1 : w3.cell? ⟨g, 1, none⟩ = some (.int .i64 M) := cell_of_row _ _ _ _ 252 _ hg3
  have d2 : w3.cell? ⟨g, 2, none⟩ = some (.int .i64 C) := cell_of_row _ _ _ _ 252 _ hg3
  have d3 : w3.cell? ⟨g, 3, none⟩ = some (.int .i64 V) := cell_of_row _ _ _ _ 252 _ hg3
  have hgl3 : g < w3.heap.size := (Array.getElem?_eq_some_iff.1 hg3).1
  go_region_held3 (fun w4 => w4.cell? ⟨g, 0, none⟩ = some (.int .i64 K) ∧ w4.cell? ⟨g, 1, none⟩ = some (.int .i64 M) ∧ w4.cell? ⟨g, 2, none⟩ = some (.int .i64 C) ∧ w4.cell? ⟨g, 3, none⟩ = some (.int .i64 V)) (go_keep) (first | (go_at_call 156; refine Calls.mono (H32.out _) ?_; rintro e w4 ⟨v4, rfl, hv4, hb4, hn4⟩; obtain ⟨a4, c4, hvv⟩ := own_shape hv4; subst hvv; have hB4 : Below w3.heap.size w3 w4 := (by first | exact hb4 | exact ((Below.refl _ _).drew).trans hb4); have q0 : w4.cell? ⟨g, 0, none⟩ = some (.int .i64 K) := ((hB4.cell (p := ⟨g, 0, none⟩) hgl3).trans d0); have q1 : w4.cell? ⟨g, 1, none⟩ = some (.int .i64 M) := ((hB4.cell (p := ⟨g, 1, none⟩) hgl3).trans d1); have q2 : w4.cell? ⟨g, 2, none⟩ = some (.int .i64 C) := ((hB4.cell (p := ⟨g, 2, none⟩) hgl3).trans d2); have q3 : w4.cell? ⟨g, 3, none⟩ = some (.int .i64 V) := ((hB4.cell (p := ⟨g, 3, none⟩) hgl3).trans d3)) | (go_at_call 124; refine Calls.mono (H31.out w4 a4 c4 hB4 hv4 hn4) ?_; rintro e w5 ⟨gv, rfl, hgv, hR5, hb5⟩; have hB5 : Below w3.heap.size w3 w5 := (hB4.trans (hb5.mono hB4.size)); have u0 : w5.cell? ⟨g, 0, none⟩ = some (.int .i64 K) := ((hB5.cell (p := ⟨g, 0, none⟩) hgl3).trans d0); have u1 : w5.cell? ⟨g, 1, none⟩ = some (.int .i64 M) := ((hB5.cell (p := ⟨g, 1, none⟩) hgl3).trans d1); have u2 : w5.cell? ⟨g, 2, none⟩ = some (.int .i64 C) := ((hB5.cell (p := ⟨g, 2, none⟩) hgl3).trans d2); have u3 : w5.cell? ⟨g, 3, none⟩ = some (.int .i64 V) := ((hB5.cell (p := ⟨g, 3, none⟩) hgl3).trans d3)))
  have hg5 : w5.heap[g]? = some (.cells (dX K M C V (.map (some m)) last n len) 252 (0, 0)) := by rw [hB5.block g hgl3]; exact hg3
  have HB5 : Hid (Below W.heap.size W w5) := HB3.out.trans (hB5.mono HB3.out.size)
  have HGV : Hid (w3.heap.size ≤ gv) := Nat.le_trans hB4.size hgv
  have HR5 : Hid (Rw w5 gv V 9 (tX VO)) := hR5
  clear u0 u1 u2 u3 d0 d1 d2 d3 hB5 hB4 hb5 hgv hR5 H31 H32
  go_wp2
  refine leaves_cons (f := 152) (args := #[.pointer (some ⟨g, 0, none⟩)]) (by simp) (by simp [go_sem]) ?_
  refine (letGo_d g .returning w5 (.map (some m)) last (cell_of_row _ _ _ _ 252 _ hg5) (cell_of_row _ _ _ _ 252 _ hg5) (fun k => frozen_of_row _ _ _ _ 252 hg5)).mono ?_
  rintro e u' w6 ⟨rfl, rfl, rfl⟩
  have hgv2 : g ≠ gv := by have := HGV.out; omega
  refine ⟨_, results_tmp3 rfl _ _ _, gv, ?_, ?_, ?_, ?_, ?_, ((HCA.out.trans (Calm.below HB5.out)).set _ _).set _ _, ?_⟩
  · rw [HRR.out]; rfl
  · have := HGV.out; have := HB3.out.size; have := HSZ.out; omega
  · rw [HVO.out]
    unfold Rw
    rw [set_other _ _ _ _ _ hgv2.symm, set_other _ _ _ _ _ hgv2.symm]
    exact HR5.out
  · have := HB5.out.size; have := HSZ.out; simp [World.setCell]; omega
  · intro j hj h1
    rw [set_other _ _ _ _ _ h1, set_other _ _ _ _ _ h1, HB5.out.block j (by rw [HSZ.out]; exact hj)]
    exact HFR.out j h1
  · have h1 := set_heap w5 g 4 (.map none) _ _ _ hg5
    have h2 := set_heap _ g 5 (.pointer none) _ _ _ h1
    exact h2
theorem dclose_ok (kt : Nat → Int) (g m K M C V n len : Nat) (last : Value) (D : DataW Nat) (F : List UInt8 → List UInt8) (w : World)
    (hg : w.heap[g]? = some (.cells (dC K M C V (.map (some m)) last n len) 252 (0, 0))) (hg1 : 4 ≤ g) (hm : w.ownsMap Tryz.prog 9 pE m n D) (hO : Obs w D F) (hn : n ≤ 16) (hF : ∀ s, s ∈ strKeys D → (F s).length ≤ 4096) (hN : ∀ s, s ∈ strKeys D → s.length ≤ 1000)
    (hlen : len = (dtT F (nmS D)).size) (hl1 : len ≤ 100000) (hK1 : 1 ≤ K) (hKM : K + M ≤ 255) (hC1 : 1 ≤ C) (hC2 : C ≤ 64) (hV1 : 1 ≤ V) (hV2 : V ≤ 16) (hB : nbT K M C (dtT F (nmS D)) ≤ 512) (hG : Gd kt w) :
    Calls Tryz.prog 103 #[.pointer (some ⟨g, 0, none⟩)] w fun e w' => ∃ gv, e = .returned (.tuple #[.slice (some ⟨gv, 0, none⟩) V V, .string (rtT kt K M C V F (nmS D)), .nilIface]) ∧ w.heap.size ≤ gv ∧ Rw w' gv V 9 (tX (voT kt K M C V F (nmS D))) ∧ w.heap.size ≤ w'.heap.size ∧ (∀ j, j < w.heap.size → j ≠ g → w'.heap[j]? = w.heap[j]?) ∧ Calm w w' :=
  (dclose_full kt g m K M C V n len last D F w hg hg1 hm hO hn hF hN hlen hl1 hK1 hKM hC1 hC2 hV1 hV2 hB hG).mono fun _ _ ⟨gv, h1, h2, h3, h4, h5, h6, _⟩ => ⟨gv, h1, h2, h3, h4, h5, h6⟩
end Go.Proofs.YtadinjaocnlglaaGreatDoor
