/-
  The walk of strings.Builder's Write.
  The walk of draft's sorted.
  The walk of draft's sorted.
  What Close gives, told plainly; the walk of layout.Volumes over a list of blocks of one's own.
-/
import Derived.Test.YtadinjaocnlglaaGreatDoorZ16
import Derived.Test.YtadinjaocnlglaaGreatDoorZ14
import Derived.Test.YtadinjaocnlglaaGreatDoorZ25
import Derived.Sort.KeysCollected
namespace Go.Proofs.YtadinjaocnlglaaGreatDoor
open Go.RowKit
set_option maxRecDepth 100000
set_option maxHeartbeats 1000000
/-- a builder of one's own, of which no text was taken yet -/
def BN (b : Nat) (l : List UInt8) (w : World) : Prop := Lib.IsBuilder 310 5 b b (Lib.byteCells l) w
theorem ccheck (b : Nat) (bs : List Value) (w : World) (h : Lib.IsBuilder 310 5 b b bs w) :
    Calls Tryz.prog 240 #[.pointer (some ⟨b, 0, none⟩)] w fun e w' => e = .returned (.tuple #[]) ∧ Lib.BuilderAt 310 5 b b (.pointer (some ⟨b, 0, none⟩)) bs w' ∧ Below b w w' ∧ Oth b w w' := by
  rcases h with h | h
  · refine (Any.Builder_copyCheck_fresh (P := Tryz.prog) (ρ := Tryz.lays156_ren) { Tryz.lays156 with } { Tryz.Builder_Extra_156 with } b w h.cell0 h.shape h.frozen0).mono ?_
    rintro e w' ⟨rfl, rfl⟩
    refine ⟨rfl, h.used _, (Below.refl b w).setCell (p := ⟨b, 0, none⟩) (Nat.le_refl b) _, fun k o hk hb _ => ?_⟩
    rw [set_other _ _ _ _ _ (by intro e; exact hb (by rw [e]))]
    exact hk
  · refine (Any.Builder_copyCheck_used (P := Tryz.prog) (ρ := Tryz.lays156_ren) { Tryz.lays156 with } { Tryz.Builder_Extra_156 with } b w h.cell0).mono ?_
    rintro e w' ⟨rfl, rfl⟩
    exact ⟨rfl, h, Below.refl _ _, fun _ _ hk _ _ => hk⟩
theorem own_low {w w' : World} {base b k : Nat} {e : TypeId} {size : Nat} {v : Value} {xs : List Value} (h : w.ownsRow base e size v k xs) (hlt : ∀ r, v.ownBlock = some r → r < b) (hb : Below b w w') : w'.ownsRow base e size v k xs := by
  refine ⟨h.1, ?_⟩
  rcases h.2 with h2 | ⟨g, cap, cur, rfl, hg, hh, rest⟩
  · exact .inl h2
  · exact .inr ⟨g, cap, cur, rfl, hg, by rw [hb.block g (hlt g rfl)]; exact hh, rest⟩
theorem grown_oth {w w' : World} {base n : Nat} {v : Value} {xs : List Value} (hown : w.ownsRow base 5 1 v n xs) (h : w.grownBy w' v.ownBlock) (k : Nat) (o : Obj) (hk : w.heap[k]? = some o) (ho : ∀ c fz, o ≠ .cells c 5 fz) : w'.heap[k]? = some o := by
  refine grown_row h hk ?_
  rcases hown.2 with ⟨rfl, _⟩ | ⟨g, cap, cur, rfl, _, hg, _⟩
  · simp [Value.ownBlock]
  · intro e
    simp only [Value.ownBlock, Option.some.injEq] at e
    subst e
    rw [hg] at hk
    cases hk
    exact ho _ _ rfl
theorem bwrite_end (b n : Nat) (l news : List UInt8) (v v2 : Value) (w w1 w2 : World) (hnl : news.length = n) (HB1 : Below b w w1) (HO1 : Oth b w w1) (HOW : w1.ownsRow b 5 1 v l.length (Lib.byteCells l)) (hG2 : w1.grownBy w2 v.ownBlock)
    (hbl : b < w1.heap.size) (hh2 : w2.heap[b]? = some (.cells #[.pointer (some ⟨b, 0, none⟩), v] 310 (0, 0))) (hO2 : w2.ownsRow b 5 1 v2 (l.length + n) (Lib.byteCells l ++ Lib.byteCells news)) :
    BN b (l ++ news) (w2.setCell ⟨b, 1, none⟩ v2) ∧ Below b w (w2.setCell ⟨b, 1, none⟩ v2) ∧ Oth b w (w2.setCell ⟨b, 1, none⟩ v2) := by
  refine ⟨.inr (Lib.BuilderAt.put (Nat.le_refl _) hh2 ?_ (by decide)), ?_, ?_⟩
  · rw [← Lib.byteCells_append] at hO2
    have e : (Lib.byteCells (l ++ news)).length = l.length + n := by rw [Lib.byteCells_length, List.length_append, hnl]
    rw [e]; exact hO2
  · exact (HB1.grown hG2 (Nat.le_of_lt hbl) (fun j hj => own_ge HOW j hj)).setCell (p := ⟨b, 1, none⟩) (Nat.le_refl b) _
  · intro k o hk hb ho
    rw [set_other _ _ _ _ _ (by intro e; exact hb (by rw [e]))]
    exact grown_oth HOW hG2 k o (HO1 k o hk hb ho) ho
theorem bwrite_some (b n base r cap : Nat) (l news : List UInt8) (w : World) (h : BN b l w) (hp : w.ownsRow base 5 1 (.slice (some ⟨r, 0, none⟩) n cap) n (Lib.byteCells news)) (hlt : r < b) (hn : n ≤ 100000) (hl : l.length ≤ 100000) :
    Calls Tryz.prog 200 #[.pointer (some ⟨b, 0, none⟩), .slice (some ⟨r, 0, none⟩) n cap] w fun e w' => e = .returned (.tuple #[.int .i64 n, .nilIface]) ∧ BN b (l ++ news) w' ∧ Below b w w' ∧ Oth b w w' := by
  have H69 : Hid _ := ccheck b _ w h
  obtain ⟨i5, hi, hz, hs1, hs2⟩ := u8info
  have hnl : news.length = n := by have := hp.1; rw [Lib.byteCells_length] at this; omega
  have HP : Hid _ := hp
  clear hp h
  go_enter Tryz.func200, Tryz.ntmps200
  go_wp2_with fail
  refine Calls.mono H69.out ?_
  rintro e w1 ⟨rfl, hB1, hb1, ho1⟩
  obtain ⟨_, v, hh, hown, hne⟩ := hB1
  rw [Lib.byteCells_length] at hown
  have c1 : w1.cell? ⟨b, 1, none⟩ = some v := cell_of_row _ _ _ _ 310 _ hh
  have HP1 : Hid (w1.ownsRow base 5 1 (.slice (some ⟨r, 0, none⟩) n cap) n (Lib.byteCells news)) := own_low HP.out (fun r' e => by cases e; exact hlt) hb1
  have hbl : b < w1.heap.size := (Array.getElem?_eq_some_iff.1 hh).1
  have HOW : Hid _ := hown
  have HH : Hid _ := hh
  have HB1 : Hid _ := hb1
  have HO1 : Hid _ := ho1
  clear H69 HP hown hb1 ho1 hh hne
  go_wp2_with (at_builtin; refine wpList_append_own _ rfl (.tmp 12) (.tmp 13) 165 rfl b 5 i5 (.int .u8 0) 1 1 Tryz.underlying165 hi hz hs1 hs2 rfl (by omega) v l.length (Lib.byteCells l) (by simp [Act.eval]) HOW.out ⟨r, 0, none⟩ n cap (Lib.byteCells news) (by simp [Act.eval]) (by rw [Lib.byteCells_length]; omega) (HP1.out.cells rfl) (Lib.byteCells_one _) (by unfold maxLen; omega) (by omega) (by omega) ?_; intro v2 w2 hO2 hG2 _; have hh2 : w2.heap[b]? = some (.cells #[.pointer (some ⟨b, 0, none⟩), v] 310 (0, 0)) := (grown_row hG2 HH.out (ne_own HOW.out HH.out (by decide))); have c2 : w2.cell? ⟨b, 1, none⟩ = some v := (cell_of_row _ _ _ _ 310 _ hh2); have f2 : w2.frozen? ⟨b, 1, none⟩ = false := (frozen_of_row _ _ _ _ 310 hh2); obtain ⟨a2, k2, hv2⟩ := own_shape hO2; subst hv2; clear c1)
  go_ret2
  exact ⟨rfl, bwrite_end b n l news v _ w w1 w2 hnl HB1.out HO1.out HOW.out hG2 hbl hh2 hO2⟩
theorem set_same (w : World) (g k : Nat) (v : Value) (cs : Array Value) (t : TypeId) (h : w.heap[g]? = some (.cells cs t (0, 0))) (hk : cs[k]? = some v) : w.setCell ⟨g, k, none⟩ v = w := by
  have e : (w.setCell ⟨g, k, none⟩ v).heap = w.heap := by
    apply Array.ext_getElem?
    intro j
    by_cases hj : j = g
    · subst hj
      rw [set_heap w j k v cs t (0, 0) h, h]
      congr 2
      apply Array.ext_getElem?
      intro i
      rw [Array.getElem?_setIfInBounds]
      split
      · rename_i hi; subst hi
        have := (Array.getElem?_eq_some_iff.1 hk).1
        rw [if_pos this, hk]
      · rfl
    · exact set_other w g k j v hj
  have : w.setCell ⟨g, k, none⟩ v = { w with heap := (w.setCell ⟨g, k, none⟩ v).heap } := rfl
  rw [this, e]
theorem bwrite_nil (b : Nat) (l : List UInt8) (w : World) (h : BN b l w) :
    Calls Tryz.prog 200 #[.pointer (some ⟨b, 0, none⟩), .slice none 0 0] w fun e w' => e = .returned (.tuple #[.int .i64 0, .nilIface]) ∧ BN b l w' ∧ Below b w w' ∧ Oth b w w' := by
  have H69 : Hid _ := ccheck b _ w h
  clear h
  go_enter Tryz.func200, Tryz.ntmps200
  go_wp2_with fail
  refine Calls.mono H69.out ?_
  rintro e w1 ⟨rfl, hB1, hb1, ho1⟩
  have HB : Hid _ := hB1
  obtain ⟨_, v, hh, hown, hne⟩ := hB1
  have c1 : w1.cell? ⟨b, 1, none⟩ = some v := cell_of_row _ _ _ _ 310 _ hh
  have f1 : w1.frozen? ⟨b, 1, none⟩ = false := frozen_of_row _ _ _ _ 310 hh
  have hset : w1.setCell ⟨b, 1, none⟩ v = w1 := set_same _ _ _ _ _ _ hh rfl
  rcases hown.2 with ⟨rfl, h0⟩ | ⟨r, cap, cur, rfl, hr, hcr, hcap, rest⟩
  · clear hown H69 hh hne
    go_wp2
    go_ret2
    exact ⟨rfl, .inr HB.out, hb1, ho1⟩
  · clear hown H69 hh hne rest hcr
    go_wp2
    go_ret2
    exact ⟨rfl, .inr HB.out, hb1, ho1⟩
theorem bwrite_any (b n base : Nat) (l news : List UInt8) (p : Value) (w : World) (h : BN b l w) (hp : w.ownsRow base 5 1 p n (Lib.byteCells news)) (hlt : ∀ r, p.ownBlock = some r → r < b) (hn : n ≤ 100000) (hl : l.length ≤ 100000) :
    Calls Tryz.prog 200 #[.pointer (some ⟨b, 0, none⟩), p] w fun e w' => e = .returned (.tuple #[.int .i64 n, .nilIface]) ∧ BN b (l ++ news) w' ∧ Below b w w' ∧ Oth b w w' := by
  rcases hp.2 with ⟨rfl, rfl⟩ | ⟨g, cap, cur, rfl, _⟩
  · have e : news = [] := List.eq_nil_of_length_eq_zero (by have := hp.1; rw [Lib.byteCells_length] at this; omega)
    subst e
    simpa using bwrite_nil b l w h
  · exact bwrite_some b n base g cap l news w h hp (hlt g rfl) hn hl
end Go.Proofs.YtadinjaocnlglaaGreatDoor
namespace Go.Proofs.YtadinjaocnlglaaGreatDoor
open Go.RowKit Go.Maps
set_option maxRecDepth 100000
set_option maxHeartbeats 1000000
/-- each name of the map leads to an object that holds its data -/
def Obs (w : World) (D : DataW Nat) (F : List UInt8 → List UInt8) : Prop := ∀ s, s ∈ strKeys D → ∃ ob num v, D.atKey (.string s) .nil = .held ob ∧ w.heap[ob]? = some (.cells #[num, v] 261 (0, 0)) ∧ w.ownsRow 0 5 1 v (F s).length (Lib.byteCells (F s))
theorem Obs.low {w w' : World} {D : DataW Nat} {F : List UInt8 → List UInt8} {B : Nat} (h : Obs w D F) (hB : w.heap.size ≤ B) (hb : Below B w w') : Obs w' D F := fun s hs => by
  obtain ⟨ob, num, v, h1, h2, h3⟩ := h s hs
  have hl := (Array.getElem?_eq_some_iff.1 h2).1
  exact ⟨ob, num, v, h1, by rw [hb.block ob (by omega)]; exact h2, own_low h3 (fun r hr => Nat.lt_of_lt_of_le (own_lt h3 r hr) hB) hb⟩
theorem own_apart {w : World} {B B' n n' size size' : Nat} {e e' : TypeId} {v v' : Value} {xs xs' : List Value} (h : w.ownsRow B e size v n xs) (h' : w.ownsRow B' e' size' v' n' xs') (he : e ≠ e') : v.ownBlock = none ∨ v.ownBlock ≠ v'.ownBlock := by
  rcases h.2 with ⟨rfl, _⟩ | ⟨g, cap, cur, rfl, _, hg, _⟩
  · exact .inl rfl
  · refine .inr ?_
    rcases h'.2 with ⟨rfl, _⟩ | ⟨g', cap', cur', rfl, _, hg', _⟩
    · simp [Value.ownBlock]
    · intro e2
      simp only [Value.ownBlock, Option.some.injEq] at e2
      subst e2
      rw [hg] at hg'
      simp at hg'
      exact he hg'.2
theorem own_oth {w w' : World} {B b n size : Nat} {e : TypeId} {v : Value} {xs : List Value} {cs : Array Value} (h : w.ownsRow B e size v n xs) (he : e ≠ 5) (hb : w.heap[b]? = some (.cells cs 310 (0, 0))) (he2 : e ≠ 310) (ho : Oth b w w') : w'.ownsRow B e size v n xs := by
  refine ⟨h.1, ?_⟩
  rcases h.2 with h2 | ⟨g, cap, cur, rfl, hg, hh, rest⟩
  · exact .inl h2
  · refine .inr ⟨g, cap, cur, rfl, hg, ho.row hh ?_ he, rest⟩
    intro e3; subst e3; rw [hb] at hh; simp at hh; exact he2 hh.2.symm
theorem BN.row {b : Nat} {l : List UInt8} {w : World} (h : BN b l w) : ∃ cs, w.heap[b]? = some (.cells cs 310 (0, 0)) := by
  rcases h with ⟨_, v, hh, _⟩ | ⟨_, v, hh, _⟩
  · exact ⟨_, hh⟩
  · exact ⟨_, hh⟩
theorem bnAt_grown {b : Nat} {p : Value} {l : List Value} {w w' : World} {B n size : Nat} {e : TypeId} {v : Value} {xs : List Value} (h : Lib.BuilderAt 310 5 b b p l w) (hown : w.ownsRow B e size v n xs) (he : e ≠ 5) (he2 : e ≠ 310) (hg : w.grownBy w' v.ownBlock) : Lib.BuilderAt 310 5 b b p l w' := by
  obtain ⟨h1, u, hh, hu, hne⟩ := h
  refine ⟨h1, u, grown_row hg hh ?_, hu.kept hg (own_apart hu hown he.symm), hne⟩
  rcases hown.2 with ⟨rfl, _⟩ | ⟨g, cap, cur, rfl, _, hg', _⟩
  · simp [Value.ownBlock]
  · intro e3
    simp only [Value.ownBlock, Option.some.injEq] at e3
    subst e3
    rw [hg'] at hh
    simp at hh
    exact he2 hh.2
theorem BN.grown {b : Nat} {l : List UInt8} {w w' : World} {B n size : Nat} {e : TypeId} {v : Value} {xs : List Value} (h : BN b l w) (hown : w.ownsRow B e size v n xs) (he : e ≠ 5) (he2 : e ≠ 310) (hg : w.grownBy w' v.ownBlock) : BN b l w' := by
  rcases h with h | h
  · exact .inl (bnAt_grown h hown he he2 hg)
  · exact .inr (bnAt_grown h hown he he2 hg)
theorem bnAt_alloc {b : Nat} {p : Value} {l : List Value} {w : World} (h : Lib.BuilderAt 310 5 b b p l w) (o : Obj) : Lib.BuilderAt 310 5 b b p l (w.alloc o) := by
  obtain ⟨h1, u, hh, hu, hne⟩ := h
  exact ⟨h1, u, by rw [heap_alloc_old _ _ (Array.getElem?_eq_some_iff.1 hh).1]; exact hh, hu.alloc o, hne⟩
theorem BN.alloc {b : Nat} {l : List UInt8} {w : World} (h : BN b l w) (o : Obj) : BN b l (w.alloc o) := by
  rcases h with h | h
  · exact .inl (bnAt_alloc h o)
  · exact .inr (bnAt_alloc h o)
theorem bstr_oth (b : Nat) (l : List UInt8) (w : World) (h : BN b l w) :
    Calls Tryz.prog 201 #[.pointer (some ⟨b, 0, none⟩)] w fun e w' => e = .returned (.string ⟨l.toArray⟩) ∧ Below b w w' ∧ Oth b w w' := by
  obtain ⟨cs, hcs⟩ := h.row
  refine (bstr_k b b l w (Lib.IsBuilderF.of h) (Nat.le_of_lt (Array.getElem?_eq_some_iff.1 hcs).1)).mono ?_
  rintro e w' ⟨he, _, h2, h3⟩
  exact ⟨he, h2, h3⟩
/-- what the list of entries holds of so many names -/
def entC (F : List UInt8 → List UInt8) (T : List (List UInt8)) (i : Nat) : List Value := (T.take i).flatMap fun s => [.string ⟨s.toArray⟩, .int .i64 (F s).length]
def datL (F : List UInt8 → List UInt8) (T : List (List UInt8)) (i : Nat) : List UInt8 := (T.take i).flatMap F
theorem take_next (T : List (List UInt8)) (i : Nat) (s : List UInt8) (h : T[i]? = some s) : T.take (i + 1) = T.take i ++ [s] := by
  rw [List.take_add_one, h]; rfl
theorem entC_next (F : List UInt8 → List UInt8) (T : List (List UInt8)) (i : Nat) (s : List UInt8) (h : T[i]? = some s) : entC F T (i + 1) = entC F T i ++ [.string ⟨s.toArray⟩, .int .i64 (F s).length] := by
  simp [entC, take_next T i s h]
theorem datL_next (F : List UInt8 → List UInt8) (T : List (List UInt8)) (i : Nat) (s : List UInt8) (h : T[i]? = some s) : datL F T (i + 1) = datL F T i ++ F s := by
  simp [datL, take_next T i s h]
theorem flat_le {α : Type} (G : α → List UInt8) (c : Nat) : ∀ T : List α, (∀ s ∈ T, (G s).length ≤ c) → (T.flatMap G).length ≤ T.length * c
  | [], _ => by simp
  | s :: r, h => by
    have ih := flat_le G c r (fun x hx => h x (by simp [hx]))
    have h1 := h s (by simp)
    rw [List.flatMap_cons, List.length_append, List.length_cons, Nat.succ_mul]
    omega
theorem datL_len (F : List UInt8 → List UInt8) (T : List (List UInt8)) (i : Nat) (h : ∀ s ∈ T, (F s).length ≤ 4096) (hT : T.length ≤ 16) : (datL F T i).length ≤ 65536 := by
  have h1 := flat_le F 4096 (T.take i) (fun s hs => h s (List.mem_of_mem_take hs))
  have h2 : (T.take i).length ≤ 16 := by rw [List.length_take]; omega
  unfold datL
  have : (T.take i).length * 4096 ≤ 16 * 4096 := Nat.mul_le_mul_right _ h2
  omega
theorem cells_new (w : World) (cs : List Value) (t : TypeId) (j : Nat) (u : Value) (h : cs[j]? = some u) : (w.alloc (.cells cs.toArray t)).cell? ((⟨w.heap.size, 0, none⟩ : Addr).add j) = some u := by
  rw [Addr.add_lit]
  rw [cell_of_row _ _ _ _ t _ (heap_alloc_new w (.cells cs.toArray t))]
  simpa using h
theorem info103 : (Tryz.prog.info? 70).map (fun i => (i.zero, i.size, i.bytes)) = some (some (.agg #[.string ⟨#[]⟩, .int .i64 0]), 2, 24) := by kernel_rfl
end Go.Proofs.YtadinjaocnlglaaGreatDoor
namespace Go.Proofs.YtadinjaocnlglaaGreatDoor
open Go.RowKit Go.Maps Go.Sort Go.Shelf
set_option maxRecDepth 100000
set_option maxHeartbeats 1000000
/-- a map's names, in their order -/
def nmS (D : DataW Nat) : List (List UInt8) := (strKeys D).mergeSort leB
theorem nmS_mem {D : DataW Nat} {s : List UInt8} (h : s ∈ nmS D) : s ∈ strKeys D := (List.mergeSort_perm (strKeys D) leB).mem_iff.1 h
theorem nmS_len (D : DataW Nat) : (nmS D).length = size D := by
  unfold nmS
  rw [List.length_mergeSort]
  cases D <;> simp [strKeys, size]
theorem keys_any (m n : Nat) (D : DataW Nat) (w : World) (hm : w.ownsMap Tryz.prog 9 pE m n D) (hn : n ≤ 16) :
    Calls Tryz.prog 198 #[.func (.func 239) #[] #[.pointer (some ⟨w.heap.size, 0, none⟩)]] (w.alloc (.cells #[.map (some m)] 247)) fun e w' => ∃ v, e = .returned v ∧ w'.ownsRow w.heap.size 9 1 v (nmS D).length ((nmS D).map encStr) ∧ Below w.heap.size w w' := by
  have hs := hm.size_le
  have sorts : ∀ k, AnyZ.SortsIn Tryz.prog Tryz.sorted45_ren Fence.wide k := fun _ =>
    ⟨fun blk off cap ss W h1 h2 h3 => callsIn_wide.2 (AnyM.slices_Sort_string Tryz.sort67 blk off cap ss W h1 h2 h3), fun p cap W => callsIn_wide.2 (AnyM.slices_Sort_string_none Tryz.sort67 p cap W)⟩
  have gives : SeqGives Fence.wide 2 Tryz.prog 239 #[.pointer (some ⟨w.heap.size, 0, none⟩)] encStr (fun ss => ss.Perm (strKeys D)) (Maps.size D) (w.alloc (.cells #[.map (some m)] 247)) :=
    AnyZ.keys_gives (ρ := Tryz.keys46_ren) { Tryz.keys46 with } Fence.wide _ trivial rfl (by omega) w.heap.size m n D _ (by simp) (by simp) (hm.alloc _)
  refine (callsIn_wide (n := 5)).1 ((AnyZ.sorted_in Tryz.sorted45 Fence.wide 5 trivial trivial trivial trivial rfl (by omega) (sorts _) (enters_of Tryz.func238 (by kernel_rfl) rfl) 239 #[.pointer (some ⟨w.heap.size, 0, none⟩)] trivial (enters_of Tryz.func239 (by kernel_rfl) rfl) _ _ (by unfold maxLen; omega) (by omega) _ gives).mono ?_)
  rintro e w' ⟨v, ss, rfl, hS, hrow, _, hb⟩
  refine ⟨v, rfl, ?_, ?_⟩
  · have e1 : ss.mergeSort leB = nmS D := mergeSort_of_perm hS
    have e2 : ss.length = (nmS D).length := by unfold nmS; rw [List.length_mergeSort]; exact hS.length_eq
    have hr : w'.ownsRow (w.alloc (.cells #[.map (some m)] 247)).heap.size 9 1 v (nmS D).length ((nmS D).map encStr) := by rw [← e1] at *; rw [← e2]; exact hrow
    refine ⟨hr.1, ?_⟩
    rcases hr.2 with h | ⟨g, cap, cur, h1, h2, h3⟩
    · exact .inl h
    · exact .inr ⟨g, cap, cur, h1, by simp at h2; omega, h3⟩
  · exact ((Below.refl _ w).alloc (Nat.le_refl _) _).trans (hb.mono (by simp))
theorem mkeys_any (mb : Option Nat) (W : World) : Calls Tryz.prog 199 #[.map mb] W fun e w' => e = .returned (.func (.func 239) #[] #[.pointer (some ⟨W.heap.size, 0, none⟩)]) ∧ w' = W.alloc (.cells #[.map mb] 247) :=
  (callsIn_wide (n := 5)).1 (AnyZ.keys_in Tryz.keys46 Fence.wide 5 trivial rfl mb W)
theorem sorted_any (g m K M C V n len : Nat) (last : Value) (D : DataW Nat) (F : List UInt8 → List UInt8) (w : World)
    (hg : w.heap[g]? = some (.cells (dC K M C V (.map (some m)) last n len) 252 (0, 0)) ∨ w.cell? ⟨g, 4, none⟩ = some (.map (some m))) (hm : w.ownsMap Tryz.prog 9 pE m n D) (hO : Obs w D F) (hn : n ≤ 16) (hF : ∀ s, s ∈ strKeys D → (F s).length ≤ 4096) (hK : ∀ s, s ∈ strKeys D → s.length ≤ 1000) :
    Calls Tryz.prog 155 #[.pointer (some ⟨g, 0, none⟩)] w fun e w' => ∃ aE cE, e = .returned (.tuple #[.slice aE (nmS D).length cE, .string ⟨(datL F (nmS D) (nmS D).length).toArray⟩]) ∧
      w'.ownsRow w.heap.size 70 2 (.slice aE (nmS D).length cE) (nmS D).length (entC F (nmS D) (nmS D).length) ∧ Below w.heap.size w w' := by
  have c4 : w.cell? ⟨g, 4, none⟩ = some (.map (some m)) := hg.elim (fun h => cell_of_row _ _ _ _ 252 _ h) id
  have hgl : g < w.heap.size := block_lt_of_cell c4
  have HM : Hid (w.ownsMap Tryz.prog 9 pE m n D) := hm
  have HO : Hid (Obs w D F) := hO
  have hT16 : (nmS D).length ≤ 16 := by rw [nmS_len]; have := hm.size_le; omega
  have HF : Hid (∀ s, s ∈ nmS D → (F s).length ≤ 4096) := fun s hs => hF s (nmS_mem hs)
  have HK : Hid (∀ s, s ∈ nmS D → s.length ≤ 1000) := fun s hs => hK s (nmS_mem hs)
  have HMEM : Hid (∀ s, s ∈ nmS D → s ∈ strKeys D) := fun s hs => nmS_mem hs
  obtain ⟨i0, hi0, hz0, hz1, hz2⟩ := info_parts info103
  have HI0 : Hid _ := hi0
  have HZ0 : Hid _ := hz0
  have HZ1 : Hid _ := hz1
  have HZ2 : Hid _ := hz2
  have hml : m < w.heap.size := hm.lt
  have HKEY : Hid (Calls Tryz.prog 198 #[.func (.func 239) #[] #[.pointer (some ⟨w.heap.size + 1, 0, none⟩)]] ((w.alloc (Obj.cells #[Value.pointer none, Value.slice none 0 0] 310)).alloc (.cells #[.map (some m)] 247)) fun e w' => ∃ v, e = .returned v ∧ w'.ownsRow (w.heap.size + 1) 9 1 v (nmS D).length ((nmS D).map encStr) ∧ Below (w.heap.size + 1) (w.alloc (Obj.cells #[Value.pointer none, Value.slice none 0 0] 310)) w') := by
    have h := keys_any m n D (w.alloc (Obj.cells #[Value.pointer none, Value.slice none 0 0] 310)) (hm.alloc _) hn
    have e : (w.alloc (Obj.cells #[Value.pointer none, Value.slice none 0 0] 310)).heap.size = w.heap.size + 1 := by simp
    rw [e] at h
    exact h
  clear hg hm hO hF hK hi0 hz0 hz1 hz2
  obtain ⟨T, hT⟩ : ∃ T, nmS D = T := ⟨_, rfl⟩
  rw [hT] at hT16 HF HK HMEM HKEY ⊢
  clear hT
  have d4 : (w.alloc (Obj.cells #[Value.pointer none, Value.slice none 0 0] 310)).cell? ⟨g, 4, none⟩ = some (.map (some m)) := (World.cell?_of_block (heap_alloc_old _ _ hgl)).trans c4
  go_enter Tryz.func155, Tryz.ntmps155
  go_wp2_with fail
  refine (mkeys_any (some m) _).mono ?_
  rintro e w1 ⟨rfl, rfl⟩
  go_wp2_with fail
  refine Calls.mono HKEY.out ?_
  rintro e s1 ⟨vn, rfl, hrow, hb1⟩
  obtain ⟨b, hbe⟩ : ∃ b, b = w.heap.size := ⟨_, rfl⟩
  rw [← hbe] at hrow hb1 hgl hml ⊢
  have HBN : Hid (BN b [] s1) := by
    show BN _ _ _
    refine .inl ⟨Nat.le_refl _, .slice none 0 0, ?_, ⟨rfl, .inl ⟨rfl, rfl⟩⟩, by simp [Value.ownBlock]⟩
    rw [hb1.block b (by omega), hbe]; exact heap_alloc_new _ _
  have HBE : Hid (Below b w s1) := by
    show Below _ _ _
    exact ((Below.refl b w).alloc (by omega) _).trans (hb1.mono (by omega))
  have HR : Hid (s1.ownsRow b 9 1 vn T.length (T.map encStr)) := by
    refine ⟨hrow.1, ?_⟩
    rcases hrow.2 with h | ⟨g, cap, cur, h1, h2, h3⟩
    · exact .inl h
    · exact .inr ⟨g, cap, cur, h1, by omega, h3⟩
  obtain ⟨na, nc, hvn⟩ := own_shape hrow
  subst hvn
  have HBS : Hid _ := hbe
  have HC4 : Hid _ := c4
  clear hrow hb1 d4 HKEY hbe c4
  go_wp2
  go_loopw [4, 16] (fun ev iv wr => ∃ i : Nat, i ≤ T.length ∧ iv = .int .i64 i ∧ wr.ownsRow b 70 2 ev i (entC F T i) ∧ BN b (datL F T i) wr ∧ wr.ownsRow b 9 1 (.slice na T.length nc) T.length (T.map encStr) ∧ Below b w wr) (fun _ iv _ => T.length - (intOf iv).toNat)
  case atStart => exact ⟨0, by omega, rfl, ⟨by simp [entC], .inl ⟨rfl, rfl⟩⟩, by simpa [datL] using HBN.out, HR.out, HBE.out⟩
  case round =>
    obtain ⟨i, hi, rfl, hev, hbn, hnr, hbe⟩ := hrel
    have HEV : Hid _ := hev
    have HBN2 : Hid (BN b (datL F T i) wr) := hbn
    have HNR : Hid (wr.ownsRow b 9 1 (.slice na T.length nc) T.length (T.map encStr)) := hnr
    have HB2 : Hid (Below b w wr) := hbe
    clear hev hbn hnr hbe HBN HBE HR
    by_cases hlt : i < T.length
    · obtain ⟨s, hs⟩ : ∃ s, T[i]? = some s := ⟨_, List.getElem?_eq_getElem hlt⟩
      have hsT : s ∈ T := List.mem_of_getElem? hs
      obtain ⟨ob, num, v, hat, hob, hov⟩ := HO.out s (HMEM.out s hsT)
      have hFs := HF.out s hsT
      have hsl := HK.out s hsT
      obtain ⟨va, vc, hvv⟩ := own_shape hov
      subst hvv
      have hvb : ∀ r, (Value.slice va (F s).length vc).ownBlock = some r → r < b := fun r hr => by rw [HBS.out]; exact own_lt hov r hr
      have hobl : ob < b := by rw [HBS.out]; exact (Array.getElem?_eq_some_iff.1 hob).1
      have o1 : wr.cell? ⟨ob, 1, none⟩ = some (.slice va (F s).length vc) := by
        rw [HB2.out.cell (p := ⟨ob, 1, none⟩) hobl]; exact cell_of_row _ _ _ _ 261 _ hob
      have r4 : wr.cell? ⟨g, 4, none⟩ = some (.map (some m)) := (HB2.out.cell (p := ⟨g, 4, none⟩) hgl).trans HC4.out
      have hlk : (Instr.lookup 247 (.map (some m)) (.string ⟨s.toArray⟩) false).run Tryz.prog wr = .ok (.pointer (some ⟨ob, 0, none⟩)) wr := by
        have hmw : wr.ownsMap Tryz.prog 9 pE m n D := by
          obtain ⟨es, ck, h1, h2⟩ := HM.out
          exact ⟨es, ck, by rw [HB2.out.block m hml]; exact h1, h2⟩
        have hkey : keyOf Tryz.prog 9 (.string ⟨s.toArray⟩) = some (.string s) := by
          have := Go.WideMaps.keyOf_string_mk (P := Tryz.prog) Tryz.underlying9 (s := ⟨s.toArray⟩) (by show s.toArray.size ≤ _; unfold maxLen; simp; omega)
          simpa using this
        obtain ⟨u, ps, h1, h2⟩ := hmw.lookup law9 Tryz.underlying247 (zero61 wr) (zd := .nil) (zp := []) rfl hkey
        rw [hat] at h2
        rw [h1, pE_held h2]
      obtain ⟨gn, hgn⟩ : ∃ gn, na = some ⟨gn, 0, none⟩ := by
        rcases HNR.out.2 with ⟨_, h⟩ | ⟨g', cap, cur, h, _⟩
        · omega
        · cases h; exact ⟨g', rfl⟩
      subst hgn
      have n1 : wr.cell? ⟨gn, i, none⟩ = some (.string ⟨s.toArray⟩) := by
        have := HNR.out.cells (g := gn) rfl i (encStr s) (by simp [hs])
        rw [Addr.add_lit] at this
        simpa using this
      have HAT : Hid _ := hat
      have HOV : Hid (w.ownsRow 0 5 1 (.slice va (F s).length vc) (F s).length (Lib.byteCells (F s))) := hov
      have HVB : Hid _ := hvb
      have HEN : Hid _ := entC_next F T i s hs
      have HDN : Hid _ := datL_next F T i s hs
      obtain ⟨ea, ec, hev⟩ := own_shape HEV.out
      subst hev
      have HE2 : Hid (wr.ownsRow b 70 2 (.slice ea i ec) i (entC F T i)) := HEV.out
      clear HEV hat hov hvb hob hs
      go_wp2_with (at_builtin; refine wpList_append_own _ rfl (.tmp 29) (.tmp 34) 59 rfl b 70 i0 (.agg #[.string ⟨#[]⟩, .int .i64 0]) 2 24 Tryz.underlying59 HI0.out HZ0.out HZ1.out HZ2.out rfl (by omega) (.slice ea i ec) i (entC F T i) (by simp [Act.eval]) (HE2.out.alloc _) ⟨wr.heap.size, 0, none⟩ 1 1 [.string ⟨s.toArray⟩, .int .i64 (F s).length] (by simp [Act.eval]) rfl (by exact cells_new _ [.string ⟨s.toArray⟩, .int .i64 (F s).length] 70) (by intro u hu; simp at hu; rcases hu with rfl | rfl <;> rfl) (by unfold maxLen; omega) (by omega) (by have := HB2.out.size; have := HBS.out; simp; omega) ?_; intro v2 w2 hO2 hG2 _)
      have hB3 : Below b w w2 := (HB2.out.alloc (by have := HB2.out.size; have := HBS.out; omega) _).grown hG2 (by have := HB2.out.size; have := HBS.out; simp; omega) (fun j hj => own_ge HE2.out j hj)
      have hN2 : BN b (datL F T i) w2 := (HBN2.out.alloc _).grown (HE2.out.alloc _) (by decide) (by decide) hG2
      have hR2 : w2.ownsRow b 9 1 (.slice (some ⟨gn, 0, none⟩) T.length nc) T.length (T.map encStr) := (HNR.out.alloc _).kept hG2 (own_apart HNR.out HE2.out (by decide))
      have HO2 : Hid _ := hO2
      have HB3 : Hid (Below b w w2) := hB3
      have HN2 : Hid (BN b (datL F T i) w2) := hN2
      have HR2 : Hid (w2.ownsRow b 9 1 (.slice (some ⟨gn, 0, none⟩) T.length nc) T.length (T.map encStr)) := hR2
      have HDL : Hid _ := datL_len F T i HF.out hT16
      clear hO2 hG2 hB3 hN2 hR2 hlk n1 r4 o1 HBN2 HNR HB2
      refine (bwrite_any b (F s).length 0 (datL F T i) (F s) (.slice va (F s).length vc) w2 HN2.out (own_low HOV.out HVB.out HB3.out) HVB.out (by omega) (by have := HDL.out; omega)).mono ?_
      rintro e w3 ⟨rfl, hbn3, hb3, ho3⟩
      obtain ⟨cs, hcs⟩ := HN2.out.row
      have HO3 : Hid (w3.ownsRow b 70 2 v2 (i + 1) (entC F T (i + 1))) := by
        show World.ownsRow _ _ _ _ _ _ _
        rw [HEN.out]; exact own_oth HO2.out (by decide) hcs (by decide) ho3
      have HR3 : Hid (w3.ownsRow b 9 1 (.slice (some ⟨gn, 0, none⟩) T.length nc) T.length (T.map encStr)) := own_oth HR2.out (by decide) hcs (by decide) ho3
      have HN3 : Hid (BN b (datL F T (i + 1)) w3) := by
        show BN _ _ _
        rw [HDN.out]; exact hbn3
      have HB4 : Hid (Below b w w3) := HB3.out.trans hb3
      clear hbn3 hb3 ho3 hcs HO2 HB3 HN2 HR2
      go_wp2
      go_roundw
      case rel => exact ⟨i + 1, by omega, by go_num, HO3.out, HN3.out, HR3.out, HB4.out⟩
      case measure => simp [intOf]; omega
    · have e : i = T.length := by omega
      subst e
      obtain ⟨ea, ec, hev⟩ := own_shape HEV.out
      subst hev
      have HE2 : Hid (wr.ownsRow b 70 2 (.slice ea T.length ec) T.length (entC F T T.length)) := HEV.out
      clear HEV
      go_wp2_with fail
      refine (bstr_oth b (datL F T T.length) wr HBN2.out).mono ?_
      rintro e w3 ⟨rfl, hb3, ho3⟩
      obtain ⟨cs, hcs⟩ := HBN2.out.row
      have HO3 : Hid (w3.ownsRow b 70 2 (.slice ea T.length ec) T.length (entC F T T.length)) := own_oth HE2.out (by decide) hcs (by decide) ho3
      have HB4 : Hid (Below b w w3) := HB2.out.trans hb3
      clear hb3 ho3 hcs
      go_wp2
      go_ret2
      rw [← HBS.out]
      exact ⟨ea, ec, rfl, HO3.out, HB4.out⟩
end Go.Proofs.YtadinjaocnlglaaGreatDoor
namespace Go.Proofs.YtadinjaocnlglaaGreatDoor
open Go.RowKit Go.Maps
set_option maxRecDepth 100000
set_option maxHeartbeats 1000000
/-- the i-th text of a list -/
def bkS (l : List Value) (i : Nat) : ByteArray := match l[i]? with | some (.string x) => x | _ => ⟨#[]⟩
def nmT (T : List (List UInt8)) (j : Nat) : ByteArray := ⟨(T.getD j []).toArray⟩
def lnT (F : List UInt8 → List UInt8) (T : List (List UInt8)) (j : Nat) : Nat := match T[j]? with | some s => (F s).length | none => 0
def dtT (F : List UInt8 → List UInt8) (T : List (List UInt8)) : ByteArray := ⟨(datL F T T.length).toArray⟩
def bkT (K M C : Nat) (s : ByteArray) : Nat → ByteArray := bkS (blkV (strm (K * C) s) (K * C) K M C (nst (K * C) s.size))
def nbT (K M C : Nat) (s : ByteArray) : Nat := nst (K * C) s.size * (K + M)
def lsT (K M C V : Nat) (F : List UInt8 → List UInt8) (T : List (List UInt8)) : ByteArray := lstT K M C V T.length (nmT T) (lnT F T)
def rtT (kt : Nat → Int) (K M C V : Nat) (F : List UInt8 → List UInt8) (T : List (List UInt8)) : ByteArray := rootT (ofT kt) (lsT K M C V F T) (nbT K M C (dtT F T)) fun i => leafT (ofT kt) (bkT K M C (dtT F T) i)
def voT (kt : Nat → Int) (K M C V : Nat) (F : List UInt8 → List UInt8) (T : List (List UInt8)) : Nat → ByteArray :=
  volT (ofT kt) (rtT kt K M C V F T) (lsT K M C V F T) (nbT K M C (dtT F T)) (fun i => leafT (ofT kt) (bkT K M C (dtT F T) i)) (bkT K M C (dtT F T)) V
theorem pc_le (s : ByteArray) (z i : Nat) : (pc s z i).size ≤ z := by
  unfold pc
  rw [ByteArray.size_extract, Nat.succ_mul]
  omega
theorem vl_size (p q : Nat → Nat) (r c : Nat) (S : Nat → ByteArray) (i : Nat) : (vl p q r c S i).size = c := by
  unfold vl txtN; rw [strOfNums_size]; simp
theorem whl_txt (S : Nat → ByteArray) (k m c : Nat) (hS : ∀ j, (S j).size ≤ c) : ∀ u ∈ whl S k m c, ∃ x : ByteArray, u = .string x ∧ x.size ≤ c := by
  intro u hu
  rcases List.mem_append.1 hu with h | h
  · simp only [tV, List.mem_map] at h
    obtain ⟨i, _, rfl⟩ := h
    exact ⟨_, rfl, hS i⟩
  · simp only [tV, List.mem_map] at h
    obtain ⟨i, _, rfl⟩ := h
    exact ⟨_, rfl, Nat.le_of_eq (vl_size _ _ _ _ _ _)⟩
theorem blkV_txt (t : ByteArray) (z K M C : Nat) : ∀ n, ∀ u ∈ blkV t z K M C n, ∃ x : ByteArray, u = .string x ∧ x.size ≤ C
  | 0, u, h => by simp [blkV] at h
  | n + 1, u, h => by
    rcases List.mem_append.1 h with h | h
    · exact blkV_txt t z K M C n u h
    · exact whl_txt _ K M C (fun j => pc_le _ _ _) u h
theorem bkS_get (l : List Value) (c : Nat) (hl : ∀ u ∈ l, ∃ x : ByteArray, u = .string x ∧ x.size ≤ c) (i : Nat) (hi : i < l.length) : l[i]? = some (.string (bkS l i)) ∧ (bkS l i).size ≤ c := by
  have h := List.getElem?_eq_getElem hi
  obtain ⟨x, hx, hc⟩ := hl _ (List.getElem_mem hi)
  unfold bkS
  rw [h, hx]
  exact ⟨rfl, hc⟩
theorem volumes_own (kt : Nat → Int) (K M C V nE capE nB B : Nat) (aE : Option Addr) (v : Value) (l : List Value) (Nm : Nat → ByteArray) (Ln : Nat → Nat) (w : World) (hK : K ≤ 100000) (hM : M ≤ 100000) (hC : C ≤ 100000) (hV1 : 1 ≤ V) (hV : V ≤ 1000) (hnE : nE ≤ 1000)
    (hN : ∀ j, (Nm j).size ≤ 1000) (hLn : ∀ j, Ln j ≤ 100000) (hE : ∀ j, j < nE → ∃ b, aE = some ⟨b, 0, none⟩ ∧ b < w.heap.size ∧ w.cell? ⟨b, j * 2, none⟩ = some (.string (Nm j)) ∧ w.cell? ⟨b, j * 2 + 1, none⟩ = some (.int .i64 (Ln j)))
    (hnB : nB ≤ 10000) (hv : w.ownsRow B 9 1 v nB l) (hnil : nB = 0 → v = .slice none 0 0) (hl : ∀ u ∈ l, ∃ x : ByteArray, u = .string x ∧ x.size ≤ 1000) (hG : Gd kt w) :
    Calls Tryz.prog 124 #[.agg #[.int .i64 K, .int .i64 M, .int .i64 C, .int .i64 V], .slice aE nE capE, v] w fun e w' => ∃ gv, e = .returned (.tuple #[.slice (some ⟨gv, 0, none⟩) V V, .string (rootT (ofT kt) (lstT K M C V nE Nm Ln) nB fun i => leafT (ofT kt) (bkS l i))]) ∧ w.heap.size ≤ gv ∧ Rw w' gv V 9 (tX (volT (ofT kt) (rootT (ofT kt) (lstT K M C V nE Nm Ln) nB fun i => leafT (ofT kt) (bkS l i)) (lstT K M C V nE Nm Ln) nB (fun i => leafT (ofT kt) (bkS l i)) (bkS l) V)) ∧ Below w.heap.size w w' := by
  rcases Nat.eq_zero_or_pos nB with h0 | h0
  · subst h0
    rw [hnil rfl]
    exact volumes_nil kt K M C V nE capE aE Nm Ln (bkS l) w hK hM hC hV1 hV hnE hN hLn hE hG
  · have hl1 : l.length = nB := by have := hv.1; omega
    obtain ⟨g, cap, rfl, hB, hc⟩ := own_cellsAdd hv h0
    rcases hv.2 with ⟨h, _⟩ | ⟨g', cap', cur, h, _, hh, hcap, _⟩
    · cases h
    · cases h
      refine volumes_some kt K M C V nE capE nB cap g aE Nm Ln (bkS l) w hK hM hC hV1 hV hnE hN hLn hE h0 hnB hcap (fun i hi => (bkS_get l 1000 hl i (by omega)).2) (Array.getElem?_eq_some_iff.1 hh).1 (fun i hi => ?_) hG
      have := hc i _ (bkS_get l 1000 hl i (by omega)).1
      rw [Addr.add_lit] at this
      simpa [tI] using this
theorem entC_get (F : List UInt8 → List UInt8) : ∀ (T : List (List UInt8)) (j : Nat), j < T.length → (entC F T T.length)[j * 2]? = some (.string (nmT T j)) ∧ (entC F T T.length)[j * 2 + 1]? = some (.int .i64 (lnT F T j))
  | [], j, h => by simp at h
  | s :: r, 0, _ => by simp [entC, nmT, lnT]
  | s :: r, j + 1, h => by
    have ih := entC_get F r j (by simpa using h)
    have e : entC F (s :: r) (s :: r).length = [.string ⟨s.toArray⟩, .int .i64 (F s).length] ++ entC F r r.length := by simp [entC]
    rw [e]
    have a1 : (j + 1) * 2 = 2 + j * 2 := by omega
    have a2 : (j + 1) * 2 + 1 = 2 + (j * 2 + 1) := by omega
    rw [a2, a1, List.getElem?_append_right (by simp), List.getElem?_append_right (by simp)]
    simpa [nmT, lnT] using ih
theorem ent_cells {w : World} {B nE cE : Nat} {aE : Option Addr} {F : List UInt8 → List UInt8} {T : List (List UInt8)} (hn : nE = T.length) (h : w.ownsRow B 70 2 (.slice aE nE cE) nE (entC F T T.length)) :
    ∀ j, j < nE → ∃ b, aE = some ⟨b, 0, none⟩ ∧ b < w.heap.size ∧ w.cell? ⟨b, j * 2, none⟩ = some (.string (nmT T j)) ∧ w.cell? ⟨b, j * 2 + 1, none⟩ = some (.int .i64 (lnT F T j)) := by
  intro j hj
  rcases h.2 with ⟨_, h2⟩ | ⟨g, cap, cur, hv, _, hh, _⟩
  · omega
  · cases hv
    obtain ⟨h1, h2⟩ := entC_get F T j (by omega)
    have c1 := h.cells (g := g) rfl _ _ h1
    have c2 := h.cells (g := g) rfl _ _ h2
    rw [Addr.add_lit] at c1 c2
    exact ⟨g, rfl, (Array.getElem?_eq_some_iff.1 hh).1, by simpa using c1, by simpa using c2⟩
end Go.Proofs.YtadinjaocnlglaaGreatDoor
