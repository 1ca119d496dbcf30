/-
  The walk of strings.Builder's Write.
  The walk of draft's sorted.
  Rows that are owned.
  A list made longer: its row is the old one, or a new one.
  The walks of mark, fullTexts, keepTexts, looks.
-/
import Derived.Test.YtadinjaocnlglaaGreatDoorZ09
import Derived.Test.YtadinjaocnlglaaGreatDoorZ06
import Derived.Test.YtadinjaocnlglaaGreatDoorZ07
import Derived.Sort.KeysCollected
import Derived.Test.YtadinjaocnlglaaGreatDoorZ04
import Derived.Deep.RegionLaw
import Derived.Test.YtadinjaocnlglaaGreatDoorZ05
import Derived.ArgAppend
import Derived.Maps.AppendAt
import Derived.BigRegion
import Derived.BigQuiet
import Derived.Deep.QuietTactic
import Derived.Deep.RegionWith
import Derived.Deep.RegionHeld3
import Derived.Deep.RegionLawGrows
namespace Go.Proofs.YtadinjaocnlglaaGreatDoor
open Go.RowKit
set_option maxRecDepth 100000
set_option maxHeartbeats 1000000
/-- a builder of one's own, of which no text was taken yet -/
def BN (b : Nat) (l : List UInt8) (w : World) : Prop := Lib.IsBuilder 310 5 b b (Lib.byteCells l) w
theorem ccheck (b : Nat) (bs : List Value) (w : World) (h : Lib.IsBuilder 310 5 b b bs w) :
    Calls Tryz.prog 240 #[.pointer (some ⟨b, 0, none⟩)] w fun e w' => e = .returned (.tuple #[]) ∧ Lib.BuilderAt 310 5 b b (.pointer (some ⟨b, 0, none⟩)) bs w' ∧ Below b w w' ∧ Oth b w w' := by
  rcases h with h | h
  · refine (Any.Builder_copyCheck_fresh (P := Tryz.prog) (ρ := Tryz.lays156_ren) { Tryz.lays156 with } { Tryz.Builder_Extra_156 with } b w h.cell0 h.shape h.frozen0).mono ?_
    rintro e w' ⟨rfl, rfl⟩
    refine ⟨rfl, h.used _, (Below.refl b w).setCell (p := ⟨b, 0, none⟩) (Nat.le_refl b) _, fun k o hk hb _ => ?_⟩
    rw [set_other _ _ _ _ _ (by intro e; exact hb (by rw [e]))]
    exact hk
  · refine (Any.Builder_copyCheck_used (P := Tryz.prog) (ρ := Tryz.lays156_ren) { Tryz.lays156 with } { Tryz.Builder_Extra_156 with } b w h.cell0).mono ?_
    rintro e w' ⟨rfl, rfl⟩
    exact ⟨rfl, h, Below.refl _ _, fun _ _ hk _ _ => hk⟩
theorem own_low {w w' : World} {base b k : Nat} {e : TypeId} {size : Nat} {v : Value} {xs : List Value} (h : w.ownsRow base e size v k xs) (hlt : ∀ r, v.ownBlock = some r → r < b) (hb : Below b w w') : w'.ownsRow base e size v k xs := by
  refine ⟨h.1, ?_⟩
  rcases h.2 with h2 | ⟨g, cap, cur, rfl, hg, hh, rest⟩
  · exact .inl h2
  · exact .inr ⟨g, cap, cur, rfl, hg, by rw [hb.block g (hlt g rfl)]; exact hh, rest⟩
theorem grown_oth {w w' : World} {base n : Nat} {v : Value} {xs : List Value} (hown : w.ownsRow base 5 1 v n xs) (h : w.grownBy w' v.ownBlock) (k : Nat) (o : Obj) (hk : w.heap[k]? = some o) (ho : ∀ c fz, o ≠ .cells c 5 fz) : w'.heap[k]? = some o := by
  refine grown_row h hk ?_
  rcases hown.2 with ⟨rfl, _⟩ | ⟨g, cap, cur, rfl, _, hg, _⟩
  · simp [Value.ownBlock]
  · intro e
    simp only [Value.ownBlock, Option.some.injEq] at e
    subst e
    rw [hg] at hk
    cases hk
    exact ho _ _ rfl
theorem bwrite_end (b n : Nat) (l news : List UInt8) (v v2 : Value) (w w1 w2 : World) (hnl : news.length = n) (HB1 : Below b w w1) (HO1 : Oth b w w1) (HOW : w1.ownsRow b 5 1 v l.length (Lib.byteCells l)) (hG2 : w1.grownBy w2 v.ownBlock)
    (hbl : b < w1.heap.size) (hh2 : w2.heap[b]? = some (.cells #[.pointer (some ⟨b, 0, none⟩), v] 310 (0, 0))) (hO2 : w2.ownsRow b 5 1 v2 (l.length + n) (Lib.byteCells l ++ Lib.byteCells news)) :
    BN b (l ++ news) (w2.setCell ⟨b, 1, none⟩ v2) ∧ Below b w (w2.setCell ⟨b, 1, none⟩ v2) ∧ Oth b w (w2.setCell ⟨b, 1, none⟩ v2) := by
  refine ⟨.inr (Lib.BuilderAt.put (Nat.le_refl _) hh2 ?_ (by decide)), ?_, ?_⟩
  · rw [← Lib.byteCells_append] at hO2
    have e : (Lib.byteCells (l ++ news)).length = l.length + n := by rw [Lib.byteCells_length, List.length_append, hnl]
    rw [e]; exact hO2
  · exact (HB1.grown hG2 (Nat.le_of_lt hbl) (fun j hj => own_ge HOW j hj)).setCell (p := ⟨b, 1, none⟩) (Nat.le_refl b) _
  · intro k o hk hb ho
    rw [set_other _ _ _ _ _ (by intro e; exact hb (by rw [e]))]
    exact grown_oth HOW hG2 k o (HO1 k o hk hb ho) ho
theorem bwrite_some (b n base r cap : Nat) (l news : List UInt8) (w : World) (h : BN b l w) (hp : w.ownsRow base 5 1 (.slice (some ⟨r, 0, none⟩) n cap) n (Lib.byteCells news)) (hlt : r < b) (hn : n ≤ 100000) (hl : l.length ≤ 100000) :
    Calls Tryz.prog 200 #[.pointer (some ⟨b, 0, none⟩), .slice (some ⟨r, 0, none⟩) n cap] w fun e w' => e = .returned (.tuple #[.int .i64 n, .nilIface]) ∧ BN b (l ++ news) w' ∧ Below b w w' ∧ Oth b w w' := by
  have H69 : Hid _ := ccheck b _ w h
  obtain ⟨i5, hi, hz, hs1, hs2⟩ := u8info
  have hnl : news.length = n := by have := hp.1; rw [Lib.byteCells_length] at this; omega
  have HP : Hid _ := hp
  clear hp h
  go_enter Tryz.func200, Tryz.ntmps200
  go_wp2_with fail
  refine Calls.mono H69.out ?_
  rintro e w1 ⟨rfl, hB1, hb1, ho1⟩
  obtain ⟨_, v, hh, hown, hne⟩ := hB1
  rw [Lib.byteCells_length] at hown
  have c1 : w1.cell? ⟨b, 1, none⟩ = some v := cell_of_row _ _ _ _ 310 _ hh
  have HP1 : Hid (w1.ownsRow base 5 1 (.slice (some ⟨r, 0, none⟩) n cap) n (Lib.byteCells news)) := own_low HP.out (fun r' e => by cases e; exact hlt) hb1
  have hbl : b < w1.heap.size := (Array.getElem?_eq_some_iff.1 hh).1
  have HOW : Hid _ := hown
  have HH : Hid _ := hh
  have HB1 : Hid _ := hb1
  have HO1 : Hid _ := ho1
  clear H69 HP hown hb1 ho1 hh hne
  go_wp2_with (at_builtin; refine wpList_append_own _ rfl (.tmp 12) (.tmp 13) 165 rfl b 5 i5 (.int .u8 0) 1 1 Tryz.underlying165 hi hz hs1 hs2 rfl (by omega) v l.length (Lib.byteCells l) (by simp [Act.eval]) HOW.out ⟨r, 0, none⟩ n cap (Lib.byteCells news) (by simp [Act.eval]) (by rw [Lib.byteCells_length]; omega) (HP1.out.cells rfl) (Lib.byteCells_one _) (by unfold maxLen; omega) (by omega) (by omega) ?_; intro v2 w2 hO2 hG2 _; have hh2 : w2.heap[b]? = some (.cells #[.pointer (some ⟨b, 0, none⟩), v] 310 (0, 0)) := (grown_row hG2 HH.out (ne_own HOW.out HH.out (by decide))); have c2 : w2.cell? ⟨b, 1, none⟩ = some v := (cell_of_row _ _ _ _ 310 _ hh2); have f2 : w2.frozen? ⟨b, 1, none⟩ = false := (frozen_of_row _ _ _ _ 310 hh2); obtain ⟨a2, k2, hv2⟩ := own_shape hO2; subst hv2; clear c1)
  go_ret2
  exact ⟨rfl, bwrite_end b n l news v _ w w1 w2 hnl HB1.out HO1.out HOW.out hG2 hbl hh2 hO2⟩
theorem set_same (w : World) (g k : Nat) (v : Value) (cs : Array Value) (t : TypeId) (h : w.heap[g]? = some (.cells cs t (0, 0))) (hk : cs[k]? = some v) : w.setCell ⟨g, k, none⟩ v = w := by
  have e : (w.setCell ⟨g, k, none⟩ v).heap = w.heap := by
    apply Array.ext_getElem?
    intro j
    by_cases hj : j = g
    · subst hj
      rw [set_heap w j k v cs t (0, 0) h, h]
      congr 2
      apply Array.ext_getElem?
      intro i
      rw [Array.getElem?_setIfInBounds]
      split
      · rename_i hi; subst hi
        have := (Array.getElem?_eq_some_iff.1 hk).1
        rw [if_pos this, hk]
      · rfl
    · exact set_other w g k j v hj
  have : w.setCell ⟨g, k, none⟩ v = { w with heap := (w.setCell ⟨g, k, none⟩ v).heap } := rfl
  rw [this, e]
theorem bwrite_nil (b : Nat) (l : List UInt8) (w : World) (h : BN b l w) :
    Calls Tryz.prog 200 #[.pointer (some ⟨b, 0, none⟩), .slice none 0 0] w fun e w' => e = .returned (.tuple #[.int .i64 0, .nilIface]) ∧ BN b l w' ∧ Below b w w' ∧ Oth b w w' := by
  have H69 : Hid _ := ccheck b _ w h
  clear h
  go_enter Tryz.func200, Tryz.ntmps200
  go_wp2_with fail
  refine Calls.mono H69.out ?_
  rintro e w1 ⟨rfl, hB1, hb1, ho1⟩
  have HB : Hid _ := hB1
  obtain ⟨_, v, hh, hown, hne⟩ := hB1
  have c1 : w1.cell? ⟨b, 1, none⟩ = some v := cell_of_row _ _ _ _ 310 _ hh
  have f1 : w1.frozen? ⟨b, 1, none⟩ = false := frozen_of_row _ _ _ _ 310 hh
  have hset : w1.setCell ⟨b, 1, none⟩ v = w1 := set_same _ _ _ _ _ _ hh rfl
  rcases hown.2 with ⟨rfl, h0⟩ | ⟨r, cap, cur, rfl, hr, hcr, hcap, rest⟩
  · clear hown H69 hh hne
    go_wp2
    go_ret2
    exact ⟨rfl, .inr HB.out, hb1, ho1⟩
  · clear hown H69 hh hne rest hcr
    go_wp2
    go_ret2
    exact ⟨rfl, .inr HB.out, hb1, ho1⟩
theorem bwrite_any (b n base : Nat) (l news : List UInt8) (p : Value) (w : World) (h : BN b l w) (hp : w.ownsRow base 5 1 p n (Lib.byteCells news)) (hlt : ∀ r, p.ownBlock = some r → r < b) (hn : n ≤ 100000) (hl : l.length ≤ 100000) :
    Calls Tryz.prog 200 #[.pointer (some ⟨b, 0, none⟩), p] w fun e w' => e = .returned (.tuple #[.int .i64 n, .nilIface]) ∧ BN b (l ++ news) w' ∧ Below b w w' ∧ Oth b w w' := by
  rcases hp.2 with ⟨rfl, rfl⟩ | ⟨g, cap, cur, rfl, _⟩
  · have e : news = [] := List.eq_nil_of_length_eq_zero (by have := hp.1; rw [Lib.byteCells_length] at this; omega)
    subst e
    simpa using bwrite_nil b l w h
  · exact bwrite_some b n base g cap l news w h hp (hlt g rfl) hn hl
end Go.Proofs.YtadinjaocnlglaaGreatDoor
namespace Go.Proofs.YtadinjaocnlglaaGreatDoor
open Go.RowKit Go.Maps
set_option maxRecDepth 100000
set_option maxHeartbeats 1000000
/-- each name of the map leads to an object that holds its data -/
def Obs (w : World) (D : DataW Nat) (F : List UInt8 → List UInt8) : Prop := ∀ s, s ∈ strKeys D → ∃ ob num v, D.atKey (.string s) .nil = .held ob ∧ w.heap[ob]? = some (.cells #[num, v] 261 (0, 0)) ∧ w.ownsRow 0 5 1 v (F s).length (Lib.byteCells (F s))
theorem Obs.low {w w' : World} {D : DataW Nat} {F : List UInt8 → List UInt8} {B : Nat} (h : Obs w D F) (hB : w.heap.size ≤ B) (hb : Below B w w') : Obs w' D F := fun s hs => by
  obtain ⟨ob, num, v, h1, h2, h3⟩ := h s hs
  have hl := (Array.getElem?_eq_some_iff.1 h2).1
  exact ⟨ob, num, v, h1, by rw [hb.block ob (by omega)]; exact h2, own_low h3 (fun r hr => Nat.lt_of_lt_of_le (own_lt h3 r hr) hB) hb⟩
theorem own_apart {w : World} {B B' n n' size size' : Nat} {e e' : TypeId} {v v' : Value} {xs xs' : List Value} (h : w.ownsRow B e size v n xs) (h' : w.ownsRow B' e' size' v' n' xs') (he : e ≠ e') : v.ownBlock = none ∨ v.ownBlock ≠ v'.ownBlock := by
  rcases h.2 with ⟨rfl, _⟩ | ⟨g, cap, cur, rfl, _, hg, _⟩
  · exact .inl rfl
  · refine .inr ?_
    rcases h'.2 with ⟨rfl, _⟩ | ⟨g', cap', cur', rfl, _, hg', _⟩
    · simp [Value.ownBlock]
    · intro e2
      simp only [Value.ownBlock, Option.some.injEq] at e2
      subst e2
      rw [hg] at hg'
      simp at hg'
      exact he hg'.2
theorem own_oth {w w' : World} {B b n size : Nat} {e : TypeId} {v : Value} {xs : List Value} {cs : Array Value} (h : w.ownsRow B e size v n xs) (he : e ≠ 5) (hb : w.heap[b]? = some (.cells cs 310 (0, 0))) (he2 : e ≠ 310) (ho : Oth b w w') : w'.ownsRow B e size v n xs := by
  refine ⟨h.1, ?_⟩
  rcases h.2 with h2 | ⟨g, cap, cur, rfl, hg, hh, rest⟩
  · exact .inl h2
  · refine .inr ⟨g, cap, cur, rfl, hg, ho.row hh ?_ he, rest⟩
    intro e3; subst e3; rw [hb] at hh; simp at hh; exact he2 hh.2.symm
theorem BN.row {b : Nat} {l : List UInt8} {w : World} (h : BN b l w) : ∃ cs, w.heap[b]? = some (.cells cs 310 (0, 0)) := by
  rcases h with ⟨_, v, hh, _⟩ | ⟨_, v, hh, _⟩
  · exact ⟨_, hh⟩
  · exact ⟨_, hh⟩
theorem bnAt_grown {b : Nat} {p : Value} {l : List Value} {w w' : World} {B n size : Nat} {e : TypeId} {v : Value} {xs : List Value} (h : Lib.BuilderAt 310 5 b b p l w) (hown : w.ownsRow B e size v n xs) (he : e ≠ 5) (he2 : e ≠ 310) (hg : w.grownBy w' v.ownBlock) : Lib.BuilderAt 310 5 b b p l w' := by
  obtain ⟨h1, u, hh, hu, hne⟩ := h
  refine ⟨h1, u, grown_row hg hh ?_, hu.kept hg (own_apart hu hown he.symm), hne⟩
  rcases hown.2 with ⟨rfl, _⟩ | ⟨g, cap, cur, rfl, _, hg', _⟩
  · simp [Value.ownBlock]
  · intro e3
    simp only [Value.ownBlock, Option.some.injEq] at e3
    subst e3
    rw [hg'] at hh
    simp at hh
    exact he2 hh.2
theorem BN.grown {b : Nat} {l : List UInt8} {w w' : World} {B n size : Nat} {e : TypeId} {v : Value} {xs : List Value} (h : BN b l w) (hown : w.ownsRow B e size v n xs) (he : e ≠ 5) (he2 : e ≠ 310) (hg : w.grownBy w' v.ownBlock) : BN b l w' := by
  rcases h with h | h
  · exact .inl (bnAt_grown h hown he he2 hg)
  · exact .inr (bnAt_grown h hown he he2 hg)
theorem bnAt_alloc {b : Nat} {p : Value} {l : List Value} {w : World} (h : Lib.BuilderAt 310 5 b b p l w) (o : Obj) : Lib.BuilderAt 310 5 b b p l (w.alloc o) := by
  obtain ⟨h1, u, hh, hu, hne⟩ := h
  exact ⟨h1, u, by rw [heap_alloc_old _ _ (Array.getElem?_eq_some_iff.1 hh).1]; exact hh, hu.alloc o, hne⟩
theorem BN.alloc {b : Nat} {l : List UInt8} {w : World} (h : BN b l w) (o : Obj) : BN b l (w.alloc o) := by
  rcases h with h | h
  · exact .inl (bnAt_alloc h o)
  · exact .inr (bnAt_alloc h o)
theorem bstr_oth (b : Nat) (l : List UInt8) (w : World) (h : BN b l w) :
    Calls Tryz.prog 201 #[.pointer (some ⟨b, 0, none⟩)] w fun e w' => e = .returned (.string ⟨l.toArray⟩) ∧ Below b w w' ∧ Oth b w w' := by
  obtain ⟨cs, hcs⟩ := h.row
  refine (bstr_k b b l w (Lib.IsBuilderF.of h) (Nat.le_of_lt (Array.getElem?_eq_some_iff.1 hcs).1)).mono ?_
  rintro e w' ⟨he, _, h2, h3⟩
  exact ⟨he, h2, h3⟩
/-- what the list of entries holds of so many names -/
def entC (F : List UInt8 → List UInt8) (T : List (List UInt8)) (i : Nat) : List Value := (T.take i).flatMap fun s => [.string ⟨s.toArray⟩, .int .i64 (F s).length]
def datL (F : List UInt8 → List UInt8) (T : List (List UInt8)) (i : Nat) : List UInt8 := (T.take i).flatMap F
theorem take_next (T : List (List UInt8)) (i : Nat) (s : List UInt8) (h : T[i]? = some s) : T.take (i + 1) = T.take i ++ [s] := by
  rw [List.take_add_one, h]; rfl
theorem entC_next (F : List UInt8 → List UInt8) (T : List (List UInt8)) (i : Nat) (s : List UInt8) (h : T[i]? = some s) : entC F T (i + 1) = entC F T i ++ [.string ⟨s.toArray⟩, .int .i64 (F s).length] := by
  simp [entC, take_next T i s h]
theorem datL_next (F : List UInt8 → List UInt8) (T : List (List UInt8)) (i : Nat) (s : List UInt8) (h : T[i]? = some s) : datL F T (i + 1) = datL F T i ++ F s := by
  simp [datL, take_next T i s h]
theorem flat_le {α : Type} (G : α → List UInt8) (c : Nat) : ∀ T : List α, (∀ s ∈ T, (G s).length ≤ c) → (T.flatMap G).length ≤ T.length * c
  | [], _ => by simp
  | s :: r, h => by
    have ih := flat_le G c r (fun x hx => h x (by simp [hx]))
    have h1 := h s (by simp)
    rw [List.flatMap_cons, List.length_append, List.length_cons, Nat.succ_mul]
    omega
theorem datL_len (F : List UInt8 → List UInt8) (T : List (List UInt8)) (i : Nat) (h : ∀ s ∈ T, (F s).length ≤ 4096) (hT : T.length ≤ 16) : (datL F T i).length ≤ 65536 := by
  have h1 := flat_le F 4096 (T.take i) (fun s hs => h s (List.mem_of_mem_take hs))
  have h2 : (T.take i).length ≤ 16 := by rw [List.length_take]; omega
  unfold datL
  have : (T.take i).length * 4096 ≤ 16 * 4096 := Nat.mul_le_mul_right _ h2
  omega
theorem cells_new (w : World) (cs : List Value) (t : TypeId) (j : Nat) (u : Value) (h : cs[j]? = some u) : (w.alloc (.cells cs.toArray t)).cell? ((⟨w.heap.size, 0, none⟩ : Addr).add j) = some u := by
  rw [Addr.add_lit]
  rw [cell_of_row _ _ _ _ t _ (heap_alloc_new w (.cells cs.toArray t))]
  simpa using h
theorem info103 : (Tryz.prog.info? 70).map (fun i => (i.zero, i.size, i.bytes)) = some (some (.agg #[.string ⟨#[]⟩, .int .i64 0]), 2, 24) := by kernel_rfl
end Go.Proofs.YtadinjaocnlglaaGreatDoor
namespace Go.Proofs.YtadinjaocnlglaaGreatDoor
open Go.RowKit
theorem step_append_own {P : Program} {ops : Array Oper} {o : Oper} {a : Act} {w : World} {K : Act → World → Prop} {Q : Exit → Act → World → Prop} {E : Prop}
    (hg : o.guard = none) (s x : Operand) (t : TypeId) (hop : o.op = Op.call { callee := Callee.builtin Builtin.append, args := #[s, x], argTypes := #[t, t] })
    (e : TypeId) (i : TypeInfo) (z : Value) (size bytes : Nat) (h1 : P.underlying t = some (.slice e)) (h2 : P.info? e = some i) (h3 : i.zero = some z) (h4 : i.size = size) (h5 : i.bytes = bytes) (h6 : z.cells.size = size) (h7 : 0 < size)
    (base : Nat) (v : Value) (n : Nat) (xs : List Value) (hs : a.eval s = v) (hown : w.ownsRow base e size v n xs)
    (ad : Addr) (m c : Nat) (news : List Value) (hx : a.eval x = .slice (some ad) m c) (hn : news.length = m * size) (hc : ∀ j u, news[j]? = some u → w.cell? (ad.add j) = some u) (h1c : ∀ u ∈ news, u.oneCell' = true)
    (b1 : n + m ≤ maxLen) (b2 : (n + m) * bytes ≤ 140737488355328) (hbase : base ≤ w.heap.size)
    (hK : ∀ v' w', w'.ownsRow base e size v' (n + m) (xs ++ news) → w.grownBy w' v.ownBlock → K (a.put o.dst v') w') :
    if Region.wanted o (yielded ops a.tmps) = true then Oper.wp P o a w K Q else E := by
  have hw : Region.wanted o (yielded ops a.tmps) = true := by simp [Region.wanted, hg]
  rw [if_pos hw]
  obtain ⟨v', w', hrun, r1, r2, _⟩ := run_append_own (P := P) w base t o.type e i z size bytes h1 h2 h3 h4 h5 h6 h7 v n xs hown ad m c news hn hc h1c b1 b2 hbase
  unfold Oper.wp
  simp [execOp, hop, resolve, invoke, builtin, hs, hx, hrun, Result.andThen]
  exact hK v' w' r1 r2
end Go.Proofs.YtadinjaocnlglaaGreatDoor
namespace Go.Proofs.YtadinjaocnlglaaGreatDoor
open Go.RowKit
end Go.Proofs.YtadinjaocnlglaaGreatDoor
namespace Go.Proofs.YtadinjaocnlglaaGreatDoor
open Go.RowKit
set_option maxRecDepth 100000
set_option maxHeartbeats 1000000
/-- the first k texts are m -/
def FullRow (w : World) (a : Option Addr) (k : Nat) (m : ByteArray) : Prop := k = 0 ∨ ∃ g cur, a = some ⟨g, 0, none⟩ ∧ w.heap[g]? = some (.cells cur 9 (0, 0)) ∧ ∀ i, i < k → cur[i]? = some (.string m)
/-- a list that reads as its owner wrote it -/
def Full (w : World) (v : Value) (m : ByteArray) : Prop := ∃ a n c, v = .slice a n c ∧ n ≤ 1000000000000 ∧ FullRow w a n m
/-- rows of whatever type but a Book's and its Texts' are left alone -/
def Kp (w w' : World) : Prop := ∀ (q : Nat) (cur : Array Value) (t : TypeId), t ≠ 34 → t ≠ 191 → w.heap[q]? = some (.cells cur t (0, 0)) → w'.heap[q]? = some (.cells cur t (0, 0))
theorem Kp.refl (w : World) : Kp w w := fun _ _ _ _ _ h => h
theorem Kp.trans {a b c : World} (h : Kp a b) (h2 : Kp b c) : Kp a c := fun q cur t h29 h53 hq => h2 q cur t h29 h53 (h q cur t h29 h53 hq)
theorem Kp.below {w w' : World} (h : Below w.heap.size w w') : Kp w w' := fun q cur t _ _ hq => by rw [h.block q (Array.getElem?_eq_some_iff.1 hq).1]; exact hq
theorem Kp.set {w : World} {B : Nat} {c : Array Value} {t : TypeId} {z : Nat × Nat} (h : w.heap[B]? = some (.cells c t z)) (ht : t = 34 ∨ t = 191) (i : Nat) (v : Value) : Kp w (w.setCell ⟨B, i, none⟩ v) := fun q cur t' h29 h53 hq => by
  rw [heap_setCell_other w ⟨B, i, none⟩ q v (by intro e; subst e; rw [h] at hq; simp at hq; rcases ht with ht | ht; exact h29 (hq.2.1 ▸ ht); exact h53 (hq.2.1 ▸ ht))]; exact hq
theorem FullRow.kp {w w' : World} {a : Option Addr} {k : Nat} {m : ByteArray} (h : FullRow w a k m) (hk : Kp w w') : FullRow w' a k m := by
  rcases h with h | ⟨g, cur, h1, h2, h3⟩
  · exact .inl h
  · exact .inr ⟨g, cur, h1, hk g cur 9 (by decide) (by decide) h2, h3⟩
theorem Full.kp {w w' : World} {v : Value} {m : ByteArray} (h : Full w v m) (hk : Kp w w') : Full w' v m := by
  obtain ⟨a, n, c, h1, h2, h3⟩ := h
  exact ⟨a, n, c, h1, h2, h3.kp hk⟩
/-- what is kept of one list -/
structure En where
  l : Value
  a : Value
  b : Value
  c : Value
  m : ByteArray
def En.ok (w : World) (e : En) : Prop := Full w e.l e.m ∧ Full w e.a e.m ∧ Full w e.b e.m ∧ Full w e.c e.m
theorem En.ok.kp {w w' : World} {e : En} (h : e.ok w) (hk : Kp w w') : e.ok w' := ⟨h.1.kp hk, h.2.1.kp hk, h.2.2.1.kp hk, h.2.2.2.kp hk⟩
/-- its rows -/
def En.has (e : En) (q : Nat) : Prop := e.l.ownBlock = some q ∨ e.a.ownBlock = some q ∨ e.b.ownBlock = some q ∨ e.c.ownBlock = some q
theorem own_type {w : World} {base : Nat} {e : TypeId} {size : Nat} {v : Value} {n : Nat} {xs : List Value} (h : w.ownsRow base e size v n xs) : ∀ q, v.ownBlock = some q → ∃ cur, w.heap[q]? = some (.cells cur e (0, 0)) := by
  intro q hq
  rcases h.2 with ⟨h', _⟩ | ⟨g, cap, cur, hv, hg, hh, _⟩
  · rw [h'] at hq; simp [Value.ownBlock] at hq
  · rw [hv] at hq; simp [Value.ownBlock] at hq; subst hq; exact ⟨cur, hh⟩
end Go.Proofs.YtadinjaocnlglaaGreatDoor
