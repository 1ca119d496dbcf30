/-
  The walk of strings.Builder's Write.
-/
import Derived.Test.YtadinjaocnlglaaGreatDoorL7
import Derived.Test.YtadinjaocnlglaaGreatDoorL17
namespace Go.Proofs.YtadinjaocnlglaaGreatDoor
open Go.RowKit
set_option maxRecDepth 100000
set_option maxHeartbeats 1000000
/-- a builder of one's own, of which no text was taken yet -/
def BN (b : Nat) (l : List UInt8) (w : World) : Prop := Lib.IsBuilder 310 5 b b (Lib.byteCells l) w
theorem ccheck (b : Nat) (bs : List Value) (w : World) (h : Lib.IsBuilder 310 5 b b bs w) :
    Calls Tryz.prog 240 #[.pointer (some ⟨b, 0, none⟩)] w fun e w' => e = .returned (.tuple #[]) ∧ Lib.BuilderAt 310 5 b b (.pointer (some ⟨b, 0, none⟩)) bs w' ∧ Below b w w' ∧ Oth b w w' := by
  rcases h with h | h
  · refine (Any.Builder_copyCheck_fresh (P := Tryz.prog) (ρ := Tryz.lays156_ren) { Tryz.lays156 with } { Tryz.Builder_Extra_156 with } b w h.cell0 h.shape h.frozen0).mono ?_
    rintro e w' ⟨rfl, rfl⟩
    refine ⟨rfl, h.used _, (Below.refl b w).setCell (p := ⟨b, 0, none⟩) (Nat.le_refl b) _, fun k o hk hb _ => ?_⟩
    rw [set_other _ _ _ _ _ (by intro e; exact hb (by rw [e]))]
    exact hk
  · refine (Any.Builder_copyCheck_used (P := Tryz.prog) (ρ := Tryz.lays156_ren) { Tryz.lays156 with } { Tryz.Builder_Extra_156 with } b w h.cell0).mono ?_
    rintro e w' ⟨rfl, rfl⟩
    exact ⟨rfl, h, Below.refl _ _, fun _ _ hk _ _ => hk⟩
theorem own_low {w w' : World} {base b k : Nat} {e : TypeId} {size : Nat} {v : Value} {xs : List Value} (h : w.ownsRow base e size v k xs) (hlt : ∀ r, v.ownBlock = some r → r < b) (hb : Below b w w') : w'.ownsRow base e size v k xs := by
  refine ⟨h.1, ?_⟩
  rcases h.2 with h2 | ⟨g, cap, cur, rfl, hg, hh, rest⟩
  · exact .inl h2
  · exact .inr ⟨g, cap, cur, rfl, hg, by rw [hb.block g (hlt g rfl)]; exact hh, rest⟩
theorem grown_oth {w w' : World} {base n : Nat} {v : Value} {xs : List Value} (hown : w.ownsRow base 5 1 v n xs) (h : w.grownBy w' v.ownBlock) (k : Nat) (o : Obj) (hk : w.heap[k]? = some o) (ho : ∀ c fz, o ≠ .cells c 5 fz) : w'.heap[k]? = some o := by
  refine grown_row h hk ?_
  rcases hown.2 with ⟨rfl, _⟩ | ⟨g, cap, cur, rfl, _, hg, _⟩
  · simp [Value.ownBlock]
  · intro e
    simp only [Value.ownBlock, Option.some.injEq] at e
    subst e
    rw [hg] at hk
    cases hk
    exact ho _ _ rfl
theorem bwrite_end (b n : Nat) (l news : List UInt8) (v v2 : Value) (w w1 w2 : World) (hnl : news.length = n) (HB1 : Below b w w1) (HO1 : Oth b w w1) (HOW : w1.ownsRow b 5 1 v l.length (Lib.byteCells l)) (hG2 : w1.grownBy w2 v.ownBlock)
    (hbl : b < w1.heap.size) (hh2 : w2.heap[b]? = some (.cells #[.pointer (some ⟨b, 0, none⟩), v] 310 (0, 0))) (hO2 : w2.ownsRow b 5 1 v2 (l.length + n) (Lib.byteCells l ++ Lib.byteCells news)) :
    BN b (l ++ news) (w2.setCell ⟨b, 1, none⟩ v2) ∧ Below b w (w2.setCell ⟨b, 1, none⟩ v2) ∧ Oth b w (w2.setCell ⟨b, 1, none⟩ v2) := by
  refine ⟨.inr (Lib.BuilderAt.put (Nat.le_refl _) hh2 ?_ (by decide)), ?_, ?_⟩
  · rw [← Lib.byteCells_append] at hO2
    have e : (Lib.byteCells (l ++ news)).length = l.length + n := by rw [Lib.byteCells_length, List.length_append, hnl]
    rw [e]; exact hO2
  · exact (HB1.grown hG2 (Nat.le_of_lt hbl) (fun j hj => own_ge HOW j hj)).setCell (p := ⟨b, 1, none⟩) (Nat.le_refl b) _
  · intro k o hk hb ho
    rw [set_other _ _ _ _ _ (by intro e; exact hb (by rw [e]))]
    exact grown_oth HOW hG2 k o (HO1 k o hk hb ho) ho
theorem bwrite_some (b n base r cap : Nat) (l news : List UInt8) (w : World) (h : BN b l w) (hp : w.ownsRow base 5 1 (.slice (some ⟨r, 0, none⟩) n cap) n (Lib.byteCells news)) (hlt : r < b) (hn : n ≤ 100000) (hl : l.length ≤ 100000) :
    Calls Tryz.prog 200 #[.pointer (some ⟨b, 0, none⟩), .slice (some ⟨r, 0, none⟩) n cap] w fun e w' => e = .returned (.tuple #[.int .i64 n, .nilIface]) ∧ BN b (l ++ news) w' ∧ Below b w w' ∧ Oth b w w' := by
  have H69 : Hid _ := ccheck b _ w h
  obtain ⟨i5, hi, hz, hs1, hs2⟩ := u8info
  have hnl : news.length = n := by have := hp.1; rw [Lib.byteCells_length] at this; omega
  have HP : Hid _ := hp
  clear hp h
  go_enter Tryz.func200, Tryz.ntmps200
  go_wp2_with fail
  refine Calls.mono H69.out ?_
  rintro e w1 ⟨rfl, hB1, hb1, ho1⟩
  obtain ⟨_, v, hh, hown, hne⟩ := hB1
  rw [Lib.byteCells_length] at hown
  have c1 : w1.cell? ⟨b, 1, none⟩ = some v := cell_of_row _ _ _ _ 310 _ hh
  have HP1 : Hid (w1.ownsRow base 5 1 (.slice (some ⟨r, 0, none⟩) n cap) n (Lib.byteCells news)) := own_low HP.out (fun r' e => by cases e; exact hlt) hb1
  have hbl : b < w1.heap.size := (Array.getElem?_eq_some_iff.1 hh).1
  have HOW : Hid _ := hown
  have HH : Hid _ := hh
  have HB1 : Hid _ := hb1
  have HO1 : Hid _ := ho1
  clear H69 HP hown hb1 ho1 hh hne
  go_wp2_with (at_builtin; refine wpList_append_own _ rfl (.tmp 12) (.tmp 13) 165 rfl b 5 i5 (.int .u8 0) 1 1 Tryz.underlying165 hi hz hs1 hs2 rfl (by omega) v l.length (Lib.byteCells l) (by simp [Act.eval]) HOW.out ⟨r, 0, none⟩ n cap (Lib.byteCells news) (by simp [Act.eval]) (by rw [Lib.byteCells_length]; omega) (HP1.out.cells rfl) (Lib.byteCells_one _) (by unfold maxLen; omega) (by omega) (by omega) ?_; intro v2 w2 hO2 hG2 _; have hh2 : w2.heap[b]? = some (.cells #[.pointer (some ⟨b, 0, none⟩), v] 310 (0, 0)) := (grown_row hG2 HH.out (ne_own HOW.out HH.out (by decide))); have c2 : w2.cell? ⟨b, 1, none⟩ = some v := (cell_of_row _ _ _ _ 310 _ hh2); have f2 : w2.frozen? ⟨b, 1, none⟩ = false := (frozen_of_row _ _ _ _ 310 hh2); obtain ⟨a2, k2, hv2⟩ := own_shape hO2; subst hv2; clear c1)
  go_ret2
  exact ⟨rfl, bwrite_end b n l news v _ w w1 w2 hnl HB1.out HO1.out HOW.out hG2 hbl hh2 hO2⟩
theorem set_same (w : World) (g k : Nat) (v : Value) (cs : Array Value) (t : TypeId) (h : w.heap[g]? = some (.cells cs t (0, 0))) (hk : cs[k]? = some v) : w.setCell ⟨g, k, none⟩ v = w := by
  have e : (w.setCell ⟨g, k, none⟩ v).heap = w.heap := by
    apply Array.ext_getElem?
    intro j
    by_cases hj : j = g
    · subst hj
      rw [set_heap w j k v cs t (0, 0) h, h]
      congr 2
      apply Array.ext_getElem?
      intro i
      rw [Array.getElem?_setIfInBounds]
      split
      · rename_i hi; subst hi
        have := (Array.getElem?_eq_some_iff.1 hk).1
        rw [if_pos this, hk]
      · rfl
    · exact set_other w g k j v hj
  have : w.setCell ⟨g, k, none⟩ v = { w with heap := (w.setCell ⟨g, k, none⟩ v).heap } := rfl
  rw [this, e]
theorem bwrite_nil (b : Nat) (l : List UInt8) (w : World) (h : BN b l w) :
    Calls Tryz.prog 200 #[.pointer (some ⟨b, 0, none⟩), .slice none 0 0] w fun e w' => e = .returned (.tuple #[.int .i64 0, .nilIface]) ∧ BN b l w' ∧ Below b w w' ∧ Oth b w w' := by
  have H69 : Hid _ := ccheck b _ w h
  clear h
  go_enter Tryz.func200, Tryz.ntmps200
  go_wp2_with fail
  refine Calls.mono H69.out ?_
  rintro e w1 ⟨rfl, hB1, hb1, ho1⟩
  have HB : Hid _ := hB1
  obtain ⟨_, v, hh, hown, hne⟩ := hB1
  have c1 : w1.cell? ⟨b, 1, none⟩ = some v := cell_of_row _ _ _ _ 310 _ hh
  have f1 : w1.frozen? ⟨b, 1, none⟩ = false := frozen_of_row _ _ _ _ 310 hh
  have hset : w1.setCell ⟨b, 1, none⟩ v = w1 := set_same _ _ _ _ _ _ hh rfl
  rcases hown.2 with ⟨rfl, h0⟩ | ⟨r, cap, cur, rfl, hr, hcr, hcap, rest⟩
  · clear hown H69 hh hne
    go_wp2
    go_ret2
    exact ⟨rfl, .inr HB.out, hb1, ho1⟩
  · clear hown H69 hh hne rest hcr
    go_wp2
    go_ret2
    exact ⟨rfl, .inr HB.out, hb1, ho1⟩
theorem bwrite_any (b n base : Nat) (l news : List UInt8) (p : Value) (w : World) (h : BN b l w) (hp : w.ownsRow base 5 1 p n (Lib.byteCells news)) (hlt : ∀ r, p.ownBlock = some r → r < b) (hn : n ≤ 100000) (hl : l.length ≤ 100000) :
    Calls Tryz.prog 200 #[.pointer (some ⟨b, 0, none⟩), p] w fun e w' => e = .returned (.tuple #[.int .i64 n, .nilIface]) ∧ BN b (l ++ news) w' ∧ Below b w w' ∧ Oth b w w' := by
  rcases hp.2 with ⟨rfl, rfl⟩ | ⟨g, cap, cur, rfl, _⟩
  · have e : news = [] := List.eq_nil_of_length_eq_zero (by have := hp.1; rw [Lib.byteCells_length] at this; omega)
    subst e
    simpa using bwrite_nil b l w h
  · exact bwrite_some b n base g cap l news w h hp (hlt g rfl) hn hl
end Go.Proofs.YtadinjaocnlglaaGreatDoor
