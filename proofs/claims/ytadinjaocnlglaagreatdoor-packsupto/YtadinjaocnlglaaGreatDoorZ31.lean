/-
  Write of a Draft, whatever it answers.
  Write of a Draft, told by the document's Writer.
-/
import Derived.Test.YtadinjaocnlglaaGreatDoorZ30
namespace Go.Proofs.YtadinjaocnlglaaGreatDoor
open Go.RowKit Go.Maps
set_option maxRecDepth 100000
set_option maxHeartbeats 1000000
theorem dwrite_state (g : Nat) (s : ByteArray) (l : List (Int × Int)) (w : World) (hne : l ≠ []) (H : Calls Tryz.prog 148 #[.pointer (some ⟨g, 0, none⟩)] w fun e w' => ∃ v, e = .returned v ∧ ErrAt w' v l ∧ Below w.heap.size w w') :
    Calls Tryz.prog 102 #[.pointer (some ⟨g, 0, none⟩), .string s] w fun e w' => ∃ v, e = .returned (.tuple #[.int .i64 0, v]) ∧ ErrAt w' v l ∧ Below w.heap.size w w' := by
  have H' : Hid _ := H
  clear H
  go_enter Tryz.func102, Tryz.ntmps102
  go_wp2_with fail
  refine Calls.mono H'.out ?_
  rintro e w1 ⟨v, rfl, hE, hb⟩
  cases l with
  | nil => exact absurd rfl hne
  | cons p r =>
    have HE : Hid _ := hE
    have HB : Hid _ := hb
    obtain ⟨g1, u, rfl, _⟩ := hE
    clear hb
    go_wp2
    go_ret2
    exact ⟨_, rfl, HE.out, HB.out⟩
theorem dwrite_none (g : Nat) (s : ByteArray) (w : World) (c8 : w.cell? ⟨g, 8, none⟩ = some (.bool false)) (c11 : w.cell? ⟨g, 11, none⟩ = some (.bool false)) (c5 : w.cell? ⟨g, 5, none⟩ = some (.pointer none)) :
    Calls Tryz.prog 102 #[.pointer (some ⟨g, 0, none⟩), .string s] w fun e w' => ∃ v, e = .returned (.tuple #[.int .i64 0, v]) ∧ ErrAt w' v [(5, -1)] ∧ Below w.heap.size w w' := by
  have h23 : Hid _ := state_ok g w c8 c11
  go_enter Tryz.func102, Tryz.ntmps102
  go_wp2_with (go_at_call 148; refine Calls.mono h23.out ?_; rintro e w' ⟨rfl, rfl⟩)
  refine (at_err _ _ _).mono ?_
  rintro e w1 ⟨g1, rfl, h1, hb⟩
  have HE : Hid (ErrAt w1 (.iface 305 (.pointer (some ⟨g1, 0, none⟩))) [(5, -1)]) := ⟨g1, _, rfl, h1, rfl⟩
  have HB : Hid _ := hb
  clear h1 hb
  go_wp2
  go_ret2
  exact ⟨_, rfl, HE.out, HB.out⟩
theorem dwrite_big (g len ob : Nat) (s : ByteArray) (w : World) (Q : Value → World → Prop) (c8 : w.cell? ⟨g, 8, none⟩ = some (.bool false)) (c11 : w.cell? ⟨g, 11, none⟩ = some (.bool false)) (c5 : w.cell? ⟨g, 5, none⟩ = some (.pointer (some ⟨ob, 0, none⟩))) (c7 : w.cell? ⟨g, 7, none⟩ = some (.int .i64 len)) (hl : len ≤ 4096) (hbig : 4096 < len + s.size)
    (H : Calls Tryz.prog 149 #[.pointer (some ⟨g, 0, none⟩), .int .i64 4, .int .i64 len] w fun e w' => ∃ v, e = .returned v ∧ Q v w') :
    Calls Tryz.prog 102 #[.pointer (some ⟨g, 0, none⟩), .string s] w fun e w' => ∃ v, e = .returned (.tuple #[.int .i64 0, v]) ∧ Q v w' := by
  have h23 : Hid _ := state_ok g w c8 c11
  have H' : Hid _ := H
  have hl0 : ((s.size : Int) > 4096 - (len : Int)) := by omega
  clear H
  go_enter Tryz.func102, Tryz.ntmps102
  go_wp2_with (go_at_call 148; refine Calls.mono h23.out ?_; rintro e w' ⟨rfl, rfl⟩)
  refine Calls.mono H'.out ?_
  rintro e w1 ⟨v, rfl, hQ⟩
  go_wp2
  go_ret2
  exact ⟨_, rfl, hQ⟩
/-- a row that a text is put behind: it stays, or is new -/
theorem text_at {P : Program} (w : World) (base : Nat) (t u ty e : TypeId) (i : TypeInfo) (ht : P.underlying t = some (.slice e)) (hu : P.underlying u = some .string) (hi : P.info? e = some i) (hz : i.zero = some (.int .u8 0)) (hsize : i.size = 1) (hby : i.bytes = 1)
    (v : Value) (n : Nat) (xs : List Value) (hown : w.ownsRow base e 1 v n xs) (s : ByteArray) (hs : n + s.size ≤ 1000000) (v' : Value) (w' : World) (hr : (Builtin.append_ #[t, u] ty #[v, .string s]).run P w = .ok v' w') : v'.ownBlock = v.ownBlock ∨ ∃ q, v'.ownBlock = some q ∧ w.heap.size ≤ q := by
  have hm : n + s.size ≤ maxLen := by simp only [maxLen]; omega
  have hxl : xs.length = n := by simpa using hown.1
  rcases hown.2 with ⟨rfl, rfl⟩ | ⟨g, cap, cur, rfl, hbg, hg, hnc, hcm, hcs, htake⟩
  · obtain ⟨v2, w2, hr2, ho2, _⟩ := Lib.run_append_own_string (P := P) w w.heap.size t u ty e i ht hu hi hz hsize hby (.slice none 0 0) 0 xs ⟨hown.1, .inl ⟨rfl, rfl⟩⟩ s hm (by omega) (Nat.le_refl _)
    rw [hr] at hr2
    obtain ⟨rfl, rfl⟩ : v' = v2 ∧ w' = w2 := by simpa using hr2
    rcases ho2.2 with ⟨h1, _⟩ | ⟨g, cap, cur, h1, hb, _⟩
    · left; rw [h1]
    · right; exact ⟨g, by rw [h1]; rfl, hb⟩
  · by_cases hroom : n + s.size ≤ cap
    · have hcs' : cur.size = cap := by simpa using hcs
      have hr2 := Lib.run_append_room_string (P := P) w t u ty e i ht hu hi hsize g n cap cur hg s hroom (by omega)
      rw [hr] at hr2
      have e1 := (Result.ok.inj hr2).1
      left; rw [e1]; rfl
    · have holds : ∀ j u, xs[j]? = some u → w.cell? ((⟨g, 0, none⟩ : Addr).add j) = some u := hown.cells (g := g) rfl
      have hr2 := Lib.run_append_grow_string (P := P) w t u ty e i (.int .u8 0) ht hu hi hz ⟨g, 0, none⟩ n cap xs (by rw [hsize]; simpa using hxl) holds s (by omega) (by omega) (by rw [hby]; exact growslice_fits (by omega) (by omega))
      rw [hr] at hr2
      have e1 := (Result.ok.inj hr2).1
      right; exact ⟨w.heap.size, by rw [e1]; rfl, Nat.le_refl _⟩
theorem step_text_own2 {P : Program} {ops : Array Oper} {o : Oper} {a : Act} {w : World} {K : Act → World → Prop} {Q : Exit → Act → World → Prop} {E : Prop}
    (plain : o.guard = none) (dst src : Operand) (ts tt e : TypeId) (shape : o.op = Op.call { callee := Callee.builtin Builtin.append, args := #[dst, src], argTypes := #[ts, tt] })
    (bytesOf : P.underlying ts = some (.slice e)) (textOf : P.underlying tt = some .string) (info : TypeInfo) (known : P.info? e = some info) (zero : info.zero = some (.int .u8 0)) (one : info.size = 1) (one' : info.bytes = 1)
    (base n : Nat) (v : Value) (xs : List Value) (s : ByteArray) (at0 : a.eval dst = v) (at1 : a.eval src = .string s) (own : w.ownsRow base e 1 v n xs) (small : n + s.size ≤ 1000000) (old : base ≤ w.heap.size)
    (next : ∀ v' w', w'.ownsRow base e 1 v' (n + s.size) (xs ++ Lib.strCells s) → w.grownBy w' v.ownBlock → (v'.ownBlock = v.ownBlock ∨ ∃ q, v'.ownBlock = some q ∧ w.heap.size ≤ q) → K (a.put o.dst v') w') :
    if Region.wanted o (yielded ops a.tmps) = true then Oper.wp P o a w K Q else E := by
  obtain ⟨v', w', run, r1, r2, _⟩ := Lib.run_append_own_string (P := P) w base ts tt o.type e info bytesOf textOf known zero one one' v n xs own s (by simp only [maxLen]; omega) (by omega) old
  have r3 := text_at w base ts tt o.type e info bytesOf textOf known zero one one' v n xs own s small v' w' run
  rw [if_pos (show Region.wanted o (yielded ops a.tmps) = true by simp [Region.wanted, plain])]
  unfold Oper.wp
  simp [execOp, shape, resolve, invoke, builtin, at0, at1, run, Result.andThen]
  exact next v' w' r1 r2 r3
theorem dwrite_end2 (g ob K M C V n len k base : Nat) (num : Value) (objv dv v2 : Value) (xs : List Value) (s : ByteArray) (w w2 : World) (hne : g ≠ ob)
    (hg2 : w2.heap[g]? = some (.cells (dC K M C V objv (.pointer (some ⟨ob, 0, none⟩)) n len) 252 (0, 0)))
    (ho2 : w2.heap[ob]? = some (.cells #[num, dv] 261 (0, 0))) (hO2 : w2.ownsRow base 5 1 v2 (k + s.size) (xs ++ Lib.strCells s)) (hG2 : w.grownBy w2 dv.ownBlock) (hq : v2.ownBlock = dv.ownBlock ∨ ∃ q, v2.ownBlock = some q ∧ w.heap.size ≤ q) :
    ∃ dv', ((w2.setCell ⟨ob, 1, none⟩ v2).setCell ⟨g, 7, none⟩ (.int .i64 (len + s.size))).heap[g]? = some (.cells (dC K M C V objv (.pointer (some ⟨ob, 0, none⟩)) n (len + s.size)) 252 (0, 0)) ∧ ((w2.setCell ⟨ob, 1, none⟩ v2).setCell ⟨g, 7, none⟩ (.int .i64 (len + s.size))).heap[ob]? = some (.cells #[num, dv'] 261 (0, 0)) ∧ ((w2.setCell ⟨ob, 1, none⟩ v2).setCell ⟨g, 7, none⟩ (.int .i64 (len + s.size))).ownsRow base 5 1 dv' (k + s.size) (xs ++ Lib.strCells s) ∧
      w.heap.size ≤ ((w2.setCell ⟨ob, 1, none⟩ v2).setCell ⟨g, 7, none⟩ (.int .i64 (len + s.size))).heap.size ∧ (∀ j, j < w.heap.size → j ≠ g → j ≠ ob → some j ≠ dv.ownBlock → ((w2.setCell ⟨ob, 1, none⟩ v2).setCell ⟨g, 7, none⟩ (.int .i64 (len + s.size))).heap[j]? = w.heap[j]?) ∧ Calm w ((w2.setCell ⟨ob, 1, none⟩ v2).setCell ⟨g, 7, none⟩ (.int .i64 (len + s.size))) ∧ (dv'.ownBlock = dv.ownBlock ∨ ∃ q, dv'.ownBlock = some q ∧ w.heap.size ≤ q) := by
  have ho3 := set_heap w2 ob 1 v2 _ _ _ ho2
  have hg3 := (set_other w2 ob 1 g v2 hne).trans hg2
  refine ⟨v2, ?_, ?_, ?_, ?_, ?_, ((Calm.grown hG2).set _ _).set _ _, hq⟩
  · have := set_heap _ g 7 (.int .i64 (len + s.size)) _ _ _ hg3
    simpa [dC] using this
  · rw [set_other _ _ _ _ _ hne.symm]; simpa using ho3
  · exact own_set (own_set hO2 ho2 (by decide)) hg3 (by decide)
  · have := hG2.size; simp [World.setCell]; omega
  · intro j hj h1 h2 h3
    rw [set_other _ _ _ _ _ h1, set_other _ _ _ _ _ h2]
    exact hG2.block j hj h3
theorem dwrite2 (g ob K M C V n len k base : Nat) (num : Value) (objv dv : Value) (xs : List Value) (s : ByteArray) (w : World)
    (hg : w.heap[g]? = some (.cells (dC K M C V objv (.pointer (some ⟨ob, 0, none⟩)) n len) 252 (0, 0)))
    (ho : w.heap[ob]? = some (.cells #[num, dv] 261 (0, 0))) (hown : w.ownsRow base 5 1 dv k xs) (hb : base ≤ w.heap.size) (hlen : len + s.size ≤ 4096) (hk : k ≤ 4096) :
    Calls Tryz.prog 102 #[.pointer (some ⟨g, 0, none⟩), .string s] w fun e w' => e = .returned (.tuple #[.int .i64 s.size, .nilIface]) ∧ ∃ dv',
      w'.heap[g]? = some (.cells (dC K M C V objv (.pointer (some ⟨ob, 0, none⟩)) n (len + s.size)) 252 (0, 0)) ∧ w'.heap[ob]? = some (.cells #[num, dv'] 261 (0, 0)) ∧ w'.ownsRow base 5 1 dv' (k + s.size) (xs ++ Lib.strCells s) ∧
      w.heap.size ≤ w'.heap.size ∧ (∀ j, j < w.heap.size → j ≠ g → j ≠ ob → some j ≠ dv.ownBlock → w'.heap[j]? = w.heap[j]?) ∧ Calm w w' ∧ (dv'.ownBlock = dv.ownBlock ∨ ∃ q, dv'.ownBlock = some q ∧ w.heap.size ≤ q) := by
  have c5 : w.cell? ⟨g, 5, none⟩ = some (.pointer (some ⟨ob, 0, none⟩)) := cell_of_row _ _ _ _ 252 _ hg
  have c7 : w.cell? ⟨g, 7, none⟩ = some (.int .i64 len) := cell_of_row _ _ _ _ 252 _ hg
  have c8 : w.cell? ⟨g, 8, none⟩ = some (.bool false) := cell_of_row _ _ _ _ 252 _ hg
  have c11 : w.cell? ⟨g, 11, none⟩ = some (.bool false) := cell_of_row _ _ _ _ 252 _ hg
  have o1 : w.cell? ⟨ob, 1, none⟩ = some dv := cell_of_row _ _ _ _ 261 _ ho
  have h23 : Hid _ := state_ok g w c8 c11
  obtain ⟨i5, hi, hz, hs1, hs2⟩ := u8info
  have hs64 : (s.size : Int) ≤ 9223372036854775807 := by omega
  have hl0 : ¬ ((s.size : Int) > 4096 - (len : Int)) := by omega
  go_enter Tryz.func102, Tryz.ntmps102
  go_wp2_with (go_at_call 148; refine Calls.mono h23.out ?_; rintro e w' ⟨rfl, rfl⟩)
  clear h23
  have f1 : w'.frozen? ⟨ob, 1, none⟩ = false := frozen_of_row _ _ _ _ 261 ho
  have hne := ne_own hown ho (by decide)
  have hneg := ne_own hown hg (by decide)
  have HO : Hid _ := hown
  clear hown c8 c11 c7
  go_region_law (refine step_text_own2 rfl (.tmp 42) (.tmp 43) 165 9 5 rfl Tryz.underlying165 Tryz.underlying9 i5 hi hz hs1 hs2 base k dv xs s (by simp [Act.eval]) (by simp [Act.eval]) (by exact HO.out) (by omega) (by exact hb) ?_; intro v2 w2 hO2 hG2 hq2; have ho2 : w2.heap[ob]? = some (.cells #[num, dv] 261 (0, 0)) := (grown_row hG2 ho hne); obtain ⟨a2, k2, hv2⟩ := own_shape hO2; subst hv2; have hg2 : w2.heap[g]? = some (.cells (dC K M C V objv (.pointer (some ⟨ob, 0, none⟩)) n len) 252 (0, 0)) := (grown_row hG2 hg hneg); have g2 : w2.cell? ⟨g, 5, none⟩ = some (.pointer (some ⟨ob, 0, none⟩)) := (cell_of_row _ _ _ _ 252 _ hg2); have o2 : w2.cell? ⟨ob, 1, none⟩ = some dv := (cell_of_row _ _ _ _ 261 _ ho2); have f2 : w2.frozen? ⟨ob, 1, none⟩ = false := (frozen_of_row _ _ _ _ 261 ho2))
  all_goals (
    have hne2 : g ≠ ob := fun e => by subst e; rw [hg] at ho; simp at ho
    have ho3 := set_heap w2 ob 1 (.slice a2 (k + s.size) k2) _ _ _ ho2
    have hg3 := (set_other w2 ob 1 g (.slice a2 (k + s.size) k2) hne2).trans hg2
    have q7 : (w2.setCell ⟨ob, 1, none⟩ (.slice a2 (k + s.size) k2)).cell? ⟨g, 7, none⟩ = some (.int .i64 len) := cell_of_row _ _ _ _ 252 _ hg3
    have f7 : (w2.setCell ⟨ob, 1, none⟩ (.slice a2 (k + s.size) k2)).frozen? ⟨g, 7, none⟩ = false := frozen_of_row _ _ _ _ 252 hg3
    have hsl : (len : Int) + (s.size : Int) ≤ 9223372036854775807 := by omega
    have HQ2 : Hid _ := hq2
    clear o2 f2 g2 f1 c5 o1 hq2
    go_wp2
    go_ret2
    exact ⟨by simp, dwrite_end2 g ob K M C V n len k base num objv dv _ xs s w'.drew w2 hne2 hg2 ho2 hO2 hG2 HQ2.out⟩)
end Go.Proofs.YtadinjaocnlglaaGreatDoor
namespace Go.Proofs.YtadinjaocnlglaaGreatDoor
open Go.RowKit Go.Maps
set_option maxRecDepth 100000
set_option maxHeartbeats 1000000
theorem strCells_app (a b : ByteArray) : Lib.strCells (a ++ b) = Lib.strCells a ++ Lib.strCells b := by
  rw [Lib.strCells_eq, Lib.strCells_eq, Lib.strCells_eq, ← Lib.byteCells_append]; simp
/-- the last object's data made longer -/
theorem OM.wrote {w w' : World} {S : Nat → Prop} {r : List (ByteArray × ByteArray)} {o : ByteArray × ByteArray} {m g : Nat} {D : DataW Nat} {B : Nat → Nat} {Dv : Nat → Value} {dv' : Value} (h : OM w S (r ++ [o]) m D B Dv) (hlt : ∀ j, S j → j < w.heap.size) (s : ByteArray)
    (hc : w'.heap[B r.length]? = some (.cells #[.int .i64 r.length, dv'] 261 (0, 0))) (hr : w'.ownsRow 0 5 1 dv' (o.2.size + s.size) (Lib.strCells o.2 ++ Lib.strCells s))
    (hk : ∀ j, S j → j ≠ g → j ≠ B r.length → some j ≠ (Dv r.length).ownBlock → w'.heap[j]? = w.heap[j]?) (hg : ∃ cs, w.heap[g]? = some (.cells cs 252 (0, 0))) (hq : dv'.ownBlock = (Dv r.length).ownBlock ∨ ∃ q, dv'.ownBlock = some q ∧ w.heap.size ≤ q) :
    OM w' (fun j => S j ∨ dv'.ownBlock = some j) (r ++ [(o.1, o.2 ++ s)]) m D B (fun i => if i = r.length then dv' else Dv i) := by
  have hl0 : r.length < (r ++ [o]).length := by simp
  have hlen : (r ++ [(o.1, o.2 ++ s)]).length = (r ++ [o]).length := by simp
  obtain ⟨cs, hg⟩ := hg
  have hcm := h.cell r.length hl0
  have hkm : w'.heap[m]? = w.heap[m]? := by
    obtain ⟨es, ck, h1, _⟩ := h.map
    refine hk m h.sm (fun e => by rw [e, hg] at h1; cases h1) (fun e => by rw [e, hcm] at h1; cases h1) (fun e => ?_)
    obtain ⟨cur, hc'⟩ := own_type (h.row r.length hl0) m e.symm
    rw [h1] at hc'; cases hc'
  have hkB : ∀ i, i < (r ++ [o]).length → i ≠ r.length → w'.heap[B i]? = w.heap[B i]? := fun i hi hne => by
    have hci := h.cell i hi
    refine hk _ (h.sB i hi) (fun e => by rw [e, hg] at hci; simp at hci) (fun e => h.injB i r.length hi hl0 hne e) (fun e => ?_)
    obtain ⟨cur, hc'⟩ := own_type (h.row r.length hl0) _ e.symm
    rw [hci] at hc'; simp at hc'
  have hkD : ∀ i, (hi : i < (r ++ [o]).length) → i ≠ r.length → ∀ q, (Dv i).ownBlock = some q → w'.heap[q]? = w.heap[q]? := fun i hi hne q hq' => by
    obtain ⟨cur, hc'⟩ := own_type (h.row i hi) q hq'
    refine hk q (h.sD i hi q hq') (fun e => by rw [e, hg] at hc'; simp at hc') (fun e => by rw [e, hcm] at hc'; simp at hc') (fun e => ?_)
    exact h.injD i r.length q hi hl0 hne hq' e.symm
  have hget : ∀ i (hi : i < (r ++ [o]).length) (hi' : i < (r ++ [(o.1, o.2 ++ s)]).length), ((r ++ [(o.1, o.2 ++ s)])[i]).1 = ((r ++ [o])[i]).1 := fun i hi hi' => by
    by_cases h1 : i < r.length
    · rw [List.getElem_append_left h1, List.getElem_append_left h1]
    · have : i = r.length := by simp at hi; omega
      subst this; simp
  have hgetn : ∀ i (hi : i < (r ++ [o]).length) (hi' : i < (r ++ [(o.1, o.2 ++ s)]).length), i ≠ r.length → ((r ++ [(o.1, o.2 ++ s)])[i]) = ((r ++ [o])[i]) := fun i hi hi' hne => by
    have h1 : i < r.length := by simp at hi; omega
    rw [List.getElem_append_left h1, List.getElem_append_left h1]
  refine ⟨.inl h.sm, by rw [hlen]; exact map_kept h.map hkm, ?_, ?_, ?_, ?_, ?_, ?_, ?_, ?_⟩
  · have h1 := h.keys
    rw [List.map_append] at h1 ⊢
    exact h1
  · intro i hi
    have hi' := hi
    rw [hlen] at hi'
    rw [hget i hi' hi]; exact h.key i hi'
  · intro i hi
    rw [hlen] at hi
    by_cases hne : i = r.length
    · subst hne; rw [if_pos rfl]; exact hc
    · rw [if_neg hne, hkB i hi hne]; exact h.cell i hi
  · intro i hi
    have hi' := hi
    rw [hlen] at hi'
    by_cases hne : i = r.length
    · subst hne
      simp only [if_pos, List.getElem_concat_length]
      rw [ByteArray.size_append, strCells_app]; exact hr
    · simp only [if_neg hne, hgetn i hi' hi hne]; exact own_kept (h.row i hi') (hkD i hi' hne)
  · intro i hi
    rw [hlen] at hi
    exact .inl (h.sB i hi)
  · intro i hi q hq'
    rw [hlen] at hi
    by_cases hne : i = r.length
    · subst hne; rw [if_pos rfl] at hq'; exact .inr hq'
    · rw [if_neg hne] at hq'; exact .inl (h.sD i hi q hq')
  · intro i j hi hj hne
    rw [hlen] at hi hj
    exact h.injB i j hi hj hne
  · intro i j q hi hj hne hq'
    rw [hlen] at hi hj
    by_cases h1 : i = r.length
    · subst h1
      rw [if_pos rfl] at hq'
      rw [if_neg (fun e => hne e.symm)]
      rcases hq with hq | ⟨q2, hq, hs⟩
      · rw [hq] at hq'; exact h.injD _ j q hi hj hne hq'
      · rw [hq] at hq'
        obtain rfl := Option.some.inj hq'
        intro e
        have := hlt _ (h.sD j hj _ e); omega
    · rw [if_neg h1] at hq'
      by_cases h2 : j = r.length
      · subst h2
        rw [if_pos rfl]
        rcases hq with hq | ⟨q2, hq, hs⟩
        · rw [hq]; exact h.injD i _ q hi hj hne hq'
        · rw [hq]
          intro e
          obtain rfl := Option.some.inj e
          have := hlt _ (h.sD i hi _ hq'); omega
      · rw [if_neg h2]; exact h.injD i j q hi hj hne hq'
theorem dwrite_any (g : Nat) (S : Nat → Prop) (A : AW) (s : ByteArray) (w : World) (hI : DI g S A w) (hA : A.ok) :
    Calls Tryz.prog 102 #[.pointer (some ⟨g, 0, none⟩), .string s] w fun e w' => ∃ v, e = .returned (.tuple #[.int .i64 (if A.wrE s = [] then (s.size : Int) else 0), v]) ∧ (ErrAt w' v (A.wrE s) ∧ Did g S (A.wrA s) w w') := by
  by_cases hs : A.state = []
  · obtain ⟨obj, last, hg0, hO⟩ := hI.cells
    obtain ⟨m, D, B, Dv, rfl, hlast, hM⟩ := hO hs
    have hg := state_cells hs hg0
    have c5 : w.cell? ⟨g, 5, none⟩ = some last := cell_of_row _ _ _ _ 252 _ hg
    have c7 : w.cell? ⟨g, 7, none⟩ = some (.int .i64 A.tot) := cell_of_row _ _ _ _ 252 _ hg
    have c8 : w.cell? ⟨g, 8, none⟩ = some (.bool false) := cell_of_row _ _ _ _ 252 _ hg
    have c11 : w.cell? ⟨g, 11, none⟩ = some (.bool false) := cell_of_row _ _ _ _ 252 _ hg
    have hcl := (state_nil hs).1
    have hbr := (state_nil hs).2
    have htot := hA.tot
    by_cases h0 : A.n = 0
    · have e1 : A.wrE s = [(5, -1)] := by unfold AW.wrE; rw [if_pos hs, if_pos h0]
      have e2 : A.wrA s = A := by unfold AW.wrA; rw [if_pos hs, if_pos h0]
      rw [e1, e2]
      have hl : last = .pointer none := by rw [hlast]; unfold lastV; rw [if_pos h0]
      rw [hl] at c5
      refine (dwrite_none g s w c8 c11 c5).mono ?_
      rintro e w' ⟨v, rfl, hE, hb⟩
      exact ⟨v, rfl, hE, Did.same hI hb⟩
    · have hl : last = .pointer (some ⟨B (A.n - 1), 0, none⟩) := by rw [hlast]; unfold lastV; rw [if_neg h0]
      by_cases hbig : 4096 < A.tot + s.size
      · have e1 : A.wrE s = [(4, (A.tot : Int))] := by unfold AW.wrE; rw [if_pos hs, if_neg h0, if_pos hbig]
        have e2 : A.wrA s = { A with br := some (4, (A.tot : Int)) } := by unfold AW.wrA; rw [if_pos hs, if_neg h0, if_pos hbig]
        rw [e1, e2]
        rw [hl] at c5
        refine dwrite_big g A.tot _ s w (fun v w' => ErrAt w' v [(4, (A.tot : Int))] ∧ Did g S { A with br := some (4, (A.tot : Int)) } w w') c8 c11 c5 c7 htot hbig ?_
        refine (breakOff_any 4 A.tot g _ _ _ _ A.n A.tot _ last _ _ _ _ w hg0).mono ?_
        rintro e w' ⟨v, he, hE, hg', hf⟩
        exact ⟨v, he, hE, Did.broke hI hs hg' hf⟩
      · have e1 : A.wrE s = [] := by unfold AW.wrE; rw [if_pos hs, if_neg h0, if_neg hbig]
        have e2 : A.wrA s = { A with ob := addL s A.ob } := by unfold AW.wrA; rw [if_pos hs, if_neg h0, if_neg hbig]
        rw [e1, e2]
        obtain ⟨r, o, hro⟩ := snoc_of (l := A.ob) h0
        have hn1 : A.n - 1 = r.length := by unfold AW.n; rw [hro]; simp
        have hM' := hM
        rw [hro] at hM'
        have hl0 : r.length < (r ++ [o]).length := by simp
        have hrow := hM'.row r.length hl0
        rw [List.getElem_concat_length rfl] at hrow
        have hcell := hM'.cell r.length hl0
        have hos : o.2.size ≤ 4096 := by
          have : A.tot = sumL r + o.2.size := by unfold AW.tot; rw [hro, sumL_app]; simp [sumL]
          omega
        rw [hl, hn1] at hg
        refine (dwrite2 g (B r.length) A.K A.M A.C A.V A.n A.tot o.2.size 0 _ _ (Dv r.length) _ s w hg hcell hrow (Nat.zero_le _) (by omega) hos).mono ?_
        rintro e w' ⟨rfl, dv', b1, b2, b3, b4, b5, b6, b7⟩
        refine ⟨.nilIface, by simp, rfl, fun j => S j ∨ dv'.ownBlock = some j, ⟨.inl hI.sg, ?_, ?_⟩, ?_, ?_⟩
        · intro j hj
          rcases hj with hj | hj
          · have := hI.lt j hj; omega
          · exact own_lt b3 j hj
        · refine ⟨.map (some m), .pointer (some ⟨B r.length, 0, none⟩), ?_, fun _ => ⟨m, D, B, fun i => if i = r.length then dv' else Dv i, rfl, ?_, ?_⟩⟩
          · have h1 : ({ A with ob := addL s A.ob } : AW).n = A.n := addL_len s A.ob
            have h2 : ({ A with ob := addL s A.ob } : AW).tot = A.tot + s.size := addL_sum s A.ob h0
            have h3 : ({ A with ob := addL s A.ob } : AW).fst = A.fst := rfl
            rw [h1, h2, h3, b1, dC_Z]
            simp [AW.fst, hcl, hbr]
          · have h1 : ({ A with ob := addL s A.ob } : AW).n = A.n := addL_len s A.ob
            unfold lastV
            rw [h1, if_neg h0, hn1]
          · show OM w' _ (addL s A.ob) m D B (fun i => if i = r.length then dv' else Dv i)
            rw [hro, addL_snoc]
            exact OM.wrote (g := g) hM' hI.lt s b2 b3 (fun j hj h1 h2 h3 => b5 j (hI.lt j hj) h1 h2 h3) ⟨_, hg⟩ b7
        · intro j hj
          rcases hj with hj | hj
          · exact .inl hj
          · rcases b7 with h7 | ⟨q, h7, h8⟩
            · rw [h7] at hj; exact .inl (hM'.sD r.length hl0 j hj)
            · rw [h7] at hj; obtain rfl := Option.some.inj hj; exact .inr h8
        · refine ⟨b4, fun j hj hn' => b5 j hj (fun e => hn' (by rw [e]; exact hI.sg)) (fun e => hn' (by rw [e]; exact hM'.sB _ hl0)) (fun e => hn' (hM'.sD r.length hl0 j e.symm)), b6⟩
  · have e1 : A.wrE s = A.state := by unfold AW.wrE; rw [if_neg hs]
    have e2 : A.wrA s = A := by unfold AW.wrA; rw [if_neg hs]
    rw [e1, e2, if_neg hs]
    refine (dwrite_state g s A.state w hs (state_any g S A w hI hs)).mono ?_
    rintro e w' ⟨v, he, hE, hb⟩
    exact ⟨v, he, hE, Did.same hI hb⟩
end Go.Proofs.YtadinjaocnlglaaGreatDoor
