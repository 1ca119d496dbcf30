/-
  vault.Open, and vaultkeep's opened.
  The walk of Stock.data.
  The walk of Stock.data.
-/
import Derived.Test.YtadinjaocnlglaaGreatDoorZ35
namespace Go.Proofs.YtadinjaocnlglaaGreatDoor
open Go.RowKit
set_option maxRecDepth 100000
set_option maxHeartbeats 4000000
theorem SS.vs {kt : Nat → Int} {B k g p q f : Nat} {T : TT} {un : Value} {ul : List Nat} {rd : Nat → Bool} {bl : Nat → ByteArray} {w : World} (h : SS B k g p q f T un rd bl w) (hu : w.ownsRow B 3 1 un ul.length (unV ul)) : VS kt B k g p q f T un ul rd bl (fun _ => false) (fun _ => 0) (fun _ => .slice none 0 0) w where
  row := h.row
  hd := h.hd
  unO := hu
  rdR := h.rdR
  blR := by rw [blD_none]; exact h.blR
  fiR := h.fiR.to (fun j _ => by simp [piF, fiP])
  fn := fun s _ hd => by cases hd
/-- volumes that can be opened -/
def Opn (kt : Nat → Int) (rt : ByteArray) (L : Nat → ByteArray) (n : Nat) (s : OS) (t0 : ByteArray) : Prop := (rt.size = 0 ∨ rt.size = 32) ∧ OS.run kt rt 0 (texL L n) OS.new = .ok s ∧ s.hd = some t0
/-- a Vault that was opened -/
def VNew (kt : Nat → Int) (rt : ByteArray) (L : Nat → ByteArray) (n B v : Nat) (w : World) : Prop :=
  ∃ s t0 k g p q f un, Opn kt rt L n s t0 ∧ rdE kt t0 = none ∧ B ≤ v ∧ (B ≤ q ∧ B ≤ f) ∧ VL v k 0 w ∧ VS kt B k g p q f (RS.on t0).told un s.un s.rd s.bl (fun _ => false) (fun _ => 0) (fun _ => .slice none 0 0) w
/-- what vault.Open has answered -/
def VOp (kt : Nat → Int) (rt : ByteArray) (L : Nat → ByteArray) (n : Nat) (w : World) (e : Ending) (w' : World) : Prop := Below w.heap.size w w' ∧
  (((∃ z, e = .returned (.tuple #[.pointer none, .iface 305 (.pointer (some ⟨z, 0, none⟩))])) ∧ ∀ s t0, ¬ Opn kt rt L n s t0) ∨ ∃ v, e = .returned (.tuple #[.pointer (some ⟨v, 0, none⟩), .nilIface]) ∧ VNew kt rt L n w.heap.size v w')
theorem vopen (kt : Nat → Int) (rt : ByteArray) (L : Nat → ByteArray) (n : Nat) (v : Value) (w : World) (hG : Gd kt w) (hn : n ≤ 10000000000000) (hL : ∀ i, i < n → (L i).size ≤ 140737488351232) (hv : (n = 0 ∧ v = .slice none 0 0) ∨ ∃ b cap, v = .slice (some ⟨b, 0, none⟩) n cap ∧ b < w.heap.size ∧ Cl w b n (tI L)) :
    Calls Tryz.prog 60 #[v, .string rt] w fun e w' => VOp kt rt L n w e w' := by
  have HS : Hid (Calls Tryz.prog 104 #[v, .string rt] w fun e w' => Below w.heap.size w w' ∧ (((∃ z, e = .returned (.tuple #[.pointer none, .iface 305 (.pointer (some ⟨z, 0, none⟩))])) ∧ ∀ s t0, ¬ Opn kt rt L n s t0) ∨ ∃ k s t0 g p q f un, e = .returned (.tuple #[.pointer (some ⟨k, 0, none⟩), .nilIface]) ∧ Opn kt rt L n s t0 ∧ rdE kt t0 = none ∧ (w.heap.size ≤ q ∧ w.heap.size ≤ f) ∧ VS kt w.heap.size k g p q f (RS.on t0).told un s.un s.rd s.bl (fun _ => false) (fun _ => 0) (fun _ => .slice none 0 0) w')) := by
    by_cases hrt : rt.size = 0 ∨ rt.size = 32
    · rcases hv with ⟨rfl, rfl⟩ | ⟨b, cap, rfl, hb, hC⟩
      · refine Calls.mono (sopen_nil rt w hrt) ?_
        rintro e w' ⟨v, rfl, ⟨z, hz, _⟩, hB⟩
        cases hz
        refine ⟨hB, .inl ⟨⟨z, rfl⟩, fun s t0 ho => ?_⟩⟩
        obtain ⟨_, h1, h2⟩ := ho
        cases h1
        cases h2
      · refine Calls.mono (sopen kt rt L b n cap w hG hb hC hn hL hrt) ?_
        rintro e w' ⟨hO, hB⟩
        refine ⟨hB, ?_⟩
        unfold OpD at hO
        cases hr : OS.run kt rt 0 (texL L n) OS.new with
        | error ab =>
          obtain ⟨a, b'⟩ := ab
          rw [hr] at hO
          obtain ⟨v, rfl, z, hz, _⟩ := hO
          cases hz
          exact .inl ⟨⟨z, rfl⟩, fun s t0 ho => by have := ho.2.1; rw [hr] at this; cases this⟩
        | ok s =>
          rw [hr] at hO
          rcases hO with ⟨hd, v, rfl, h0, h1⟩ | ⟨hd, k, rfl, hI⟩
          · refine .inl ⟨?_, fun s' t0 ho => by have := ho.2.1; rw [hr] at this; cases this; have := ho.2.2; rw [hd] at this; cases this⟩
            rcases Nat.eq_zero_or_pos n with hn0 | hn0
            · obtain ⟨z, hz, _⟩ := h0 hn0
              cases hz
              exact ⟨z, rfl⟩
            · have hb := first_bad hr hn0 hd
              cases hs : sdE kt rt (L 0) with
              | none => exact absurd hs hb
              | some kp =>
                obtain ⟨z, y, x, hz, _⟩ := h1 hn0 kp.1 kp.2 hs
                cases hz
                exact ⟨_, rfl⟩
          · obtain ⟨un, hun, hc⟩ := hI
            rcases hc with ⟨e, _⟩ | ⟨t0, g, p, q, f, hd0, hr0, hpB, hqB, hfB, hS⟩
            · exact absurd e hd
            · exact .inr ⟨k, s, t0, g, p, q, f, un, rfl, ⟨hrt, hr, hd0⟩, hr0, ⟨hqB, hfB⟩, hS.vs hun⟩
    · refine Calls.mono (sopen_root rt v w (fun e => hrt (.inl e)) (fun e => hrt (.inr e))) ?_
      rintro e w' ⟨z, rfl, _, hB⟩
      exact ⟨hB, .inl ⟨⟨z, rfl⟩, fun s t0 ho => hrt ho.1⟩⟩
  clear hG hn hL hv
  go_enter Tryz.func60, Tryz.ntmps60
  go_wp2_with fail
  refine Calls.mono HS.out ?_
  rintro e w1 ⟨hB, ⟨⟨z, rfl⟩, hno⟩ | ⟨k, s, t0, g, p, q, f, un, rfl, hop, hr0, hq, hV⟩⟩
  · have HB : Hid _ := hB
    have HN : Hid _ := hno
    clear hB hno
    go_wp2_with fail
    go_ret2
    exact ⟨HB.out, .inl ⟨⟨z, rfl⟩, HN.out⟩⟩
  · have hbA : Below w1.heap.size w1 (w1.alloc (.cells (wC 0 k) 159)) := (Below.refl _ _).alloc (Nat.le_refl _) _
    have HE : Hid (VNew kt rt L n w.heap.size w1.heap.size (w1.alloc (.cells (wC 0 k) 159))) := ⟨s, t0, k, g, p, q, f, un, hop, hr0, hB.size, hq, heap_alloc_new _ _, hV.below hbA⟩
    have HB : Hid (Below w.heap.size w (w1.alloc (.cells (wC 0 k) 159))) := hB.trans (hbA.mono hB.size)
    clear hB hop hr0 hq hV hbA
    go_wp2_with fail
    go_ret2
    exact ⟨HB.out, .inr ⟨w1.heap.size, rfl, HE.out⟩⟩
/-- a list that was handed in -/
def RawT (w : World) (a : Option Addr) (n cap : Nat) (L : Nat → ByteArray) : Prop := (a = none ∧ n = 0 ∧ cap = 0) ∨ ∃ ad : Addr, a = some ad ∧ ∀ i, i < n → ∃ b off, ad = ⟨b, off, none⟩ ∧ b < w.heap.size ∧ w.cell? ⟨b, off + i, none⟩ = some (.string (L i))
theorem info9p : (Tryz.prog.info? 9).map (fun i => (i.zero, i.size, i.bytes)) = some (some (.string ⟨#[]⟩), 1, 16) := by kernel_rfl
/-- its copy -/
theorem own_copy (w : World) (a : Option Addr) (n cap : Nat) (L : Nat → ByteArray) (h : RawT w a n cap L) (hn : n * 16 ≤ 140737488351232) : ∃ v w', (Builtin.append_ #[42, 42] 42 #[.slice none 0 0, .slice a n cap]).run Tryz.prog w = .ok v w' ∧ ((n = 0 ∧ v = .slice none 0 0) ∨ (0 < n ∧ w'.ownsRow w.heap.size 9 1 v n (tV L n))) ∧ Below w.heap.size w w' := by
  obtain ⟨i0, hi0, z0, z1, z2⟩ := info_parts info9p
  have hnil : w.ownsRow w.heap.size 9 1 (.slice none 0 0) 0 [] := ⟨rfl, .inl ⟨rfl, rfl⟩⟩
  rcases h with ⟨rfl, rfl, rfl⟩ | ⟨ad, rfl, hc⟩
  · exact ⟨_, w, run_append_owned_none _ w.heap.size 42 42 9 i0 1 Tryz.underlying42 hi0 _ 0 [] hnil, .inl ⟨rfl, rfl⟩, Below.refl _ _⟩
  · obtain ⟨v', w', hr, ho, hg, hiff⟩ := run_append_own (P := Tryz.prog) w w.heap.size 42 42 9 i0 (.string ⟨#[]⟩) 1 16 Tryz.underlying42 hi0 z0 z1 z2 rfl (by decide) (.slice none 0 0) 0 [] hnil ad n cap (tV L n) (by rw [tV_len]; omega) (fun j u hj => by
      have hjn : j < n := by have := (List.getElem?_eq_some_iff.1 hj).1; rwa [tV_len] at this
      obtain ⟨b, off, rfl, _, h2⟩ := hc j hjn
      rw [Addr.add_lit, h2]
      simp [tV, hjn] at hj
      rw [hj]) (tV_one _ _) (by unfold maxLen; omega) (by omega) (Nat.le_refl _)
    rw [Nat.zero_add, List.nil_append] at ho
    have hB : Below w.heap.size w w' := (Below.refl _ _).grown hg (Nat.le_refl _) (fun y hy => by cases hy)
    rcases Nat.eq_zero_or_pos n with h0 | h0
    · exact ⟨v', w', hr, .inl ⟨h0, hiff.2 ⟨rfl, h0⟩⟩, hB⟩
    · exact ⟨v', w', hr, .inr ⟨h0, ho⟩, hB⟩
theorem own_row9 {w : World} {B n : Nat} {v : Value} {L : Nat → ByteArray} (h : w.ownsRow B 9 1 v n (tV L n)) (hn : 0 < n) : ∃ g cap, v = .slice (some ⟨g, 0, none⟩) n cap ∧ B ≤ g ∧ g < w.heap.size ∧ Cl w g n (tI L) := by
  rcases h.2 with ⟨_, h0⟩ | ⟨g, cap, cur, hv, hb, hh, _⟩
  · omega
  · refine ⟨g, cap, hv, hb, (Array.getElem?_eq_some_iff.1 hh).1, fun i hi => ?_⟩
    have := h.cells (g := g) (by rw [hv]; rfl) i (.string (L i)) (by simp [tV, hi])
    rw [Addr.add_lit, Nat.zero_add] at this
    exact this
/-- what opened has answered -/
def KOp (kt : Nat → Int) (rt : ByteArray) (L : Nat → ByteArray) (n : Nat) (w : World) (e : Ending) (w' : World) : Prop := Below w.heap.size w w' ∧
  ((e = .returned (.pointer none) ∧ ∀ s t0, ¬ Opn kt rt L n s t0) ∨ ∃ B v, e = .returned (.pointer (some ⟨v, 0, none⟩)) ∧ w.heap.size ≤ B ∧ B ≤ w'.heap.size ∧ VNew kt rt L n B v w')
theorem opened_any (kt : Nat → Int) (rt : ByteArray) (L : Nat → ByteArray) (a : Option Addr) (n cap : Nat) (w : World) (hG : Gd kt w) (hn : n * 16 ≤ 140737488351232) (hL : ∀ i, i < n → (L i).size ≤ 140737488351232) (hR : RawT w a n cap L) :
    Calls Tryz.prog 21 #[.slice a n cap, .string rt] w fun e w' => KOp kt rt L n w e w' := by
  obtain ⟨v', w1, hr, hcase, hB⟩ := own_copy w a n cap L hR hn
  have HV : Hid _ := vopen kt rt L n v' w1 (hG.below hB) (by omega) hL (by
    rcases hcase with h | ⟨h0, ho⟩
    · exact .inl h
    · obtain ⟨g, c, rfl, _, hg, hC⟩ := own_row9 ho h0
      exact .inr ⟨g, c, rfl, hg, hC⟩)
  have HRUN : Hid _ := hr
  have HB : Hid _ := hB
  clear hr hcase hB hL hR hG
  go_enter Tryz.func21, Tryz.ntmps21
  go_wp2_with (at_builtin; refine wpList_app rfl (.tmp 8) (.tmp 9) 42 rfl _ _ _ (by simp [Act.eval]) (by simp [Act.eval]) _ HRUN.out ?_)
  refine Calls.mono HV.out ?_
  rintro e w2 ⟨hB2, ⟨⟨z, rfl⟩, hno⟩ | ⟨v, rfl, hVN⟩⟩
  · have HB2 : Hid _ := HB.out.trans (hB2.mono HB.out.size)
    have HN : Hid _ := hno
    clear hB2 hno
    go_wp2_with fail
    go_ret
    exact ⟨HB2.out, .inl ⟨rfl, HN.out⟩⟩
  · have HB2 : Hid _ := HB.out.trans (hB2.mono HB.out.size)
    have HSZ : Hid _ := hB2.size
    have HN : Hid _ := hVN
    clear hB2 hVN
    go_wp2_with fail
    go_ret
    exact ⟨HB2.out, .inr ⟨w1.heap.size, v, rfl, HB.out.size, HSZ.out, HN.out⟩⟩
end Go.Proofs.YtadinjaocnlglaaGreatDoor
namespace Go.Proofs.YtadinjaocnlglaaGreatDoor
open Go.RowKit
set_option maxRecDepth 100000
set_option maxHeartbeats 4000000
/-- a stripe's data -/
def stD (kt : Nat → Int) (T : TT) (bl : Nat → ByteArray) (s : Nat) : ByteArray := jT (stM kt T bl s) T.L.K
/-- a byte of the stream -/
def byteS (kt : Nat → Int) (T : TT) (bl : Nat → ByteArray) (x : Nat) : UInt8 := (stD kt T bl (x / (T.L.K * T.L.C))).data.toList.getD (x % (T.L.K * T.L.C)) 0
/-- the stream from one place to another -/
def strS (kt : Nat → Int) (T : TT) (bl : Nat → ByteArray) (a b : Nat) : List UInt8 := (List.range (b - a)).map fun i => byteS kt T bl (a + i)
theorem strS_len (kt : Nat → Int) (T : TT) (bl : Nat → ByteArray) (a b : Nat) : (strS kt T bl a b).length = b - a := by simp [strS]
theorem strS_app (kt : Nat → Int) (T : TT) (bl : Nat → ByteArray) (a b c : Nat) (h1 : a ≤ b) (h2 : b ≤ c) : strS kt T bl a c = strS kt T bl a b ++ strS kt T bl b c := by
  unfold strS
  have e : c - a = (b - a) + (c - b) := by omega
  rw [e, List.range_add, List.map_append, List.map_map]
  congr 1
  apply List.map_congr_left
  intro i _
  show byteS kt T bl (a + (b - a + i)) = byteS kt T bl (b + i)
  congr 1
  omega
/-- a piece of one stripe -/
theorem strS_in {kt : Nat → Int} {T : TT} {bl : Nat → ByteArray} {s a b z : Nat} (hz : T.L.K * T.L.C = z) (h0 : s * z ≤ a) (h1 : a ≤ b) (h2 : b ≤ s * z + z) (hs : (stD kt T bl s).size = z) : ((stD kt T bl s).extract (a - s * z) (b - s * z)).data.toList = strS kt T bl a b := by
  rw [ext_list]
  apply List.ext_getElem?
  intro i
  unfold strS
  by_cases hi : i < b - a
  · rw [List.getElem?_take, if_pos (by omega), List.getElem?_drop, List.getElem?_map, List.getElem?_range hi]
    have hlt : a - s * z + i < z := by omega
    have hd := div_of (s := s) (n := z) (i := a - s * z + i) hlt
    have e : s * z + (a - s * z + i) = a + i := by omega
    rw [e] at hd
    show (stD kt T bl s).data.toList[a - s * z + i]? = some (byteS kt T bl (a + i))
    unfold byteS
    rw [hz, hd.1, hd.2, List.getD_eq_getElem?_getD, List.getElem?_eq_getElem (by rw [dl]; omega)]
    rfl
  · rw [List.getElem?_take, if_neg (by omega), List.getElem?_eq_none (by simp; omega)]
theorem bldAt_kept {B b : Nat} {p : Value} {bs : List Value} {w w' : World} (h : Lib.BuilderAtF 310 5 B b p bs w) (ho : ∀ (j : Nat) (cs : Array Value) (t : TypeId) (fz : Nat × Nat), t = 310 ∨ t = 5 → w.heap[j]? = some (.cells cs t fz) → w'.heap[j]? = some (.cells cs t fz)) : Lib.BuilderAtF 310 5 B b p bs w' := by
  obtain ⟨h1, v, h2, h3, h4⟩ := h
  refine ⟨h1, v, ho _ _ _ _ (.inl rfl) h2, ⟨h3.1, ?_⟩, h4⟩
  rcases h3.2 with h | ⟨g, cap, cur, fz, hv, hg, hh, rest⟩
  · exact .inl h
  · exact .inr ⟨g, cap, cur, fz, hv, hg, ho _ _ _ _ (.inr rfl) hh, rest⟩
theorem Bld.kept {b : Nat} {l : List UInt8} {w w' : World} (h : Bld b l w) (ho : ∀ (j : Nat) (cs : Array Value) (t : TypeId) (fz : Nat × Nat), t = 310 ∨ t = 5 → w.heap[j]? = some (.cells cs t fz) → w'.heap[j]? = some (.cells cs t fz)) : Bld b l w' := by
  rcases h with h | h
  · exact .inl (bldAt_kept h ho)
  · exact .inr (bldAt_kept h ho)
theorem row_neF {w : World} {a b : Nat} {cs cs' : Array Value} {t t' : TypeId} {fz fz' : Nat × Nat} (h : w.heap[a]? = some (.cells cs t fz)) (h' : w.heap[b]? = some (.cells cs' t' fz')) (ht : t ≠ t') : a ≠ b := fun e => by
  rw [e, h'] at h
  simp only [Option.some.injEq, Obj.cells.injEq] at h
  exact ht h.2.1.symm
/-- a Builder beside a Stock whose stripes are worked out -/
theorem VS.bld {kt : Nat → Int} {B k g p q f : Nat} {T : TT} {un : Value} {ul : List Nat} {rd : Nat → Bool} {bl : Nat → ByteArray} {dn : Nat → Bool} {zs : Nat → Nat} {bd : Nat → Value} {w w' : World} {b : Nat} {l : List UInt8} (h : VS kt B k g p q f T un ul rd bl dn zs bd w) (hb : Bld b l w) (hF : Fr (fun j => j = q ∨ j = f) w w') : Bld b l w' :=
  hb.kept (fun j cs t fz ht hj => by
    rw [hF.old j (Array.getElem?_eq_some_iff.1 hj).1 (fun e => by
      rcases e with e | e
      · exact row_neF hj h.blR (by rcases ht with e | e <;> simp [e]) e
      · exact row_neF hj h.fiR (by rcases ht with e | e <;> simp [e]) e)]
    exact hj)
/-- a Stock beside a Builder that was written -/
theorem VS.oth {kt : Nat → Int} {B k g p q f : Nat} {T : TT} {un : Value} {ul : List Nat} {rd : Nat → Bool} {bl : Nat → ByteArray} {dn : Nat → Bool} {zs : Nat → Nat} {bd : Nat → Value} {w w' : World} {b : Nat} {cs0 : Array Value} (h : VS kt B k g p q f T un ul rd bl dn zs bd w) (hb : w.heap[b]? = some (.cells cs0 310 (0, 0))) (hO : Oth b w w') : VS kt B k g p q f T un ul rd bl dn zs bd w' :=
  h.kept (fun j cs t ht hj => hO.row hj (row_ne hj hb (by rcases ht with e | e | e | e | e | e | e <;> simp [e])) (by rcases ht with e | e | e | e | e | e | e <;> simp [e])) (fun j hj => by
    have h3 : ∃ cur, w.heap[j]? = some (.cells cur 3 (0, 0)) := by
      rcases hj with e | ⟨s, hs, hd, e⟩
      · exact own_type h.unO j e
      · exact own_type (h.fn s hs hd).2 j e
    obtain ⟨cur, hcur⟩ := h3
    rw [hO.row hcur (row_ne hcur hb (by decide)) (by decide), hcur])
theorem Bld.row {b : Nat} {l : List UInt8} {w : World} (h : Bld b l w) : ∃ cs, w.heap[b]? = some (.cells cs 310 (0, 0)) := by
  rcases h with ⟨_, v, h2, _⟩ | ⟨_, v, h2, _⟩
  · exact ⟨_, h2⟩
  · exact ⟨_, h2⟩
end Go.Proofs.YtadinjaocnlglaaGreatDoor
namespace Go.Proofs.YtadinjaocnlglaaGreatDoor
open Go.RowKit
set_option maxRecDepth 100000
set_option maxHeartbeats 8000000
theorem Fr.thenLow {S : Nat → Prop} {w w1 w2 : World} {c : Nat} (h : Fr S w w1) (hb : Below c w1 w2) (hc : w.heap.size ≤ c) : Fr S w w2 :=
  h.trans (S1 := fun j => S j ∨ w.heap.size ≤ j) (fun _ hj => hj) ⟨hb.size, fun j _ hn => hb.block j (Nat.lt_of_lt_of_le (Nat.lt_of_not_le (fun h => hn (.inr h))) hc), ⟨hb.os, hb.tape, hb.output⟩⟩
def DDid (kt : Nat → Int) (B k g p q f : Nat) (T : TT) (un : Value) (ul : List Nat) (rd : Nat → Bool) (bl : Nat → ByteArray) (a b : Nat) (w : World) (e : Ending) (w' : World) : Prop :=
  (∃ (dn' : Nat → Bool) (zs' : Nat → Nat) (bd' : Nat → Value), VS kt B k g p q f T un ul rd bl dn' zs' bd' w') ∧ Fr (fun j => j = q ∨ j = f) w w' ∧
    (((∀ x, a ≤ x → x < b → stF kt T bl (x / (T.L.K * T.L.C)) = 0) ∧ e = .returned (.tuple #[.string ⟨(strS kt T bl a b).toArray⟩, .bool true])) ∨ ((∃ x, a ≤ x ∧ x < b ∧ stF kt T bl (x / (T.L.K * T.L.C)) ≠ 0) ∧ e = .returned (.tuple #[.string ⟨#[]⟩, .bool false])))
theorem data_any (kt : Nat → Int) (B k g p q f a b : Nat) (T : TT) (un : Value) (ul : List Nat) (rd : Nat → Bool) (bl : Nat → ByteArray) (dn : Nat → Bool) (zs : Nat → Nat) (bd : Nat → Value) (w : World) (h : VS kt B k g p q f T un ul rd bl dn zs bd w) (hT : Told1 T) (hle : T.L.es.length ≤ 16 ∧ lenE T.L.es ≤ 4096) (hG : Gd kt w) (hB : B ≤ w.heap.size) (hab : a ≤ b) (hb : b ≤ lenE T.L.es) :
    Calls Tryz.prog 177 #[.pointer (some ⟨k, 0, none⟩), .int .i64 a, .int .i64 b] w fun e w' => DDid kt B k g p q f T un ul rd bl a b w e w' := by
  have H : Hid _ := h
  obtain ⟨aE, kE, num, first, vB, hg, hoE⟩ := h.hd
  have hk1 := hT.k1; have hkm := hT.km; have hc1 := hT.c1; have hc64 := hT.c64; have hcnt := hT.cnt
  obtain ⟨K, hKe⟩ : ∃ x, T.L.K = x := ⟨_, rfl⟩
  obtain ⟨M, hMe⟩ : ∃ x, T.L.M = x := ⟨_, rfl⟩
  obtain ⟨C, hCe⟩ : ∃ x, T.L.C = x := ⟨_, rfl⟩
  obtain ⟨V, hVe⟩ : ∃ x, T.L.V = x := ⟨_, rfl⟩
  have c0 : w.cell? ⟨k, 0, none⟩ = some (.pointer (some ⟨g, 0, none⟩)) := cell_of_row _ _ _ _ 224 _ h.row
  rw [hKe, hMe, hCe, hVe] at hg
  rw [hKe] at hk1 hkm
  rw [hMe] at hkm
  rw [hCe] at hc1 hc64
  have c2 : w.cell? ⟨g, 2, none⟩ = some (.int .i64 K) := cell_of_row _ _ _ _ 319 _ hg
  have c3 : w.cell? ⟨g, 3, none⟩ = some (.int .i64 M) := cell_of_row _ _ _ _ 319 _ hg
  have c4 : w.cell? ⟨g, 4, none⟩ = some (.int .i64 C) := cell_of_row _ _ _ _ 319 _ hg
  have c5 : w.cell? ⟨g, 5, none⟩ = some (.int .i64 V) := cell_of_row _ _ _ _ 319 _ hg
  obtain ⟨z, hz⟩ : ∃ z, K * C = z := ⟨_, rfl⟩
  have hz1 : 1 ≤ z := by rw [← hz]; exact Nat.mul_pos hk1 hc1
  have hz2 : z ≤ 16320 := by rw [← hz]; exact Nat.le_trans (Nat.mul_le_mul (show K ≤ 255 by omega) hc64) (by omega)
  have hzI : (K : Int) * (C : Int) = (z : Int) := by rw [← hz]; simp
  have hzT : T.L.K * T.L.C = z := by rw [hKe, hCe]; exact hz
  obtain ⟨n, hn⟩ : ∃ n, K + M = n := ⟨_, rfl⟩
  have hnT : T.n = n := by unfold TT.n; rw [hKe, hMe]; exact hn
  have hn0 : 0 < T.n := by rw [hnT]; omega
  have hnI : (K : Int) + (M : Int) = (n : Int) := by omega
  obtain ⟨cn, hcn⟩ : ∃ x, T.L.cnt = x := ⟨_, rfl⟩
  have hnsn : T.L.ns * n = cn := by rw [← hcn, ← hnT]; rfl
  rw [hcn] at hcnt
  have hns : ∀ x, x < b → x / z < T.L.ns := fun x hx => by
    have h1 : T.L.ns = nst z (lenE T.L.es) := by unfold LT.ns; rw [hzT]
    rw [h1]
    unfold nst
    rw [Nat.div_lt_iff_lt_mul hz1]
    have h2 := Nat.div_add_mod (lenE T.L.es + z - 1) z
    have h3 := Nat.mod_lt (lenE T.L.es + z - 1) hz1
    rw [Nat.mul_comm] at h2
    omega
  obtain ⟨W, hW⟩ : ∃ W, w.alloc (.cells #[.int .i64 K, .int .i64 M, .int .i64 C, .int .i64 V] 23) = W := ⟨_, rfl⟩
  obtain ⟨Y, hY⟩ : ∃ Y, W.alloc (.cells #[.pointer none, .slice none 0 0] 310) = Y := ⟨_, rfl⟩
  have hbW : Below w.heap.size w W := by rw [← hW]; exact (Below.refl _ _).alloc (Nat.le_refl _) _
  have hbY : Below W.heap.size W Y := by rw [← hY]; exact (Below.refl _ _).alloc (Nat.le_refl _) _
  obtain ⟨P, hP⟩ : ∃ P, w.heap.size = P := ⟨_, rfl⟩
  have hPW : W.heap[P]? = some (.cells #[.int .i64 K, .int .i64 M, .int .i64 C, .int .i64 V] 23 (0, 0)) := by rw [← hW, ← hP]; exact heap_alloc_new _ _
  have hWs : W.heap.size = P + 1 := by rw [← hW, ← hP]; simp
  have hPY : Y.heap[P]? = some (.cells #[.int .i64 K, .int .i64 M, .int .i64 C, .int .i64 V] 23 (0, 0)) := (hbY.block P (by omega)).trans hPW
  have hbld : Bld (P + 1) [] Y := by rw [← hY, ← hWs]; exact Bld.fresh W
  have x0 : W.cell? ⟨P, 0, none⟩ = some (.int .i64 K) := cell_of_row _ _ _ _ 23 _ hPW
  have x2 : W.cell? ⟨P, 2, none⟩ = some (.int .i64 C) := cell_of_row _ _ _ _ 23 _ hPW
  have HY : Hid (Below w.heap.size w Y) := hbW.trans (hbY.mono hbW.size)
  have HPY : Hid _ := hPY
  have HBL : Hid _ := hbld
  have HP : Hid (w.heap.size = P) := hP
  have HWS : Hid _ := hWs
  have HHY : Hid _ := hY
  have HLE : Hid _ := hle
  clear h hg hoE hbW hbY hPW hPY hbld hY hWs
  go_enter Tryz.func177, Tryz.ntmps177
  go_wp2_with fail
  obtain ⟨b0, hb0⟩ : ∃ x, P + 1 = x := ⟨_, rfl⟩
  rw [HHY.out, HWS.out, hb0]
  rw [hb0] at HBL
  have hPb : P < b0 := by omega
  clear x0 x2 c0 c2 c3 c4 c5 hW hb0
  go_loopw [1] (fun xv wr => ∃ (x : Nat) (dn' : Nat → Bool) (zs' : Nat → Nat) (bd' : Nat → Value), a ≤ x ∧ x ≤ b ∧ xv = .int .i64 x ∧ VS kt B k g p q f T un ul rd bl dn' zs' bd' wr ∧ Bld b0 (strS kt T bl a x) wr ∧ wr.heap[P]? = some (.cells #[.int .i64 K, .int .i64 M, .int .i64 C, .int .i64 V] 23 (0, 0)) ∧ Fr (fun j => j = q ∨ j = f) w wr ∧ ∀ y, a ≤ y → y < x → stF kt T bl (y / z) = 0) (fun xv _ => b - (intOf xv).toNat)
  case atStart => exact ⟨a, dn, zs, bd, Nat.le_refl _, hab, rfl, H.out.below HY.out, by rw [show strS kt T bl a a = [] by simp [strS]]; exact HBL.out, HPY.out, Fr.below HY.out, fun y h1 h2 => by omega⟩
  case round =>
    obtain ⟨x, dn1, zs1, bd1, hax, hxb, rfl, hV, hBl, hPr, hF, hok⟩ := hrel
    have HV : Hid _ := hV
    have HBl : Hid _ := hBl
    have HPr : Hid _ := hPr
    have HF : Hid _ := hF
    have HOK : Hid _ := hok
    by_cases hlt : x < b
    · have hlt' : (x : Int) < (b : Int) := by omega
      have hd := wrap_div x z (by omega)
      have hz0 : ((z : Int) == 0) = false := by simp; omega
      obtain ⟨s, hs⟩ : ∃ s, x / z = s := ⟨_, rfl⟩
      rw [hs] at hd
      have hin := in_stripe hz1 hs
      have hsn : s < T.L.ns := by rw [← hs]; exact hns x hlt
      have HST : Hid _ := stripe_any kt B k g p q f s T un ul rd bl dn1 zs1 bd1 wr hV hT HLE.out (H.out.gd hG hF) (Nat.le_trans hB hF.size) hsn
      have HS : Hid _ := hs
      clear hV hBl hPr hF hok hs
      go_wp2_with fail
      refine Calls.mono HST.out ?_
      rintro e w1 ⟨zs2, bd2, rfl, hV2, hF2, _, _⟩
      have hds : updB dn1 s true s = true := by simp [updB]
      obtain ⟨zr, _⟩ := hV2.fn s hsn hds
      obtain ⟨fa, hfa⟩ : ∃ x, stF kt T bl s = x := ⟨_, rfl⟩
      obtain ⟨zq, hzq⟩ : ∃ x, zs2 s = x := ⟨_, rfl⟩
      rw [hfa, hzq] at zr
      rw [hzq]
      have d1 : w1.cell? ⟨zq, 1, none⟩ = some (.int .i64 fa) := cell_of_row _ _ _ _ 231 _ zr
      have HV2 : Hid _ := hV2
      have HFA : Hid _ := hfa
      have HB2 : Hid (Bld b0 (strS kt T bl a x) w1) := HV.out.bld HBl.out hF2
      have HP2 : Hid (w1.heap[P]? = some (.cells #[.int .i64 K, .int .i64 M, .int .i64 C, .int .i64 V] 23 (0, 0))) := by
        show w1.heap[P]? = _
        rw [hF2.old P (Array.getElem?_eq_some_iff.1 HPr.out).1 (fun e => by
          rcases e with e | e
          · exact row_ne HPr.out HV.out.blR (by decide) e
          · exact row_ne HPr.out HV.out.fiR (by decide) e)]
        exact HPr.out
      have HF2 : Hid _ := HF.out.trans' hF2
      clear hV2 hF2 zr hzq hfa
      by_cases hf0 : fa = 0
      · have hf0' : ((fa : Int) != 0) = false := by simp [hf0]
        have HF0 : Hid (stF kt T bl s = 0) := HFA.out.trans hf0
        obtain ⟨bg, hbg⟩ : ∃ y, s * z = y := ⟨_, rfl⟩
        rw [hbg] at hin
        have hbgI : (s : Int) * (z : Int) = (bg : Int) := by rw [← hbg]; simp
        obtain ⟨u, hu⟩ : ∃ y, min b (bg + z) = y := ⟨_, rfl⟩
        have huI : min (b : Int) ((bg : Int) + (z : Int)) = (u : Int) := by omega
        obtain ⟨o, ho⟩ : ∃ y, s * n = y := ⟨_, rfl⟩
        have hoI : (s : Int) * (n : Int) = (o : Int) := by rw [← ho]; simp
        have hon : o + n ≤ cn := by rw [← hnsn, ← ho, ← Nat.succ_mul]; exact Nat.mul_le_mul_right n hsn
        have hoc : o < cn := by omega
        have hsl : ∀ X, (Instr.slice 42 (.slice (some ⟨q, 0, none⟩) cn cn) (some (.int .i64 (o : Nat))) none none).run Tryz.prog X = .ok (.slice (some ⟨q, o, none⟩) (cn - o) (cn - o)) X := fun X => by
          rw [tail_run X q cn o (by omega)]
          unfold tailT
          rw [if_neg (by omega)]
        obtain ⟨rm, hrm⟩ : ∃ y, cn - o = y := ⟨_, rfl⟩
        rw [hrm] at hsl
        have hKr : (K : Int) ≤ (rm : Int) := by omega
        have m3 : w1.cell? ⟨k, 3, none⟩ = some (.slice (some ⟨q, 0, none⟩) cn cn) := by rw [← hcn]; exact cell_of_row _ _ _ _ 224 _ HV2.out.row
        have m0 : w1.cell? ⟨P, 0, none⟩ = some (.int .i64 K) := cell_of_row _ _ _ _ 23 _ HP2.out
        have m1 : w1.cell? ⟨P, 1, none⟩ = some (.int .i64 M) := cell_of_row _ _ _ _ 23 _ HP2.out
        have HBG : Hid _ := hbg
        have HOO : Hid _ := ho
        have HU : Hid _ := hu
        have hs5 : s ≤ 512 := by
          have h1 : s * 1 ≤ s * n := Nat.mul_le_mul_left s (by omega)
          omega
        have hbg2 : bg ≤ 4096 := by omega
        clear hf0 hbg ho hu
        go_wp2_with fail
        go_quiet (fail)
        go_wp2_with fail
        obtain ⟨w2, hw2⟩ : ∃ X, w1.drewN nq = X := ⟨_, rfl⟩
        have hb2 : Below w1.heap.size w1 w2 := by rw [← hw2]; exact below_drewN (Below.refl _ _) _
        rw [hw2]
        have hV3 := HV2.out.below hb2
        have HV3 : Hid _ := hV3
        have HB3 : Hid (Bld b0 (strS kt T bl a x) w2) := Bld.below HB2.out hb2
        have HP3 : Hid (w2.heap[P]? = some (.cells #[.int .i64 K, .int .i64 M, .int .i64 C, .int .i64 V] 23 (0, 0))) := (hb2.block P (Array.getElem?_eq_some_iff.1 HP2.out).1).trans HP2.out
        have HF3 : Hid _ := HF2.out.thenBelow hb2
        have hwk := whole_ok HF0.out
        have hsz : ∀ i, i < n → (stM kt T bl s i).size = C := fun i hi => by rw [← hCe]; exact goodB_size (hwk.1 i (by rw [hnT]; exact hi)).1
        have hcell : ∀ i, i < K → w2.cell? ⟨q, o + i, none⟩ = some (.string (stM kt T bl s i)) := fun i hi => by
          have hc := hV3.blR.cell (o + i) (by rw [hcn]; omega)
          rw [hc]
          show some (Value.string (blD kt T bl (updB dn1 s true) (o + i))) = _
          have hdv := div_of (s := s) (n := T.n) (i := i) (by rw [hnT]; omega)
          rw [show s * T.n + i = o + i by rw [hnT, HOO.out]] at hdv
          unfold blD
          rw [hdv.1, hdv.2, if_pos ⟨hds, HF0.out⟩]
        have HJ : Hid _ := sjoin_any (stM kt T bl s) q o K rm C w2 (Array.getElem?_eq_some_iff.1 hV3.blR).1 (by omega) (by omega) (by omega) (fun i hi => Nat.le_of_eq (hsz i (by omega))) hcell
        have hDz : (stD kt T bl s).size = z := by unfold stD; rw [hKe, ← hz]; exact jT_eq _ C K (fun i hi => hsz i (by omega))
        have hDe : jT (stM kt T bl s) K = stD kt T bl s := by unfold stD; rw [hKe]
        rw [hDe] at HJ
        obtain ⟨lo, hlo⟩ : ∃ y, x - bg = y := ⟨_, rfl⟩
        obtain ⟨hi, hhi⟩ : ∃ y, u - bg = y := ⟨_, rfl⟩
        have hu2 := HU.out
        have hloI : (x : Int) - (bg : Int) = (lo : Int) := by omega
        have hhiI : (u : Int) - (bg : Int) = (hi : Int) := by omega
        have HPC : Hid (((stD kt T bl s).extract lo hi).data.toList = strS kt T bl x u) := by
          have := strS_in (kt := kt) (bl := bl) (s := s) (a := x) (b := u) hzT (by rw [HBG.out]; omega) (by omega) (by rw [HBG.out]; omega) hDz
          rw [HBG.out, hlo, hhi] at this
          exact this
        obtain ⟨D, hD⟩ : ∃ D, stD kt T bl s = D := ⟨_, rfl⟩
        rw [hD] at HJ HPC hDz
        have hsl2 : ∀ X, (Instr.slice 9 (.string D) (some (.int .i64 ((lo : Nat) : Int))) (some (.int .i64 ((hi : Nat) : Int))) none).run Tryz.prog X = .ok (.string (D.extract lo hi)) X := fun X => by
          rw [run_slice_string X 9 D .i64 .i64 _ _ Tryz.underlying9 (by omega) (by omega) (by omega), Int.toNat_natCast, Int.toNat_natCast]
        have hxu : x < u := by omega
        have hub : u ≤ b := by omega
        have hubg : u ≤ bg + z := by omega
        clear hw2 hb2 hV3 hwk hsz hcell hDe hD hlo hhi m0 m1 m3 d1 hsl
        refine Calls.mono HJ.out ?_
        rintro e w3 ⟨rfl, hb3⟩
        have HV4 : Hid _ := HV3.out.below hb3
        have HB4 : Hid (Bld b0 (strS kt T bl a x) w3) := Bld.below HB3.out hb3
        have HP4 : Hid (w3.heap[P]? = some (.cells #[.int .i64 K, .int .i64 M, .int .i64 C, .int .i64 V] 23 (0, 0))) := (hb3.block P (Array.getElem?_eq_some_iff.1 HP3.out).1).trans HP3.out
        have HF4 : Hid _ := HF3.out.thenBelow hb3
        clear hb3
        go_wp2_with fail
        refine Calls.mono (wstr_any b0 (strS kt T bl a x) (D.extract lo hi) w3 HB4.out (by rw [strS_len, ByteArray.size_extract]; omega)) ?_
        rintro e w4 ⟨rfl, hBl4, hB4, hO4⟩
        obtain ⟨cs0, hcs0⟩ := Bld.row HB4.out
        have HV5 : Hid _ := HV4.out.oth hcs0 hO4
        have HP5 : Hid (w4.heap[P]? = some (.cells #[.int .i64 K, .int .i64 M, .int .i64 C, .int .i64 V] 23 (0, 0))) := hO4.row HP4.out (by omega) (by decide)
        have HF5 : Hid _ := HF4.out.thenLow hB4 (by rw [HP.out]; omega)
        have HB5 : Hid (Bld b0 (strS kt T bl a u) w4) := by
          show Bld b0 (strS kt T bl a u) w4
          rw [strS_app kt T bl a x u hax (by omega), ← HPC.out]
          exact hBl4
        clear hBl4 hB4 hO4 hcs0
        go_wp2_with fail
        go_roundw
        case rel => exact ⟨u, _, _, _, by omega, hub, rfl, HV5.out, HB5.out, HP5.out, HF5.out, fun y h1 h2 => by
          by_cases hyx : y < x
          · exact HOK.out y h1 hyx
          · have hy := div_of (s := s) (n := z) (i := y - bg) (by omega)
            rw [show s * z + (y - bg) = y by rw [HBG.out]; omega] at hy
            rw [hy.1]; exact HF0.out⟩
        case measure => simp [intOf]; omega
      · have hf0' : ((fa : Int) != 0) = true := by simp; omega
        have HN0 : Hid (stF kt T bl (x / (T.L.K * T.L.C)) ≠ 0) := by show stF kt T bl (x / (T.L.K * T.L.C)) ≠ 0; rw [hzT, HS.out, HFA.out]; exact hf0
        clear hf0
        go_wp2_with fail
        go_ret2
        exact ⟨⟨_, _, _, HV2.out⟩, HF2.out, .inr ⟨⟨x, hax, hlt, HN0.out⟩, rfl⟩⟩
    · have ex : x = b := by omega
      subst ex
      go_wp2_with fail
      refine Calls.mono (bstr_k b0 b0 _ wr HBl.out (Nat.le_of_lt (Bld.lt HBl.out))) ?_
      rintro e w1 ⟨rfl, _, hB1, hO1⟩
      obtain ⟨cs0, hcs0⟩ := Bld.row HBl.out
      have HV1 : Hid _ := HV.out.oth hcs0 hO1
      have HF1 : Hid _ := HF.out.thenLow hB1 (by rw [HP.out]; omega)
      clear hB1 hO1 hcs0 hV hBl hPr hF hok
      go_wp2_with fail
      go_ret2
      exact ⟨⟨_, _, _, HV1.out⟩, HF1.out, .inl ⟨fun y h1 h2 => by rw [hzT]; exact HOK.out y h1 h2, rfl⟩⟩
end Go.Proofs.YtadinjaocnlglaaGreatDoor
