/-
  Two volumes that tell one list tell the same params and entries.
  The walk of stock.noneRead.
  What a list of volumes comes to, as data.
  Stock.add, whatever was read before.
  Plain facts for the walk of stock.Open: the memory of a Stock stays; one volume more.
  One place more that was not read.
-/
import Derived.Test.YtadinjaocnlglaaGreatDoorZ23
namespace Go.Proofs.YtadinjaocnlglaaGreatDoor
open Go.RowKit
set_option maxRecDepth 100000
set_option maxHeartbeats 1000000
structure LEq (a b : LT) : Prop where
 K : b.K = a.K
 M : b.M = a.M
 C : b.C = a.C
 V : b.V = a.V
 es : b.es = a.es
theorem list_loc {d : Nat} {a b : RS} (h : Akin d a b) (hw : a.list.st.wrong = false) (hd : a.list.st.next ≤ a.next + d) : LEq a.list b.list ∧ b.list.st.wrong = false := by
 obtain ⟨s0, e0⟩ : ∃ x, a.word ⟨#[86, 76, 84, 49]⟩ = x := ⟨_, rfl⟩
 obtain ⟨k, ek⟩ : ∃ x, s0.num 1 255 = x := ⟨_, rfl⟩
 obtain ⟨m, em⟩ : ∃ x, k.1.num 0 (255 - (k.2 : Int)) = x := ⟨_, rfl⟩
 obtain ⟨c, ec⟩ : ∃ x, m.1.num 1 64 = x := ⟨_, rfl⟩
 obtain ⟨v, ev⟩ : ∃ x, c.1.num 1 16 = x := ⟨_, rfl⟩
 obtain ⟨n, en⟩ : ∃ x, v.1.num 0 16 = x := ⟨_, rfl⟩
 have ha : a.list = ⟨(RS.ents n.2 n.1 ⟨#[]⟩ 4096 []).1, k.2, m.2, c.2, v.2, (RS.ents n.2 n.1 ⟨#[]⟩ 4096 []).2⟩ := by
  unfold RS.list
  simp only [e0, ek, em, ec, ev, en]
 rw [ha] at hw hd ⊢
 have hw' : (RS.ents n.2 n.1 ⟨#[]⟩ 4096 []).1.wrong = false := hw
 have hd' : (RS.ents n.2 n.1 ⟨#[]⟩ 4096 []).1.next ≤ a.next + d := hd
 have w6 : n.1.wrong = false := ents_ok _ _ _ _ _ hw'
 have w5 : v.1.wrong = false := (num_ok (show (v.1.num 0 16).1.wrong = false by rw [en]; exact w6)).1
 have w4 : c.1.wrong = false := (num_ok (show (c.1.num 1 16).1.wrong = false by rw [ev]; exact w5)).1
 have w3 : m.1.wrong = false := (num_ok (show (m.1.num 1 64).1.wrong = false by rw [ec]; exact w4)).1
 have w2 : k.1.wrong = false := (num_ok (show (k.1.num 0 (255 - (k.2 : Int))).1.wrong = false by rw [em]; exact w3)).1
 have w1 : s0.wrong = false := (num_ok (show (s0.num 1 255).1.wrong = false by rw [ek]; exact w2)).1
 have v0 := (word_adv a ⟨#[86, 76, 84, 49]⟩).2
 have v1 := (num_adv s0 1 255).2
 have v2 := (num_adv k.1 0 (255 - (k.2 : Int))).2
 have v3 := (num_adv m.1 1 64).2
 have v4 := (num_adv c.1 1 16).2
 have v5 := (num_adv v.1 0 16).2
 have v6 := (ents_adv n.2 n.1 ⟨#[]⟩ 4096 []).2
 rw [e0] at v0; rw [ek] at v1; rw [em] at v2; rw [ec] at v3; rw [ev] at v4; rw [en] at v5
 obtain ⟨p0, p1⟩ := word_loc (t := ⟨#[86, 76, 84, 49]⟩) h (by rw [e0]; exact w1) (by rw [e0]; omega)
 rw [e0] at p0 p1
 obtain ⟨k1, k2, k3⟩ := num_loc (lo := 1) (hi := 255) p0 (by rw [ek]; exact w2) (by rw [ek]; omega)
 rw [ek] at k1 k2 k3
 obtain ⟨m1, m2, m3⟩ := num_loc (lo := 0) (hi := 255 - (k.2 : Int)) k2 (by rw [em]; exact w3) (by rw [em]; omega)
 rw [em] at m1 m2 m3
 obtain ⟨c1, c2, c3⟩ := num_loc (lo := 1) (hi := 64) m2 (by rw [ec]; exact w4) (by rw [ec]; omega)
 rw [ec] at c1 c2 c3
 obtain ⟨q1, q2, q3⟩ := num_loc (lo := 1) (hi := 16) c2 (by rw [ev]; exact w5) (by rw [ev]; omega)
 rw [ev] at q1 q2 q3
 obtain ⟨n1, n2, n3⟩ := num_loc (lo := 0) (hi := 16) q2 (by rw [en]; exact w6) (by rw [en]; omega)
 rw [en] at n1 n2 n3
 obtain ⟨z1, z2, _⟩ := ents_loc n.2 n2 hw' (by omega)
 unfold RS.list
 simp only [k1, m1, c1, q1, n1]
 exact ⟨⟨rfl, rfl, rfl, rfl, z1⟩, z2⟩
def RS.atL (t : ByteArray) : RS := (((RS.on t).word ⟨#[86, 79, 76, 49]⟩).bytes 32).1
theorem told_L (t : ByteArray) : (RS.on t).told.L = (RS.atL t).list ∧ (RS.on t).told.lst = t.extract (RS.atL t).next (RS.atL t).list.st.next := by
 have hx : (RS.atL t).list.st.text = t := ((((word_adv (RS.on t) ⟨#[86, 79, 76, 49]⟩).trans (bytes_adv _ 32))).trans (list_adv (RS.atL t))).1
 unfold RS.told
 simp only []
 split
 ·exact ⟨rfl, by show (RS.atL t).list.st.text.extract (RS.atL t).next (RS.atL t).list.st.next = _; rw [hx]⟩
 ·exact ⟨rfl, by show (RS.atL t).list.st.text.extract (RS.atL t).next (RS.atL t).list.st.next = _; rw [hx]⟩
def Nt (s : RS) : Prop := s.next ≤ s.text.size
theorem num_nt {s : RS} (h : Nt s) (lo : Nat) (hi : Int) : Nt (s.num lo hi).1 := by
 unfold RS.num
 split
 ·exact h
 ·split
  ·exact h
  ·show s.next + _ ≤ s.text.size
   have h1 := (vrd_le (s.text.extract s.next s.text.size)).1
   rw [ByteArray.size_extract] at h1
   have h2 : s.next ≤ s.text.size := h
   omega
theorem bytes_nt {s : RS} (h : Nt s) (n : Nat) : Nt (s.bytes n).1 := by
 have h2 : s.next ≤ s.text.size := h
 unfold RS.bytes
 split
 ·exact h
 ·split
  ·exact h
  ·show s.next + n ≤ s.text.size
   omega
theorem word_nt {s : RS} (h : Nt s) (t : ByteArray) : Nt (s.word t) := by
 unfold RS.word
 split
 ·exact bytes_nt h _
 ·exact bytes_nt h _
theorem entry_nt {s : RS} (h : Nt s) (b : ByteArray) (l : Int) : Nt (s.entry b l).1 := by
 have h1 : Nt ((s.num 1 255).1.bytes (s.num 1 255).2).1 := bytes_nt (num_nt h 1 255) _
 have h2 : Nt (if leT ((s.num 1 255).1.bytes (s.num 1 255).2).2 b then ((s.num 1 255).1.bytes (s.num 1 255).2).1.refuse else ((s.num 1 255).1.bytes (s.num 1 255).2).1) := by
  split
  ·exact h1
  ·exact h1
 exact num_nt h2 0 l
theorem ents_nt : ∀ (k : Nat) {s : RS} (_ : Nt s) (nm : ByteArray) (left : Int) (acc : List (ByteArray × Nat)), Nt (RS.ents k s nm left acc).1
 | 0, _, h, _, _, _ => h
 | k + 1, _, h, nm, left, _ => ents_nt k (entry_nt h nm left) _ _ _
theorem list_nt {s : RS} (h : Nt s) : Nt s.list.st := by
 unfold RS.list
 exact ents_nt _ (num_nt (num_nt (num_nt (num_nt (num_nt (word_nt h _) _ _) _ _) _ _) _ _) _ _) _ _ _
theorem told_wrong {t : ByteArray} (h : (RS.on t).told.st.wrong = false) : (RS.atL t).list.st.wrong = false := by
 unfold RS.told at h
 simp only [] at h
 split at h
 ·exact (num_ok h).1
 ·rename_i hw
  have hw0 : (((((RS.on t).word ⟨#[86, 79, 76, 49]⟩).bytes 32).1).list.st.num 0 ((((((RS.on t).word ⟨#[86, 79, 76, 49]⟩).bytes 32).1).list.V : Int) - 1)).1.wrong = false := by simpa using hw
  exact (num_ok hw0).1
theorem same_list {t t2 : ByteArray} (h : (RS.on t).told.st.wrong = false) (h2 : (RS.on t2).told.st.wrong = false) (he : (RS.on t).told.lst = (RS.on t2).told.lst) : LEq (RS.on t).told.L (RS.on t2).told.L := by
 have w1 := told_wrong h
 have w2 := told_wrong h2
 obtain ⟨l1, x1⟩ := told_L t
 obtain ⟨l2, x2⟩ := told_L t2
 rw [x1, x2] at he
 rw [l1, l2]
 have y1 : (RS.atL t).text = t := ((word_adv (RS.on t) ⟨#[86, 79, 76, 49]⟩).trans (bytes_adv _ 32)).1
 have y2 : (RS.atL t2).text = t2 := ((word_adv (RS.on t2) ⟨#[86, 79, 76, 49]⟩).trans (bytes_adv _ 32)).1
 have n1 : (RS.atL t).list.st.next ≤ t.size := by
  have := list_nt (s := RS.atL t) (bytes_nt (word_nt (Nat.zero_le _) _) _)
  unfold Nt at this
  rw [(list_adv (RS.atL t)).1, y1] at this
  exact this
 have n2 : (RS.atL t2).list.st.next ≤ t2.size := by
  have := list_nt (s := RS.atL t2) (bytes_nt (word_nt (Nat.zero_le _) _) _)
  unfold Nt at this
  rw [(list_adv (RS.atL t2)).1, y2] at this
  exact this
 have a1 := (list_adv (RS.atL t)).2
 have a2 := (list_adv (RS.atL t2)).2
 have hsz := congrArg ByteArray.size he
 rw [ByteArray.size_extract, ByteArray.size_extract] at hsz
 refine (list_loc (d := (RS.atL t).list.st.next - (RS.atL t).next) ⟨?_, fun j hj => ?_⟩ w1 (by omega)).1
 ·exact (list_ok w2).1
 ·refine ⟨by rw [y1]; omega, by rw [y2]; omega, ?_⟩
  have hj1 : j < (t.extract (RS.atL t).next (RS.atL t).list.st.next).size := by rw [ByteArray.size_extract]; omega
  have hj2 : j < (t2.extract (RS.atL t2).next (RS.atL t2).list.st.next).size := by rw [ByteArray.size_extract]; omega
  have e1 : (t.extract (RS.atL t).next (RS.atL t).list.st.next)[j] = (t2.extract (RS.atL t2).next (RS.atL t2).list.st.next)[j] := by simp only [he]
  rw [ByteArray.getElem_extract, ByteArray.getElem_extract] at e1
  simp only [y1, y2]
  exact e1
theorem none_zero (v : Value) (w : World) : Calls Tryz.prog 159 #[.int .i64 0, v] w fun e w' => ErrD 11 0 e w' ∧ Below w.heap.size w w' := by
 go_enter Tryz.func159, Tryz.ntmps159
 go_wp2_with fail
 refine Calls.mono (at_err 11 0 w) ?_
 rintro e w1 ⟨z, rfl, hz, hB⟩
 have HZ : Hid _ := hz
 have HB : Hid _ := hB
 clear hz hB
 go_wp2_with fail
 go_ret
 exact ⟨⟨z, rfl, HZ.out⟩, HB.out⟩
def ErrD3 (n k p : Int) (e : Ending) (w : World) : Prop := ∃ x y z, e = .returned (.iface 305 (.pointer (some ⟨x, 0, none⟩))) ∧ w.heap[x]? = some (.cells #[.int .i64 11, .int .i64 n, .iface 305 (.pointer (some ⟨y, 0, none⟩))] 307 (0, 0)) ∧ w.heap[y]? = some (.cells #[.int .i64 10, .int .i64 0, .iface 305 (.pointer (some ⟨z, 0, none⟩))] 307 (0, 0)) ∧ w.heap[z]? = some (.cells #[.int .i64 k, .int .i64 p, .nilIface] 307 (0, 0))
theorem none_some (n a : Nat) (k p : Int) (w : World) (hn : 0 < n) (ha : w.heap[a]? = some (.cells #[.int .i64 k, .int .i64 p, .nilIface] 307 (0, 0))) : Calls Tryz.prog 159 #[.int .i64 n, .iface 305 (.pointer (some ⟨a, 0, none⟩))] w fun e w' => ErrD3 n k p e w' ∧ Below w.heap.size w w' := by
 have h0 : ((n : Int) == 0) = false := by simp; omega
 have HA : Hid _ := ha
 clear ha
 go_enter Tryz.func159, Tryz.ntmps159
 go_wp2_with fail
 refine Calls.mono (over_err 10 0 ⟨a, 0, none⟩ w) ?_
 rintro e w1 ⟨y, rfl, hy, hB1⟩
 have HY : Hid _ := hy
 have HB1 : Hid _ := hB1
 clear hy hB1
 go_wp2_with fail
 refine Calls.mono (over_err 11 _ ⟨y, 0, none⟩ w1) ?_
 rintro e w2 ⟨x, rfl, hx, hB2⟩
 have HX : Hid _ := hx
 have HB2 : Hid _ := hB2
 clear hx hB2
 go_wp2_with fail
 go_ret
 have hB := HB1.out.trans (HB2.out.mono HB1.out.size)
 exact ⟨⟨x, y, a, rfl, HX.out, (HB2.out.block y (Array.getElem?_eq_some_iff.1 HY.out).1).trans HY.out, (hB.block a (Array.getElem?_eq_some_iff.1 HA.out).1).trans HA.out⟩, hB⟩
theorem rd_none {kt : Nat → Int} {t : ByteArray} (h : rdE kt t = none) : t.size ≤ 60000 ∧ (tCk t).1.wrong = false ∧ (tRest t).size ≤ (RS.on t).told.size := by
 unfold rdE at h
 split at h
 ·cases h
 ·rename_i h0
  split at h
  ·cases h
  ·rename_i h1
   split at h
   ·split at h
    ·split at h
     ·cases h
     ·rename_i h2
      exact ⟨by omega, by simpa using h1, by omega⟩
    ·cases h
   ·cases h
theorem vol_fit {kt : Nat → Int} {t : ByteArray} (h : rdE kt t = none) : (RS.on t).told.num < (RS.on t).told.L.V ∧ (RS.on t).told.first + (tRest t).size / (RS.on t).told.L.C ≤ (RS.on t).told.L.cnt := by
 obtain ⟨_, h1, h2⟩ := rd_none h
 have hT := ck_ok h1
 refine ⟨hT.num, ?_⟩
 obtain ⟨en, hen⟩ : ∃ x, ((RS.on t).told.num + 1) * (RS.on t).told.L.cnt / (RS.on t).told.L.V = x := ⟨_, rfl⟩
 have h3 : (RS.on t).told.size = (en - (RS.on t).told.first) * (RS.on t).told.L.C := by unfold TT.size; rw [hen]
 have h4 : (RS.on t).told.first ≤ en := by rw [← hen]; exact Nat.div_le_div_right (Nat.mul_le_mul_right _ (by omega))
 have h5 : en ≤ (RS.on t).told.L.cnt := by
  rw [← hen]
  exact Nat.le_trans (Nat.div_le_div_right (Nat.mul_le_mul_right _ hT.num)) (by rw [Nat.mul_div_cancel_left _ hT.v1]; exact Nat.le_refl _)
 have h6 : (tRest t).size / (RS.on t).told.L.C ≤ en - (RS.on t).told.first := by
  rw [h3] at h2
  exact Nat.le_trans (Nat.div_le_div_right h2) (by rw [Nat.mul_div_cancel _ hT.c1]; exact Nat.le_refl _)
 omega
theorem LEq.cnt {a b : LT} (h : LEq a b) : b.cnt = a.cnt := by unfold LT.cnt; rw [h.K, h.M, h.C, h.es]
theorem vol_fit2 {kt : Nat → Int} {t t2 : ByteArray} (h : rdE kt t = none) (h2 : rdE kt t2 = none) (he : (RS.on t).told.lst = (RS.on t2).told.lst) : (RS.on t2).told.num < (RS.on t).told.L.V ∧ (RS.on t2).told.first + (tRest t2).size / (RS.on t2).told.L.C ≤ (RS.on t).told.L.cnt := by
 have hl := same_list (bytes_ok (rd_none h).2.1) (bytes_ok (rd_none h2).2.1) he
 have hf := vol_fit h2
 rw [hl.V, hl.cnt] at hf
 rw [hl.C] at hf ⊢
 exact hf
structure OS where
 un : List Nat
 hd : Option ByteArray
 rd : Nat → Bool
 bl : Nat → ByteArray
def OS.new : OS := ⟨[], none, noR, noT⟩
def OS.take (s : OS) (t : ByteArray) : OS := { s with rd := updB s.rd (RS.on t).told.num true, bl := laid s.bl (RS.on t).told.first ((tRest t).size / (RS.on t).told.L.C) (pc (tRest t) (RS.on t).told.L.C) }
def OS.step (kt : Nat → Int) (rt : ByteArray) (i : Nat) (t : ByteArray) (s : OS) : Except (Nat × Nat) OS :=
 if (sdE kt rt t).isSome then .ok { s with un := s.un ++ [i] }
 else match s.hd with
  | none => .ok { OS.take ⟨s.un, none, noR, noT⟩ t with hd := some t }
  | some t0 => if (RS.on t0).told.root = (RS.on t).told.root ∧ (RS.on t0).told.lst = (RS.on t).told.lst ∧ (RS.on t0).told.lv = (RS.on t).told.lv then
    (if s.rd (RS.on t).told.num then .error (13, i) else .ok (s.take t))
   else .error (12, i)
def OS.run (kt : Nat → Int) (rt : ByteArray) : Nat → List ByteArray → OS → Except (Nat × Nat) OS
 | _, [], s => .ok s
 | i, t :: ts, s => match s.step kt rt i t with
  | .ok s' => OS.run kt rt (i + 1) ts s'
  | .error e => .error e
def unV (l : List Nat) : List Value := l.map fun i => .int .i64 (i : Nat)
def OI (kt : Nat → Int) (B k : Nat) (s : OS) (w : World) : Prop := ∃ un, w.ownsRow B 3 1 un s.un.length (unV s.un) ∧ ((s.hd = none ∧ w.heap[k]? = some (.cells (stC (.pointer none) un (.slice none 0 0) (.slice none 0 0) (.slice none 0 0)) 224 (0, 0))) ∨ ∃ t0 g p q f, s.hd = some t0 ∧ rdE kt t0 = none ∧ B ≤ p ∧ B ≤ q ∧ B ≤ f ∧ SS B k g p q f (RS.on t0).told un s.rd s.bl w)
def Keep (w w' : World) : Prop := ∀ (z : Nat) (cs : Array Value), w.heap[z]? = some (.cells cs 307 (0, 0)) → w'.heap[z]? = some (.cells cs 307 (0, 0))
theorem Keep.below {w w' : World} (h : Below w.heap.size w w') : Keep w w' := fun z _ hz => (h.block z (Array.getElem?_eq_some_iff.1 hz).1).trans hz
theorem Keep.fr {S : Nat → Prop} {w w' : World} (h : Fr S w w') (hs : ∀ (z : Nat) (cs : Array Value), w.heap[z]? = some (.cells cs 307 (0, 0)) → ¬ S z) : Keep w w' := fun z cs hz => (h.old z (Array.getElem?_eq_some_iff.1 hz).1 (hs z cs hz)).trans hz
theorem Fr.lowB {S : Nat → Prop} {w w' : World} (h : Fr S w w') (B : Nat) (hB : B ≤ w.heap.size) (hs : ∀ j, j < B → ¬ S j) : Below B w w' := ⟨h.calm.1, h.calm.2.1, h.calm.2.2, h.size, fun j hj => h.old j (Nat.lt_of_lt_of_le hj hB) (hs j hj)⟩
theorem row_ne {w : World} {a b : Nat} {cs cs' : Array Value} {t t' : TypeId} (h : w.heap[a]? = some (.cells cs t (0, 0))) (h' : w.heap[b]? = some (.cells cs' t' (0, 0))) (ht : t ≠ t') : a ≠ b := fun e => by
 rw [e, h'] at h
 simp only [Option.some.injEq, Obj.cells.injEq] at h
 exact ht h.2.1.symm
theorem sadd_os (kt : Nat → Int) (rt t : ByteArray) (B B2 k g2 i : Nat) (s : OS) (w : World) (hI : OI kt B k s w) (hBk : B ≤ k) (hB : B ≤ w.heap.size) (hsd : sdE kt rt t = none) (hrd : rdE kt t = none) (hv : VolAt (RS.on t).told (tRest t) B2 g2 w) (hB2 : B ≤ B2) :
  Calls Tryz.prog 158 #[.pointer (some ⟨k, 0, none⟩), .int .i64 i, .pointer (some ⟨g2, 0, none⟩)] w fun e w' =>
   (∀ s', s.step kt rt i t = .ok s' → e = .returned .nilIface ∧ OI kt B k s' w') ∧ (∀ a b, s.step kt rt i t = .error (a, b) → ErrD a b e w') ∧ Below B w w' ∧ Keep w w' := by
 obtain ⟨aE, kE, qb, hg2, hgB, hqB, hR, hO⟩ := hv
 obtain ⟨un, hun, hc⟩ := hI
 have hO' := own_base hO hB2
 have hT1 := ck_ok (rd_none hrd).2.1
 have hst : s.step kt rt i t = match s.hd with
  | none => .ok { OS.take ⟨s.un, none, noR, noT⟩ t with hd := some t }
  | some t0 => if (RS.on t0).told.root = (RS.on t).told.root ∧ (RS.on t0).told.lst = (RS.on t).told.lst ∧ (RS.on t0).told.lv = (RS.on t).told.lv then
    (if s.rd (RS.on t).told.num then .error (13, i) else .ok (s.take t))
   else .error (12, i) := by
  unfold OS.step
  rw [hsd]
  rfl
 rcases hc with ⟨hd, hk⟩ | ⟨t0, g, p, q, f, hd, hr0, hpB, hqB', hfB, hS⟩
 ·rw [hd] at hst
  simp only [] at hst
  refine Calls.mono (sadd0 B k g2 qb _ _ _ i (RS.on t).told un aE kE _ w hk hg2 hO' hR hT1 (told_len _) (vol_fit hrd)) ?_
  rintro e w' ⟨rfl, p, q, f, hp, hq, hf, hSS, hF⟩
  refine ⟨fun s' h => ?_, fun a b h => ?_, hF.lowB B hB (fun j hj e => by have e' : j = k := e; omega), Keep.fr hF (fun z cs hz => row_ne hz hk (by decide))⟩
  ·rw [hst] at h
   cases h
   refine ⟨rfl, un, own_kept hun (fun z hz => hF.old z (own_lt hun z hz) (fun e => ?_)), .inr ⟨t, g2, p, q, f, rfl, hrd, by omega, by omega, by omega, hSS⟩⟩
   obtain ⟨cur, hcur⟩ := own_type hun z hz
   exact row_ne hcur hk (by decide) e
  ·rw [hst] at h; cases h
 ·rw [hd] at hst
  simp only [] at hst
  refine Calls.mono (sadd1 B k g p q f g2 qb _ _ _ i (RS.on t0).told (RS.on t).told un _ s.rd s.bl _ w hS hg2 hR (fun h => vol_fit2 hr0 hrd h.2.1)) ?_
  rintro e w' (⟨hn, hE, hb⟩ | ⟨hy, hrv, hE, hb⟩ | ⟨hy, hrv, rfl, hSS, hF⟩)
  ·rw [if_neg hn] at hst
   exact ⟨fun s' h => (by rw [hst] at h; cases h), fun a b h => (by rw [hst] at h; cases h; exact hE), hb.mono hB, Keep.below hb⟩
  ·rw [if_pos hy, if_pos hrv] at hst
   exact ⟨fun s' h => (by rw [hst] at h; cases h), fun a b h => (by rw [hst] at h; cases h; exact hE), hb.mono hB, Keep.below hb⟩
  ·rw [if_pos hy, if_neg (by rw [hrv]; simp)] at hst
   have hpr : w.heap[p]? = _ := hS.rdR
   have hqr : w.heap[q]? = _ := hS.blR
   refine ⟨fun s' h => ?_, fun a b h => (by rw [hst] at h; cases h), hF.lowB B hB (fun j hj e => by rcases e with e | e <;> omega), Keep.fr hF (fun z cs hz e => by rcases e with e | e; exact row_ne hz hpr (by decide) e; exact row_ne hz hqr (by decide) e)⟩
   rw [hst] at h
   cases h
   refine ⟨rfl, un, own_kept hun (fun z hz => hF.old z (own_lt hun z hz) (fun e => ?_)), .inr ⟨t0, g, p, q, f, hd, hr0, hpB, hqB', hfB, hSS⟩⟩
   obtain ⟨cur, hcur⟩ := own_type hun z hz
   rcases e with e | e
   ·exact row_ne hcur hpr (by decide) e
   ·exact row_ne hcur hqr (by decide) e
theorem SS.below {B k g p q f : Nat} {T : TT} {un : Value} {rd : Nat → Bool} {bl : Nat → ByteArray} {w w' : World} (h : SS B k g p q f T un rd bl w) (hb : Below w.heap.size w w') : SS B k g p q f T un rd bl w' := by
 obtain ⟨aE, kE, num, first, vB, hg, ho⟩ := h.hd
 exact ⟨(hb.block k (Array.getElem?_eq_some_iff.1 h.row).1).trans h.row, ⟨aE, kE, num, first, vB, (hb.block g (Array.getElem?_eq_some_iff.1 hg).1).trans hg, own_below ho hb⟩, Rw.below h.rdR hb (Rw.lt h.rdR), Rw.below h.blR hb (Rw.lt h.blR), Rw.below h.fiR hb (Rw.lt h.fiR)⟩
theorem OI.below {kt : Nat → Int} {B k : Nat} {s : OS} {w w' : World} (h : OI kt B k s w) (hb : Below w.heap.size w w') : OI kt B k s w' := by
 obtain ⟨un, hun, hc⟩ := h
 refine ⟨un, own_below hun hb, ?_⟩
 rcases hc with ⟨hd, hk⟩ | ⟨t0, g, p, q, f, hd, hr, hp, hq, hfB, hS⟩
 ·exact .inl ⟨hd, (hb.block k (Array.getElem?_eq_some_iff.1 hk).1).trans hk⟩
 ·exact .inr ⟨t0, g, p, q, f, hd, hr, hp, hq, hfB, hS.below hb⟩
theorem run_snoc (kt : Nat → Int) (rt t : ByteArray) : ∀ (l : List ByteArray) (i : Nat) (s s1 : OS), OS.run kt rt i l s = .ok s1 → OS.run kt rt i (l ++ [t]) s = s1.step kt rt (i + l.length) t
 | [], i, s, s1, h => by
  cases h
  show (match s.step kt rt i t with | .ok s' => OS.run kt rt (i + 1) [] s' | .error e => .error e) = s.step kt rt i t
  cases s.step kt rt i t <;> rfl
 | u :: l, i, s, s1, h => by
  rw [List.cons_append, OS.run]
  rw [OS.run] at h
  cases hs : s.step kt rt i u with
  | error e => rw [hs] at h; cases h
  | ok s' =>
   rw [hs] at h
   have := run_snoc kt rt t l (i + 1) s' s1 h
   simp only []
   rw [this, List.length_cons, show i + 1 + l.length = i + (l.length + 1) by omega]
theorem run_err (kt : Nat → Int) (rt : ByteArray) (r : List ByteArray) : ∀ (l : List ByteArray) (i : Nat) (s : OS) (e : Nat × Nat), OS.run kt rt i l s = .error e → OS.run kt rt i (l ++ r) s = .error e
 | [], _, _, _, h => by cases h
 | u :: l, i, s, e, h => by
  rw [List.cons_append, OS.run]
  rw [OS.run] at h
  cases hs : s.step kt rt i u with
  | error e' => rw [hs] at h; exact h
  | ok s' =>
   rw [hs] at h
   exact run_err kt rt r l (i + 1) s' e h
theorem OI.more {kt : Nat → Int} {B k i : Nat} {s : OS} {un v2 : Value} {w w2 : World} (hun : w.ownsRow B 3 1 un s.un.length (unV s.un))
  (hc : (s.hd = none ∧ w.heap[k]? = some (.cells (stC (.pointer none) un (.slice none 0 0) (.slice none 0 0) (.slice none 0 0)) 224 (0, 0))) ∨ ∃ t0 g p q f, s.hd = some t0 ∧ rdE kt t0 = none ∧ B ≤ p ∧ B ≤ q ∧ B ≤ f ∧ SS B k g p q f (RS.on t0).told un s.rd s.bl w)
  (hO : w2.ownsRow B 3 1 v2 (s.un.length + 1) (unV s.un ++ [.int .i64 (i : Nat)])) (hold : ∀ j, j < w.heap.size → un.ownBlock ≠ some j → w2.heap[j]? = w.heap[j]?) : OI kt B k { s with un := s.un ++ [i] } (w2.setCell ⟨k, 1, none⟩ v2) := by
 have t1 : ∀ {j : Nat} {cs : Array Value} {t : TypeId}, w.heap[j]? = some (.cells cs t (0, 0)) → t ≠ 3 → w2.heap[j]? = some (.cells cs t (0, 0)) := fun {j cs t} hj ht => (hold j (Array.getElem?_eq_some_iff.1 hj).1 (fun e => by
  obtain ⟨cur, hcur⟩ := own_type hun j e
  exact row_ne hj hcur ht rfl)).trans hj
 have hk2 : ∀ {cs : Array Value}, w2.heap[k]? = some (.cells cs 224 (0, 0)) → (w2.setCell ⟨k, 1, none⟩ v2).ownsRow B 3 1 v2 (s.un ++ [i]).length (unV (s.un ++ [i])) := fun {cs} hk => by
  rw [List.length_append, show unV (s.un ++ [i]) = unV s.un ++ [.int .i64 (i : Nat)] by unfold unV; simp]
  exact own_kept hO (fun z hz => set_other _ _ _ _ _ (by
   obtain ⟨cur, hcur⟩ := own_type hO z hz
   exact row_ne hcur hk (by decide)))
 rcases hc with ⟨hd, hk⟩ | ⟨t0, g, p, q, f, hd, hr, hp, hq, hfB, hS⟩
 ·have hk' := t1 hk (by decide)
  exact ⟨v2, hk2 hk', .inl ⟨hd, set_heap _ _ _ _ _ _ _ hk'⟩⟩
 ·have hk' := t1 hS.row (by decide)
  have t2 : ∀ {j : Nat} {cs : Array Value} {t : TypeId}, w.heap[j]? = some (.cells cs t (0, 0)) → t ≠ 3 → t ≠ 224 → (w2.setCell ⟨k, 1, none⟩ v2).heap[j]? = some (.cells cs t (0, 0)) := fun {j cs t} hj h3 h224 => (set_other _ _ _ _ _ (row_ne (t1 hj h3) hk' h224)).trans (t1 hj h3)
  obtain ⟨aE, kE, num, first, vB, hg, ho⟩ := hS.hd
  refine ⟨v2, hk2 hk', .inr ⟨t0, g, p, q, f, hd, hr, hp, hq, hfB, ⟨set_heap _ _ _ _ _ _ _ hk', ⟨aE, kE, num, first, vB, t2 hg (by decide) (by decide), own_kept ho (fun z hz => ?_)⟩, t2 hS.rdR (by decide) (by decide), t2 hS.blR (by decide) (by decide), t2 hS.fiR (by decide) (by decide)⟩⟩⟩
  obtain ⟨cur, hcur⟩ := own_type ho z hz
  rw [t2 hcur (by decide) (by decide), hcur]
end Go.Proofs.YtadinjaocnlglaaGreatDoor
