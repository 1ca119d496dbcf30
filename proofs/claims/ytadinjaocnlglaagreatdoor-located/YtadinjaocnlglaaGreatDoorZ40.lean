/-
  The names that an error tells as lost: fault.Names, vault.Lost.
  Plain: a volume that is written is read rightly.
  Plain: a vault as data; its volumes, whole or harmed behind their heads, are taken.
-/
import Derived.Test.YtadinjaocnlglaaGreatDoorZ38
import Derived.Test.YtadinjaocnlglaaGreatDoorZ39
import Derived.Test.YtadinjaocnlglaaGreatDoorZ36
import Derived.Test.YtadinjaocnlglaaGreatDoorZ15
namespace Go.Proofs.YtadinjaocnlglaaGreatDoor
open Go.RowKit
set_option maxRecDepth 100000
set_option maxHeartbeats 4000000
def NmD (w : World) (H : Nat → ByteArray) (m : Nat) (e : Ending) (w' : World) : Prop := ∃ v, e = .returned v ∧ w'.ownsRow w.heap.size 9 1 v m (tV H m) ∧ Below w.heap.size w w'
theorem own_none (w : World) : (w.alloc (.cells #[] 9)).ownsRow w.heap.size 9 1 (.slice (some ⟨w.heap.size, 0, none⟩) 0 0) 0 [] := ⟨rfl, .inr ⟨w.heap.size, 0, #[], rfl, Nat.le_refl _, heap_alloc_new _ _, Nat.le_refl _, by unfold maxLen; omega, rfl, rfl⟩⟩
theorem names_nil (H : Nat → ByteArray) (w : World) : Calls Tryz.prog 127 #[.nilIface] w (NmD w H 0) := by
  have HAN : Hid (∀ t W, Calls Tryz.prog 189 #[.nilIface, t] W fun e w' => e = .returned (.bool false) ∧ w' = W) := fun t W => as_nil t W
  go_enter Tryz.func127, Tryz.ntmps127
  go_wp2_with fail
  refine Calls.mono (HAN.out _ _) ?_
  rintro e w1 ⟨rfl, rfl⟩
  go_wp2_with fail
  go_ret
  exact ⟨_, rfl, own_below (own_none w) ((Below.refl _ _).alloc (Nat.le_refl _) _), ((Below.refl _ _).alloc (Nat.le_refl _) _).alloc (by simp) _⟩
theorem names_some (eg mg B m c : Nat) (a : Option Addr) (H : Nat → ByteArray) (w : World) (hg : w.cell? ⟨0, 0, none⟩ = some (.iface 376 (rt 63))) (he : w.heap[eg]? = some (.cells #[.int .i64 14, .int .i64 m, .iface 287 (.pointer (some ⟨mg, 0, none⟩))] 307 (0, 0))) (hm : w.heap[mg]? = some (.cells #[.slice a m c] 289 (0, 0))) (ho : w.ownsRow B 9 1 (.slice a m c) m (tV H m)) (hm16 : m ≤ 1000) :
    Calls Tryz.prog 127 #[.iface 305 (.pointer (some ⟨eg, 0, none⟩))] w (NmD w H m) := by
  obtain ⟨w1, hw1⟩ : ∃ w1, (w.alloc (.cells #[] 9)).alloc (.cells #[.pointer none] 287) = w1 := ⟨_, rfl⟩
  have hb1 : Below w.heap.size w w1 := by rw [← hw1]; exact ((Below.refl _ _).alloc (Nat.le_refl _) _).alloc (by simp) _
  have s1 : w1.heap.size = w.heap.size + 2 := by rw [← hw1]; simp
  have ht : w1.heap[w.heap.size + 1]? = some (.cells #[.pointer none] 287 (0, 0)) := by
    rw [← hw1]
    have := heap_alloc_new (w.alloc (.cells #[] 9)) (.cells #[.pointer none] 287)
    have e : (w.alloc (.cells #[] 9)).heap.size = w.heap.size + 1 := by simp
    rw [e] at this
    exact this
  have hn1 : w1.ownsRow w.heap.size 9 1 (.slice (some ⟨w.heap.size, 0, none⟩) 0 0) 0 [] := by rw [← hw1]; exact own_below (own_none w) ((Below.refl _ _).alloc (Nat.le_refl _) _)
  have he1 : w1.heap[eg]? = _ := (hb1.block eg (Array.getElem?_eq_some_iff.1 he).1).trans he
  have hm1 : w1.heap[mg]? = _ := (hb1.block mg (Array.getElem?_eq_some_iff.1 hm).1).trans hm
  have hg1 : w1.cell? ⟨0, 0, none⟩ = some (.iface 376 (rt 63)) := (hb1.cell (p := ⟨0, 0, none⟩) (block_lt_of_cell hg)).trans hg
  have ho1 := own_below ho hb1
  have HAS : Hid _ := as_lost eg ⟨mg, 0, none⟩ ⟨w.heap.size + 1, 0, none⟩ (.pointer none) w1 hg1 (cell_of_row _ _ _ _ 307 _ he1) (cell_of_row _ _ _ _ 287 _ ht) (frozen_of_row _ _ _ _ 287 ht)
  obtain ⟨W, hW⟩ : ∃ W, (msD w1 ⟨w.heap.size + 1, 0, none⟩ ⟨mg, 0, none⟩).setCell ⟨w.heap.size + 1, 0, none⟩ (.pointer (some ⟨mg, 0, none⟩)) = W := ⟨_, rfl⟩
  rw [hW] at HAS
  have hbD : Below w1.heap.size w1 (msD w1 ⟨w.heap.size + 1, 0, none⟩ ⟨mg, 0, none⟩) := ((((Below.refl _ _).alloc (Nat.le_refl _) _).alloc (by simp) _).alloc (by simp; omega) _).alloc (by simp; omega) _
  have hkeep : ∀ j, j < w1.heap.size → j ≠ w.heap.size + 1 → W.heap[j]? = w1.heap[j]? := fun j hj hne => by
    rw [← hW, set_other _ _ _ _ _ hne]
    exact hbD.block j hj
  have t1 : W.cell? ⟨w.heap.size + 1, 0, none⟩ = some (.pointer (some ⟨mg, 0, none⟩)) := by
    rw [← hW]
    exact cell_of_row _ _ _ _ 287 _ (set_heap _ _ 0 _ _ _ _ ((hbD.block _ (by omega)).trans ht))
  have hmW : W.heap[mg]? = some (.cells #[.slice a m c] 289 (0, 0)) := (hkeep mg (Array.getElem?_eq_some_iff.1 hm1).1 (row_ne hm1 ht (by decide))).trans hm1
  have m0 : W.cell? ⟨mg, 0, none⟩ = some (.slice a m c) := cell_of_row _ _ _ _ 289 _ hmW
  have hoW : W.ownsRow B 9 1 (.slice a m c) m (tV H m) := own_kept ho1 (fun y hy => hkeep y (own_lt ho1 y hy) (fun e => by
    obtain ⟨cur, hcur⟩ := own_type ho1 y hy
    exact row_ne hcur ht (by decide) e))
  have hnW : W.ownsRow w.heap.size 9 1 (.slice (some ⟨w.heap.size, 0, none⟩) 0 0) 0 [] := own_kept hn1 (fun y hy => hkeep y (own_lt hn1 y hy) (fun e => by
    obtain ⟨cur, hcur⟩ := own_type hn1 y hy
    exact row_ne hcur ht (by decide) e))
  have hbW : Below w.heap.size w W := by rw [← hW]; exact (hb1.trans (hbD.mono hb1.size)).setCell (p := ⟨w.heap.size + 1, 0, none⟩) (by show w.heap.size ≤ w.heap.size + 1; omega) _
  obtain ⟨i0, hi0, z0, z1, z2⟩ := info_parts info9p
  obtain ⟨v', w3, hr, ho3, hgr, _⟩ := app_rows 42 Tryz.underlying42 hi0 z0 z1 z2 rfl (by decide) hnW hoW (by
    intro u hu
    unfold tV at hu
    obtain ⟨j, _, rfl⟩ := List.mem_map.1 hu
    rfl) (by omega) (by omega) hbW.size
  rw [Nat.zero_add, List.nil_append] at ho3
  have HRUN : Hid _ := hr
  have HO3 : Hid _ := ho3
  have HB3 : Hid (Below w.heap.size w w3) := hbW.grown hgr hbW.size (fun y hy => own_ge hnW y hy)
  obtain ⟨tb, htb⟩ : ∃ tb, w.heap.size + 1 = tb := ⟨_, rfl⟩
  rw [htb] at t1 HAS
  clear hb1 s1 ht hn1 he1 hm1 hg1 ho1 hW hbD hkeep hmW hoW hnW hbW hr ho3 hgr hg he hm ho
  go_enter Tryz.func127, Tryz.ntmps127
  go_wp2_with fail
  refine Calls.mono HAS.out ?_
  rintro e w2 ⟨rfl, rfl⟩
  go_wp2_with (at_builtin; refine wpList_app rfl (.tmp 9) (.tmp 13) 42 rfl _ _ _ (by simp [Act.eval]) (by simp [Act.eval]) _ HRUN.out ?_)
  go_ret
  exact ⟨v', rfl, HO3.out, HB3.out⟩
theorem lost_any (er l : Value) (B m : Nat) (H : Nat → ByteArray) (w : World) (hg : w.cell? ⟨0, 0, none⟩ = some (.iface 376 (rt 63))) (h : LErr er l m w) (ho : w.ownsRow B 9 1 l m (tV H m)) (hm16 : m ≤ 1000) :
    Calls Tryz.prog 82 #[er] w (NmD w H m) := by
  have HN : Hid (Calls Tryz.prog 127 #[er] w (NmD w H m)) := by
    rcases h with ⟨rfl, rfl⟩ | ⟨_, eg, mg, rfl, h1, h2⟩
    · exact names_nil H w
    · obtain ⟨a, c, rfl⟩ := own_shape ho
      exact names_some eg mg B m c a H w hg h1 h2 ho hm16
  clear h ho hg
  go_enter Tryz.func82, Tryz.ntmps82
  go_wp2_with fail
  refine Calls.mono HN.out ?_
  rintro e w1 ⟨v, rfl, h1, h2⟩
  have H1 : Hid _ := h1
  have H2 : Hid _ := h2
  clear h1 h2
  go_wp2_with fail
  go_ret
  exact ⟨v, rfl, H1.out, H2.out⟩
end Go.Proofs.YtadinjaocnlglaaGreatDoor
namespace Go.Proofs.YtadinjaocnlglaaGreatDoor
open Go.RowKit
set_option maxRecDepth 100000
set_option maxHeartbeats 1000000
/-- what a text tells that was written so -/
structure Tld (T : TT) (K M C V v : Nat) (es : List (ByteArray × Nat)) (root lst lv : ByteArray) (l : List UInt8) : Prop where
  ok : T.st.wrong = false
  K : T.L.K = K
  M : T.L.M = M
  C : T.L.C = C
  V : T.L.V = V
  es : T.L.es = es
  num : T.num = v
  root : T.root = root
  lst : T.lst = lst
  lv : T.lv = lv
  ah : Ahd T.st = l
theorem told_enc {t root lst lv : ByteArray} {K M C V v cnt : Nat} {es : List (ByteArray × Nat)} {l : List UInt8} (h : LOk K M C V es) (hr : root.size = 32) (hv : v < V) (hc : nst (K * C) (lenE es) * (K + M) = cnt) (hc2 : cnt ≤ 512) (hlv : lv.size = cnt * 32) (hls : lst.data.toList = lstL K M C V es)
    (ht : t.data.toList = volM.data.toList ++ root.data.toList ++ lst.data.toList ++ vi v ++ lv.data.toList ++ l) : Tld (RS.on t).told K M C V v es root lst lv l := by
  have hw0 : (RS.on t).wrong = false := rfl
  obtain ⟨s0, h0⟩ : ∃ x, (RS.on t).word volM = x := ⟨_, rfl⟩
  obtain ⟨a, ha⟩ : ∃ x, s0.bytes 32 = x := ⟨_, rfl⟩
  obtain ⟨l1, hl⟩ : ∃ x, a.1.list = x := ⟨_, rfl⟩
  obtain ⟨b, hb⟩ : ∃ x, l1.st.num 0 ((l1.V : Int) - 1) = x := ⟨_, rfl⟩
  obtain ⟨c, hcc⟩ : ∃ x, b.1.bytes (l1.cnt * 32) = x := ⟨_, rfl⟩
  have e : (RS.on t).told = if b.1.wrong then ⟨b.1, a.2, l1.st.text.extract a.1.next l1.st.next, l1, b.2, ⟨#[]⟩⟩ else ⟨((if 512 < l1.cnt then b.1.refuse else b.1).bytes (l1.cnt * 32)).1, a.2, l1.st.text.extract a.1.next l1.st.next, l1, b.2, ((if 512 < l1.cnt then b.1.refuse else b.1).bytes (l1.cnt * 32)).2⟩ := by
    rw [← hb, ← hl, ← ha, ← h0]
    rfl
  have ah0 : Ahd (RS.on t) = volM.data.toList ++ (root.data.toList ++ (lst.data.toList ++ (vi v ++ (lv.data.toList ++ l)))) := by
    have : t.data.toList = Ahd (RS.on t) := rfl
    rw [← this, ht]
    simp only [List.append_assoc]
  have r0 := word_enc hw0 ah0
  rw [h0] at r0
  obtain ⟨a1, a2⟩ := bytes_enc r0.ok r0.ah hr
  rw [ha] at a1 a2
  obtain ⟨k1, k2, k3, k4, k5, k6⟩ := list_enc (l := vi v ++ (lv.data.toList ++ l)) a2.ok h (by rw [a2.ah, hls])
  rw [hl] at k1 k2 k3 k4 k5 k6
  obtain ⟨b1, b2⟩ := num_enc (lo := 0) (hi := (l1.V : Int) - 1) k6.ok k6.ah (Nat.zero_le _) (by rw [k4]; omega) (by have := h.v16; omega)
  rw [hb] at b1 b2
  have hcnt : l1.cnt = cnt := by unfold LT.cnt; rw [k1, k2, k3, k5]; exact hc
  obtain ⟨c1, c2⟩ := bytes_enc (n := l1.cnt * 32) b2.ok b2.ah (by rw [hcnt]; exact hlv)
  have hnx : (l1.st.text.extract a.1.next l1.st.next).data.toList = lst.data.toList := by
    have na : Nt a.1 := by rw [← ha, ← h0]; exact bytes_nt (word_nt (Nat.zero_le _) _) _
    have nl : Nt l1.st := by rw [← hl]; exact list_nt na
    have d2 : Ahd a.1 = lst.data.toList ++ Ahd l1.st := by rw [a2.ah, k6.ah]
    have := ahd_len k6.text na (by rw [← k6.text]; exact nl) d2
    rw [ext_list, k6.text, this, show a.1.next + lst.data.toList.length - a.1.next = lst.data.toList.length by omega]
    have d3 : a.1.text.data.toList.drop a.1.next = lst.data.toList ++ Ahd l1.st := d2
    rw [d3, List.take_left]
  rw [e, b2.ok, if_neg (by simp), if_neg (by omega)]
  exact ⟨c2.ok, k1, k2, k3, k4, k5, b1, a1, ba_ext hnx, c1, c2.ah⟩
/-- a volume, as it is written, read -/
structure Wrt (t : ByteArray) (K M C V v : Nat) (es : List (ByteArray × Nat)) (root lst lv ck rest : ByteArray) : Prop where
  tld : Tld (RS.on t).told K M C V v es root lst lv (ck.data.toList ++ rest.data.toList)
  ok : (tCk t).1.wrong = false
  ck : (tCk t).2 = ck
  told : tTold t = volM ++ root ++ lst ++ vint v ++ lv
  rest : tRest t = rest
theorem wrt_enc {t root lst lv ck rest : ByteArray} {K M C V v cnt : Nat} {es : List (ByteArray × Nat)} (h : LOk K M C V es) (hr : root.size = 32) (hv : v < V) (hc : nst (K * C) (lenE es) * (K + M) = cnt) (hc2 : cnt ≤ 512) (hlv : lv.size = cnt * 32) (hls : lst.data.toList = lstL K M C V es) (hk : ck.size = 32)
    (ht : t = volM ++ root ++ lst ++ vint v ++ lv ++ ck ++ rest) : Wrt t K M C V v es root lst lv ck rest := by
  have hl : t.data.toList = volM.data.toList ++ root.data.toList ++ lst.data.toList ++ vi v ++ lv.data.toList ++ (ck.data.toList ++ rest.data.toList) := by
    rw [ht]
    simp only [app_list, vint_list, List.append_assoc]
  have hT := told_enc h hr hv hc hc2 hlv hls hl
  obtain ⟨c1, c2⟩ := bytes_enc hT.ok hT.ah hk
  have hok : (tCk t).1.wrong = false := c2.ok
  obtain ⟨d1, d2⟩ := ck_dec hok
  refine ⟨hT, hok, c1, ?_, ?_⟩
  · apply ba_ext
    rw [d2, hT.root, hT.lst, hT.num, hT.lv]
    simp only [app_list, vint_list]
  · apply ba_ext
    have h3 : (tRest t).data.toList = Ahd (tCk t).1 := by unfold tRest Ahd; rw [ext_end, ck_text]
    rw [h3]
    exact c2.ah
theorem wrt_rd {kt : Nat → Int} {t root lst lv ck rest : ByteArray} {K M C V v cnt : Nat} {es : List (ByteArray × Nat)} (h : Wrt t K M C V v es root lst lv ck rest) (hc : nst (K * C) (lenE es) * (K + M) = cnt) (hs : t.size ≤ 60000) (hk : ck = ofT kt (⟨#[3]⟩ ++ (volM ++ root ++ lst ++ vint v ++ lv))) (hr : root = rootT (ofT kt) lst cnt (pc lv 32)) (hz : rest.size ≤ ((v + 1) * cnt / V - v * cnt / V) * C) : rdE kt t = none := by
  have hcnt : (RS.on t).told.L.cnt = cnt := by unfold LT.cnt; rw [h.tld.K, h.tld.M, h.tld.C, h.tld.es]; exact hc
  unfold rdE
  rw [if_neg (by omega), if_neg (by rw [h.ok]; simp), if_pos (by rw [h.ck, h.told]; exact hk), if_pos (by rw [h.tld.root, h.tld.lst, hcnt, h.tld.lv]; exact hr), if_neg]
  unfold TT.size TT.first
  rw [h.rest, h.tld.num, hcnt, h.tld.V, h.tld.C]
  omega
end Go.Proofs.YtadinjaocnlglaaGreatDoor
namespace Go.Proofs.YtadinjaocnlglaaGreatDoor
open Go.RowKit
set_option maxRecDepth 100000
set_option maxHeartbeats 1000000
theorem whl_get (S : Nat → ByteArray) (k m c i : Nat) (hi : i < k + m) : (whl S k m c)[i]? = some (.string (allS S k c i)) := by
  unfold whl allS
  by_cases h : i < k
  · rw [List.getElem?_append_left (by rw [tV_len]; exact h), if_pos h]
    simp [tV, h]
  · rw [List.getElem?_append_right (by rw [tV_len]; omega), if_neg h, tV_len]
    simp [tV, show i - k < m by omega]
theorem blkV_length (t : ByteArray) (z K M C : Nat) : ∀ n, (blkV t z K M C n).length = n * (K + M)
  | 0 => by simp [blkV]
  | n + 1 => by rw [blkV, List.length_append, blkV_length t z K M C n, whl_len, Nat.succ_mul]
theorem blkV_get (t : ByteArray) (z K M C : Nat) : ∀ n st i, st < n → i < K + M → (blkV t z K M C n)[st * (K + M) + i]? = some (.string (allS (dat t z C st) K C i))
  | 0, st, i, h, _ => by omega
  | n + 1, st, i, h, hi => by
    rw [blkV]
    by_cases e : st = n
    · subst e
      rw [List.getElem?_append_right (by rw [blkV_length]; omega), blkV_length, Nat.add_sub_cancel_left]
      exact whl_get _ _ _ _ _ hi
    · have h1 : (st + 1) * (K + M) ≤ n * (K + M) := Nat.mul_le_mul_right _ (by omega)
      rw [Nat.succ_mul] at h1
      rw [List.getElem?_append_left (by rw [blkV_length]; omega)]
      exact blkV_get t z K M C n st i (by omega) hi
/-- the data of a stripe -/
def daT (K C : Nat) (s : ByteArray) (st : Nat) : Nat → ByteArray := dat (strm (K * C) s) (K * C) C st
theorem bk_at {K M C : Nat} {s : ByteArray} {st i : Nat} (hs : st < nst (K * C) s.size) (hi : i < K + M) : bkT K M C s (st * (K + M) + i) = allS (daT K C s st) K C i := by
  unfold bkT bkS
  rw [blkV_get _ _ _ _ _ _ _ _ hs hi]
  rfl
theorem da_size {K C : Nat} {s : ByteArray} {st : Nat} (hz : 0 < K * C) (hs : st < nst (K * C) s.size) : ∀ i, i < K → (daT K C s st i).size = C := fun i hi => by
  unfold daT dat
  exact pc_size _ C K i (pc_size _ (K * C) _ st (strm_size _ _ hz) hs) hi
/-- a vault's params, entries and stream -/
structure VOk (K M C V cnt : Nat) (es : List (ByteArray × Nat)) (s : ByteArray) : Prop where
  lok : LOk K M C V es
  len : s.size = lenE es
  ct : nst (K * C) s.size * (K + M) = cnt
  c512 : cnt ≤ 512
section
variable {K M C V cnt : Nat} {es : List (ByteArray × Nat)} {s : ByteArray}
theorem VOk.z (h : VOk K M C V cnt es s) : 0 < K * C := Nat.mul_pos h.lok.k1 h.lok.c1
theorem VOk.n (h : VOk K M C V cnt es s) : 0 < K + M := by have := h.lok.k1; omega
theorem VOk.split (h : VOk K M C V cnt es s) {x : Nat} (hx : x < cnt) : x / (K + M) < nst (K * C) s.size ∧ x % (K + M) < K + M ∧ x / (K + M) * (K + M) + x % (K + M) = x := by
  refine ⟨?_, Nat.mod_lt _ h.n, by rw [Nat.mul_comm]; exact Nat.div_add_mod x _⟩
  rw [Nat.div_lt_iff_lt_mul h.n, h.ct]; exact hx
theorem VOk.bk (h : VOk K M C V cnt es s) {x : Nat} (hx : x < cnt) : (bkT K M C s x).size = C := by
  obtain ⟨h1, h2, h3⟩ := h.split hx
  rw [← h3, bk_at h1 h2]
  exact allS_size _ _ _ _ (da_size h.z h1)
end
theorem jL_split (F : Nat → ByteArray) : ∀ n i, i < n → ∃ r, jL F n = jL F i ++ (F i).data.toList ++ r
  | 0, i, h => by omega
  | n + 1, i, h => by
    have e : jL F (n + 1) = jL F n ++ (F n).data.toList := by simp [jL, List.range_succ]
    by_cases ei : i = n
    · subst ei; exact ⟨[], by rw [e, List.append_nil]⟩
    · obtain ⟨r, hr⟩ := jL_split F n i (by omega)
      exact ⟨r ++ (F n).data.toList, by rw [e, hr]; simp only [List.append_assoc]⟩
theorem pc_jT {F : Nat → ByteArray} {c n i : Nat} (hF : ∀ j, j < n → (F j).size = c) (hi : i < n) : pc (jT F n) c i = F i := by
  apply ba_ext
  unfold pc
  rw [ext_list]
  obtain ⟨r, hr⟩ := jL_split F n i hi
  have e : (jT F n).data.toList = jL F n := rfl
  have hl := jL_eq F c i (fun j hj => hF j (by omega))
  rw [e, hr, List.append_assoc, ← hl, List.drop_left, hl, Nat.succ_mul, Nat.add_sub_cancel_left]
  have h2 : (F i).data.toList.length = c := by rw [dl]; exact hF i hi
  rw [← h2, List.take_left]
/-- the list, the root, the leaves, the head and the blocks of a vault's volumes -/
def lsE (K M C V : Nat) (es : List (ByteArray × Nat)) : ByteArray := lstT K M C V es.length (nmE es) (lnE es)
def lfE (kt : Nat → Int) (K M C : Nat) (s : ByteArray) (i : Nat) : ByteArray := leafT (ofT kt) (bkT K M C s i)
def rtE (kt : Nat → Int) (K M C V : Nat) (es : List (ByteArray × Nat)) (s : ByteArray) : ByteArray := rootT (ofT kt) (lsE K M C V es) (nbT K M C s) (lfE kt K M C s)
def lvE (kt : Nat → Int) (K M C : Nat) (s : ByteArray) : ByteArray := jT (lfE kt K M C s) (nbT K M C s)
def toE (kt : Nat → Int) (K M C V : Nat) (es : List (ByteArray × Nat)) (s : ByteArray) (v : Nat) : ByteArray := volM ++ rtE kt K M C V es s ++ lsE K M C V es ++ vint v ++ lvE kt K M C s
def hdE (kt : Nat → Int) (K M C V : Nat) (es : List (ByteArray × Nat)) (s : ByteArray) (v : Nat) : ByteArray := toE kt K M C V es s v ++ ofT kt (⟨#[3]⟩ ++ toE kt K M C V es s v)
def reE (K M C V : Nat) (s : ByteArray) (v : Nat) : ByteArray := jT (fun i => bkT K M C s (v * nbT K M C s / V + i)) ((v + 1) * nbT K M C s / V - v * nbT K M C s / V)
theorem lf_size (kt : Nat → Int) (K M C : Nat) (s : ByteArray) (i : Nat) : (lfE kt K M C s i).size = 32 := ofT_size _ _
theorem lv_size (kt : Nat → Int) (K M C : Nat) (s : ByteArray) : (lvE kt K M C s).size = nbT K M C s * 32 := jT_eq _ 32 _ (fun i _ => lf_size kt K M C s i)
theorem lv_pc (kt : Nat → Int) (K M C : Nat) (s : ByteArray) {i : Nat} (hi : i < nbT K M C s) : pc (lvE kt K M C s) 32 i = lfE kt K M C s i := pc_jT (fun j _ => lf_size kt K M C s j) hi
theorem vi_len (n : Nat) : (vi n).length ≤ 5 := by rw [← vint_list, dl]; exact vint_size n
theorem enL_len : ∀ (es : List (ByteArray × Nat)) (b : ByteArray), EOrd b es → (enL es).length ≤ es.length * 265
  | [], _, _ => by simp [enL]
  | x :: r, b, h => by
    have ih := enL_len r x.1 h.2.2.2
    have h1 := vi_len x.1.size
    have h2 := vi_len x.2
    have h3 := h.2.1
    have h4 : x.1.data.toList.length = x.1.size := dl _
    rw [enL_cons]
    simp only [List.length_append, List.length_cons, Nat.succ_mul]
    omega
theorem ls_len {K M C V : Nat} {es : List (ByteArray × Nat)} (h : LOk K M C V es) : (lsE K M C V es).size ≤ 4300 := by
  have e : (lsE K M C V es).data.toList = lstL K M C V es := lstT_list K M C V es
  rw [← dl, e]
  unfold lstL
  have h0 : vltT.data.toList.length = 4 := rfl
  have h1 := vi_len K; have h2 := vi_len M; have h3 := vi_len C; have h4 := vi_len V; have h5 := vi_len es.length
  have h6 := enL_len es _ h.ord
  have h7 := h.len
  simp only [List.length_append]
  omega
section
variable {K M C V cnt : Nat} {es : List (ByteArray × Nat)} {s : ByteArray}
/-- a volume, whatever lies behind its head -/
theorem VOk.wrt (kt : Nat → Int) (h : VOk K M C V cnt es s) {v : Nat} (hv : v < V) (R : ByteArray) : Wrt (hdE kt K M C V es s v ++ R) K M C V v es (rtE kt K M C V es s) (lsE K M C V es) (lvE kt K M C s) (ofT kt (⟨#[3]⟩ ++ toE kt K M C V es s v)) R := by
  refine wrt_enc h.lok (ofT_size _ _) hv (by rw [← h.len]; exact h.ct) h.c512 ?_ (lstT_list K M C V es) (ofT_size _ _) ?_
  · rw [lv_size]; unfold nbT; rw [h.ct]
  · unfold hdE toE
    rfl
theorem VOk.rd (kt : Nat → Int) (h : VOk K M C V cnt es s) {v : Nat} (hv : v < V) {R : ByteArray} (hR : R.size ≤ ((v + 1) * cnt / V - v * cnt / V) * C) : rdE kt (hdE kt K M C V es s v ++ R) = none := by
  have hnb : nbT K M C s = cnt := h.ct
  have hc : nst (K * C) (lenE es) * (K + M) = cnt := by rw [← h.len]; exact h.ct
  have hen : (v + 1) * cnt / V ≤ cnt := Nat.le_trans (Nat.div_le_div_right (Nat.mul_le_mul_right _ hv)) (by rw [Nat.mul_div_cancel_left _ h.lok.v1]; exact Nat.le_refl _)
  refine wrt_rd (h.wrt kt hv R) hc ?_ rfl ?_ hR
  · have e1 : R.size ≤ 512 * 64 := Nat.le_trans hR (Nat.mul_le_mul (Nat.le_trans (Nat.sub_le _ _) (Nat.le_trans hen h.c512)) h.lok.c64)
    have e2 := ls_len h.lok
    have e3 := vint_size v
    have e4 := lv_size kt K M C s
    have e5 : (rtE kt K M C V es s).size = 32 := ofT_size _ _
    have e6 : (ofT kt (⟨#[3]⟩ ++ toE kt K M C V es s v)).size = 32 := ofT_size _ _
    have e7 : volM.size = 4 := rfl
    have e8 := h.c512
    rw [hnb] at e4
    unfold hdE
    rw [ByteArray.size_append, ByteArray.size_append, e6]
    unfold toE
    simp only [ByteArray.size_append]
    omega
  · show rootT (ofT kt) (lsE K M C V es) (nbT K M C s) (lfE kt K M C s) = _
    rw [hnb]
    unfold rootT
    rw [topT_congr (ofT kt) cnt cnt _ _ (Nat.le_refl _) (fun i hi => (lv_pc kt K M C s (by rw [hnb]; exact hi)).symm)]
theorem VOk.sd (kt : Nat → Int) (h : VOk K M C V cnt es s) {v : Nat} (hv : v < V) {R : ByteArray} (hR : R.size ≤ ((v + 1) * cnt / V - v * cnt / V) * C) {rt : ByteArray} (hrt : rt = ⟨#[]⟩ ∨ rt = rtE kt K M C V es s) : sdE kt rt (hdE kt K M C V es s v ++ R) = none := by
  unfold sdE
  rw [h.rd kt hv hR]
  rw [if_neg (by simp)]
  split
  · rfl
  · rename_i hne
    rw [if_pos]
    rw [(h.wrt kt hv R).tld.root]
    rcases hrt with e | e
    · exact absurd e hne
    · exact e.symm
end
/-- texts that are volumes of the vault, each number once -/
structure Part (kt : Nat → Int) (K M C V cnt : Nat) (es : List (ByteArray × Nat)) (s : ByteArray) (L : Nat → ByteArray) (n : Nat) (Nu : Nat → Nat) (R : Nat → ByteArray) : Prop where
  at_ : ∀ j, j < n → L j = hdE kt K M C V es s (Nu j) ++ R j
  num : ∀ j, j < n → Nu j < V
  fit : ∀ j, j < n → (R j).size ≤ ((Nu j + 1) * cnt / V - Nu j * cnt / V) * C
  ne : ∀ j k, j < n → k < n → j ≠ k → Nu j ≠ Nu k
section
variable {kt : Nat → Int} {K M C V cnt : Nat} {es : List (ByteArray × Nat)} {s : ByteArray} {L : Nat → ByteArray} {n : Nat} {Nu : Nat → Nat} {R : Nat → ByteArray}
theorem Part.wrt (p : Part kt K M C V cnt es s L n Nu R) (h : VOk K M C V cnt es s) {j : Nat} (hj : j < n) : Wrt (L j) K M C V (Nu j) es (rtE kt K M C V es s) (lsE K M C V es) (lvE kt K M C s) (ofT kt (⟨#[3]⟩ ++ toE kt K M C V es s (Nu j))) (R j) := by
  rw [p.at_ j hj]; exact h.wrt kt (p.num j hj) _
theorem Part.tld (p : Part kt K M C V cnt es s L n Nu R) (h : VOk K M C V cnt es s) {j : Nat} (hj : j < n) : Tld (RS.on (L j)).told K M C V (Nu j) es (rtE kt K M C V es s) (lsE K M C V es) (lvE kt K M C s) ((ofT kt (⟨#[3]⟩ ++ toE kt K M C V es s (Nu j))).data.toList ++ (R j).data.toList) := (p.wrt h hj).tld
theorem Part.ct (p : Part kt K M C V cnt es s L n Nu R) (h : VOk K M C V cnt es s) {j : Nat} (hj : j < n) : (tT (L j)).L.cnt = cnt := by
  have t := p.tld h hj
  unfold tT LT.cnt
  rw [t.K, t.M, t.C, t.es, ← h.len]; exact h.ct
theorem Part.one (p : Part kt K M C V cnt es s L n Nu R) (h : VOk K M C V cnt es s) : One kt L n K M C V cnt es (rtE kt K M C V es s) (lsE K M C V es) (lvE kt K M C s) where
  rd := fun j hj => by rw [p.at_ j hj]; exact h.rd kt (p.num j hj) (p.fit j hj)
  K := fun j hj => (p.tld h hj).K
  M := fun j hj => (p.tld h hj).M
  C := fun j hj => (p.tld h hj).C
  V := fun j hj => (p.tld h hj).V
  es := fun j hj => (p.tld h hj).es
  cnt := fun j hj => p.ct h hj
  root := fun j hj => (p.tld h hj).root
  lst := fun j hj => (p.tld h hj).lst
  lv := fun j hj => (p.tld h hj).lv
  ne := fun j k hj hk hne => by
    have e1 : (tT (L j)).num = Nu j := (p.tld h hj).num
    have e2 : (tT (L k)).num = Nu k := (p.tld h hk).num
    rw [e1, e2]; exact p.ne j k hj hk hne
theorem Part.good (p : Part kt K M C V cnt es s L n Nu R) (h : VOk K M C V cnt es s) {rt : ByteArray} (hrt : rt = ⟨#[]⟩ ∨ rt = rtE kt K M C V es s) : GoodL kt rt L n := fun j hj => by
  have o := p.one h
  refine ⟨by rw [p.at_ j hj]; exact h.sd kt (p.num j hj) (p.fit j hj) hrt, ?_, fun k hk => o.ne k j (by omega) hj (by omega)⟩
  exact ⟨(o.root 0 (by omega)).trans (o.root j hj).symm, (o.lst 0 (by omega)).trans (o.lst j hj).symm, (o.lv 0 (by omega)).trans (o.lv j hj).symm⟩
/-- a block that is there -/
theorem Part.bl (p : Part kt K M C V cnt es s L n Nu R) (h : VOk K M C V cnt es s) {j i : Nat} (hj : j < n) (hi : i < (R j).size / C) : blL L n (Nu j * cnt / V + i) = pc (R j) C i := by
  have o := p.one h
  have e1 : (tT (L j)).num = Nu j := (p.tld h hj).num
  have e2 : tRest (L j) = R j := (p.wrt h hj).rest
  have e3 : nB (L j) = (R j).size / C := by unfold nB; rw [e2, o.C j hj]
  have := bl_in n o j i hj (by rw [e3]; exact hi)
  rw [o.first hj, e1, e2] at this
  exact this
/-- a block that isn't -/
theorem Part.no (p : Part kt K M C V cnt es s L n Nu R) (h : VOk K M C V cnt es s) {x : Nat} (hx : ∀ j, j < n → ¬ (Nu j * cnt / V ≤ x ∧ x < Nu j * cnt / V + (R j).size / C)) : blL L n x = ⟨#[]⟩ := by
  have o := p.one h
  refine bl_out n (fun j hj => ?_)
  have e1 : (tT (L j)).num = Nu j := (p.tld h hj).num
  have e2 : tRest (L j) = R j := (p.wrt h hj).rest
  have e3 : nB (L j) = (R j).size / C := by unfold nB; rw [e2, o.C j hj]
  rw [o.first hj, e1, e3]
  exact hx j hj
end
end Go.Proofs.YtadinjaocnlglaaGreatDoor
