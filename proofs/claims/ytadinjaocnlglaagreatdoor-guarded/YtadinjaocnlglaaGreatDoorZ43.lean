/-
  Plain: a volume that is written is read rightly.
  Plain: a vault as data; its volumes, whole or harmed behind their heads, are taken.
  Plain: a stripe of which enough blocks are good comes back; the stream.
  Plain: the vault that comes of sorted objects.
-/
import Derived.Test.YtadinjaocnlglaaGreatDoorZ37
import Derived.Test.YtadinjaocnlglaaGreatDoorZ17
import Derived.Test.YtadinjaocnlglaaGreatDoorZ39
import Derived.Sort.Walk0
namespace Go.Proofs.YtadinjaocnlglaaGreatDoor
open Go.RowKit
set_option maxRecDepth 100000
set_option maxHeartbeats 1000000
/-- what a text tells that was written so -/
structure Tld (T : TT) (K M C V v : Nat) (es : List (ByteArray × Nat)) (root lst lv : ByteArray) (l : List UInt8) : Prop where
  ok : T.st.wrong = false
  K : T.L.K = K
  M : T.L.M = M
  C : T.L.C = C
  V : T.L.V = V
  es : T.L.es = es
  num : T.num = v
  root : T.root = root
  lst : T.lst = lst
  lv : T.lv = lv
  ah : Ahd T.st = l
theorem told_enc {t root lst lv : ByteArray} {K M C V v cnt : Nat} {es : List (ByteArray × Nat)} {l : List UInt8} (h : LOk K M C V es) (hr : root.size = 32) (hv : v < V) (hc : nst (K * C) (lenE es) * (K + M) = cnt) (hc2 : cnt ≤ 512) (hlv : lv.size = cnt * 32) (hls : lst.data.toList = lstL K M C V es)
    (ht : t.data.toList = volM.data.toList ++ root.data.toList ++ lst.data.toList ++ vi v ++ lv.data.toList ++ l) : Tld (RS.on t).told K M C V v es root lst lv l := by
  have hw0 : (RS.on t).wrong = false := rfl
  obtain ⟨s0, h0⟩ : ∃ x, (RS.on t).word volM = x := ⟨_, rfl⟩
  obtain ⟨a, ha⟩ : ∃ x, s0.bytes 32 = x := ⟨_, rfl⟩
  obtain ⟨l1, hl⟩ : ∃ x, a.1.list = x := ⟨_, rfl⟩
  obtain ⟨b, hb⟩ : ∃ x, l1.st.num 0 ((l1.V : Int) - 1) = x := ⟨_, rfl⟩
  obtain ⟨c, hcc⟩ : ∃ x, b.1.bytes (l1.cnt * 32) = x := ⟨_, rfl⟩
  have e : (RS.on t).told = if b.1.wrong then ⟨b.1, a.2, l1.st.text.extract a.1.next l1.st.next, l1, b.2, ⟨#[]⟩⟩ else ⟨((if 512 < l1.cnt then b.1.refuse else b.1).bytes (l1.cnt * 32)).1, a.2, l1.st.text.extract a.1.next l1.st.next, l1, b.2, ((if 512 < l1.cnt then b.1.refuse else b.1).bytes (l1.cnt * 32)).2⟩ := by
    rw [← hb, ← hl, ← ha, ← h0]
    rfl
  have ah0 : Ahd (RS.on t) = volM.data.toList ++ (root.data.toList ++ (lst.data.toList ++ (vi v ++ (lv.data.toList ++ l)))) := by
    have : t.data.toList = Ahd (RS.on t) := rfl
    rw [← this, ht]
    simp only [List.append_assoc]
  have r0 := word_enc hw0 ah0
  rw [h0] at r0
  obtain ⟨a1, a2⟩ := bytes_enc r0.ok r0.ah hr
  rw [ha] at a1 a2
  obtain ⟨k1, k2, k3, k4, k5, k6⟩ := list_enc (l := vi v ++ (lv.data.toList ++ l)) a2.ok h (by rw [a2.ah, hls])
  rw [hl] at k1 k2 k3 k4 k5 k6
  obtain ⟨b1, b2⟩ := num_enc (lo := 0) (hi := (l1.V : Int) - 1) k6.ok k6.ah (Nat.zero_le _) (by rw [k4]; omega) (by have := h.v16; omega)
  rw [hb] at b1 b2
  have hcnt : l1.cnt = cnt := by unfold LT.cnt; rw [k1, k2, k3, k5]; exact hc
  obtain ⟨c1, c2⟩ := bytes_enc (n := l1.cnt * 32) b2.ok b2.ah (by rw [hcnt]; exact hlv)
  have hnx : (l1.st.text.extract a.1.next l1.st.next).data.toList = lst.data.toList := by
    have na : Nt a.1 := by rw [← ha, ← h0]; exact bytes_nt (word_nt (Nat.zero_le _) _) _
    have nl : Nt l1.st := by rw [← hl]; exact list_nt na
    have d2 : Ahd a.1 = lst.data.toList ++ Ahd l1.st := by rw [a2.ah, k6.ah]
    have := ahd_len k6.text na (by rw [← k6.text]; exact nl) d2
    rw [ext_list, k6.text, this, show a.1.next + lst.data.toList.length - a.1.next = lst.data.toList.length by omega]
    have d3 : a.1.text.data.toList.drop a.1.next = lst.data.toList ++ Ahd l1.st := d2
    rw [d3, List.take_left]
  rw [e, b2.ok, if_neg (by simp), if_neg (by omega)]
  exact ⟨c2.ok, k1, k2, k3, k4, k5, b1, a1, ba_ext hnx, c1, c2.ah⟩
/-- a volume, as it is written, read -/
structure Wrt (t : ByteArray) (K M C V v : Nat) (es : List (ByteArray × Nat)) (root lst lv ck rest : ByteArray) : Prop where
  tld : Tld (RS.on t).told K M C V v es root lst lv (ck.data.toList ++ rest.data.toList)
  ok : (tCk t).1.wrong = false
  ck : (tCk t).2 = ck
  told : tTold t = volM ++ root ++ lst ++ vint v ++ lv
  rest : tRest t = rest
theorem wrt_enc {t root lst lv ck rest : ByteArray} {K M C V v cnt : Nat} {es : List (ByteArray × Nat)} (h : LOk K M C V es) (hr : root.size = 32) (hv : v < V) (hc : nst (K * C) (lenE es) * (K + M) = cnt) (hc2 : cnt ≤ 512) (hlv : lv.size = cnt * 32) (hls : lst.data.toList = lstL K M C V es) (hk : ck.size = 32)
    (ht : t = volM ++ root ++ lst ++ vint v ++ lv ++ ck ++ rest) : Wrt t K M C V v es root lst lv ck rest := by
  have hl : t.data.toList = volM.data.toList ++ root.data.toList ++ lst.data.toList ++ vi v ++ lv.data.toList ++ (ck.data.toList ++ rest.data.toList) := by
    rw [ht]
    simp only [app_list, vint_list, List.append_assoc]
  have hT := told_enc h hr hv hc hc2 hlv hls hl
  obtain ⟨c1, c2⟩ := bytes_enc hT.ok hT.ah hk
  have hok : (tCk t).1.wrong = false := c2.ok
  obtain ⟨d1, d2⟩ := ck_dec hok
  refine ⟨hT, hok, c1, ?_, ?_⟩
  · apply ba_ext
    rw [d2, hT.root, hT.lst, hT.num, hT.lv]
    simp only [app_list, vint_list]
  · apply ba_ext
    have h3 : (tRest t).data.toList = Ahd (tCk t).1 := by unfold tRest Ahd; rw [ext_end, ck_text]
    rw [h3]
    exact c2.ah
theorem wrt_rd {kt : Nat → Int} {t root lst lv ck rest : ByteArray} {K M C V v cnt : Nat} {es : List (ByteArray × Nat)} (h : Wrt t K M C V v es root lst lv ck rest) (hc : nst (K * C) (lenE es) * (K + M) = cnt) (hs : t.size ≤ 60000) (hk : ck = ofT kt (⟨#[3]⟩ ++ (volM ++ root ++ lst ++ vint v ++ lv))) (hr : root = rootT (ofT kt) lst cnt (pc lv 32)) (hz : rest.size ≤ ((v + 1) * cnt / V - v * cnt / V) * C) : rdE kt t = none := by
  have hcnt : (RS.on t).told.L.cnt = cnt := by unfold LT.cnt; rw [h.tld.K, h.tld.M, h.tld.C, h.tld.es]; exact hc
  unfold rdE
  rw [if_neg (by omega), if_neg (by rw [h.ok]; simp), if_pos (by rw [h.ck, h.told]; exact hk), if_pos (by rw [h.tld.root, h.tld.lst, hcnt, h.tld.lv]; exact hr), if_neg]
  unfold TT.size TT.first
  rw [h.rest, h.tld.num, hcnt, h.tld.V, h.tld.C]
  omega
end Go.Proofs.YtadinjaocnlglaaGreatDoor
namespace Go.Proofs.YtadinjaocnlglaaGreatDoor
open Go.RowKit
set_option maxRecDepth 100000
set_option maxHeartbeats 1000000
theorem whl_get (S : Nat → ByteArray) (k m c i : Nat) (hi : i < k + m) : (whl S k m c)[i]? = some (.string (allS S k c i)) := by
  unfold whl allS
  by_cases h : i < k
  · rw [List.getElem?_append_left (by rw [tV_len]; exact h), if_pos h]
    simp [tV, h]
  · rw [List.getElem?_append_right (by rw [tV_len]; omega), if_neg h, tV_len]
    simp [tV, show i - k < m by omega]
theorem blkV_length (t : ByteArray) (z K M C : Nat) : ∀ n, (blkV t z K M C n).length = n * (K + M)
  | 0 => by simp [blkV]
  | n + 1 => by rw [blkV, List.length_append, blkV_length t z K M C n, whl_len, Nat.succ_mul]
theorem blkV_get (t : ByteArray) (z K M C : Nat) : ∀ n st i, st < n → i < K + M → (blkV t z K M C n)[st * (K + M) + i]? = some (.string (allS (dat t z C st) K C i))
  | 0, st, i, h, _ => by omega
  | n + 1, st, i, h, hi => by
    rw [blkV]
    by_cases e : st = n
    · subst e
      rw [List.getElem?_append_right (by rw [blkV_length]; omega), blkV_length, Nat.add_sub_cancel_left]
      exact whl_get _ _ _ _ _ hi
    · have h1 : (st + 1) * (K + M) ≤ n * (K + M) := Nat.mul_le_mul_right _ (by omega)
      rw [Nat.succ_mul] at h1
      rw [List.getElem?_append_left (by rw [blkV_length]; omega)]
      exact blkV_get t z K M C n st i (by omega) hi
/-- the data of a stripe -/
def daT (K C : Nat) (s : ByteArray) (st : Nat) : Nat → ByteArray := dat (strm (K * C) s) (K * C) C st
theorem bk_at {K M C : Nat} {s : ByteArray} {st i : Nat} (hs : st < nst (K * C) s.size) (hi : i < K + M) : bkT K M C s (st * (K + M) + i) = allS (daT K C s st) K C i := by
  unfold bkT bkS
  rw [blkV_get _ _ _ _ _ _ _ _ hs hi]
  rfl
theorem da_size {K C : Nat} {s : ByteArray} {st : Nat} (hz : 0 < K * C) (hs : st < nst (K * C) s.size) : ∀ i, i < K → (daT K C s st i).size = C := fun i hi => by
  unfold daT dat
  exact pc_size _ C K i (pc_size _ (K * C) _ st (strm_size _ _ hz) hs) hi
/-- a vault's params, entries and stream -/
structure VOk (K M C V cnt : Nat) (es : List (ByteArray × Nat)) (s : ByteArray) : Prop where
  lok : LOk K M C V es
  len : s.size = lenE es
  ct : nst (K * C) s.size * (K + M) = cnt
  c512 : cnt ≤ 512
section
variable {K M C V cnt : Nat} {es : List (ByteArray × Nat)} {s : ByteArray}
theorem VOk.z (h : VOk K M C V cnt es s) : 0 < K * C := Nat.mul_pos h.lok.k1 h.lok.c1
theorem VOk.n (h : VOk K M C V cnt es s) : 0 < K + M := by have := h.lok.k1; omega
theorem VOk.split (h : VOk K M C V cnt es s) {x : Nat} (hx : x < cnt) : x / (K + M) < nst (K * C) s.size ∧ x % (K + M) < K + M ∧ x / (K + M) * (K + M) + x % (K + M) = x := by
  refine ⟨?_, Nat.mod_lt _ h.n, by rw [Nat.mul_comm]; exact Nat.div_add_mod x _⟩
  rw [Nat.div_lt_iff_lt_mul h.n, h.ct]; exact hx
theorem VOk.bk (h : VOk K M C V cnt es s) {x : Nat} (hx : x < cnt) : (bkT K M C s x).size = C := by
  obtain ⟨h1, h2, h3⟩ := h.split hx
  rw [← h3, bk_at h1 h2]
  exact allS_size _ _ _ _ (da_size h.z h1)
end
theorem jL_split (F : Nat → ByteArray) : ∀ n i, i < n → ∃ r, jL F n = jL F i ++ (F i).data.toList ++ r
  | 0, i, h => by omega
  | n + 1, i, h => by
    have e : jL F (n + 1) = jL F n ++ (F n).data.toList := by simp [jL, List.range_succ]
    by_cases ei : i = n
    · subst ei; exact ⟨[], by rw [e, List.append_nil]⟩
    · obtain ⟨r, hr⟩ := jL_split F n i (by omega)
      exact ⟨r ++ (F n).data.toList, by rw [e, hr]; simp only [List.append_assoc]⟩
theorem pc_jT {F : Nat → ByteArray} {c n i : Nat} (hF : ∀ j, j < n → (F j).size = c) (hi : i < n) : pc (jT F n) c i = F i := by
  apply ba_ext
  unfold pc
  rw [ext_list]
  obtain ⟨r, hr⟩ := jL_split F n i hi
  have e : (jT F n).data.toList = jL F n := rfl
  have hl := jL_eq F c i (fun j hj => hF j (by omega))
  rw [e, hr, List.append_assoc, ← hl, List.drop_left, hl, Nat.succ_mul, Nat.add_sub_cancel_left]
  have h2 : (F i).data.toList.length = c := by rw [dl]; exact hF i hi
  rw [← h2, List.take_left]
/-- the list, the root, the leaves, the head and the blocks of a vault's volumes -/
def lsE (K M C V : Nat) (es : List (ByteArray × Nat)) : ByteArray := lstT K M C V es.length (nmE es) (lnE es)
def lfE (kt : Nat → Int) (K M C : Nat) (s : ByteArray) (i : Nat) : ByteArray := leafT (ofT kt) (bkT K M C s i)
def rtE (kt : Nat → Int) (K M C V : Nat) (es : List (ByteArray × Nat)) (s : ByteArray) : ByteArray := rootT (ofT kt) (lsE K M C V es) (nbT K M C s) (lfE kt K M C s)
def lvE (kt : Nat → Int) (K M C : Nat) (s : ByteArray) : ByteArray := jT (lfE kt K M C s) (nbT K M C s)
def toE (kt : Nat → Int) (K M C V : Nat) (es : List (ByteArray × Nat)) (s : ByteArray) (v : Nat) : ByteArray := volM ++ rtE kt K M C V es s ++ lsE K M C V es ++ vint v ++ lvE kt K M C s
def hdE (kt : Nat → Int) (K M C V : Nat) (es : List (ByteArray × Nat)) (s : ByteArray) (v : Nat) : ByteArray := toE kt K M C V es s v ++ ofT kt (⟨#[3]⟩ ++ toE kt K M C V es s v)
def reE (K M C V : Nat) (s : ByteArray) (v : Nat) : ByteArray := jT (fun i => bkT K M C s (v * nbT K M C s / V + i)) ((v + 1) * nbT K M C s / V - v * nbT K M C s / V)
theorem lf_size (kt : Nat → Int) (K M C : Nat) (s : ByteArray) (i : Nat) : (lfE kt K M C s i).size = 32 := ofT_size _ _
theorem lv_size (kt : Nat → Int) (K M C : Nat) (s : ByteArray) : (lvE kt K M C s).size = nbT K M C s * 32 := jT_eq _ 32 _ (fun i _ => lf_size kt K M C s i)
theorem lv_pc (kt : Nat → Int) (K M C : Nat) (s : ByteArray) {i : Nat} (hi : i < nbT K M C s) : pc (lvE kt K M C s) 32 i = lfE kt K M C s i := pc_jT (fun j _ => lf_size kt K M C s j) hi
theorem vi_len (n : Nat) : (vi n).length ≤ 5 := by rw [← vint_list, dl]; exact vint_size n
theorem enL_len : ∀ (es : List (ByteArray × Nat)) (b : ByteArray), EOrd b es → (enL es).length ≤ es.length * 265
  | [], _, _ => by simp [enL]
  | x :: r, b, h => by
    have ih := enL_len r x.1 h.2.2.2
    have h1 := vi_len x.1.size
    have h2 := vi_len x.2
    have h3 := h.2.1
    have h4 : x.1.data.toList.length = x.1.size := dl _
    rw [enL_cons]
    simp only [List.length_append, List.length_cons, Nat.succ_mul]
    omega
theorem ls_len {K M C V : Nat} {es : List (ByteArray × Nat)} (h : LOk K M C V es) : (lsE K M C V es).size ≤ 4300 := by
  have e : (lsE K M C V es).data.toList = lstL K M C V es := lstT_list K M C V es
  rw [← dl, e]
  unfold lstL
  have h0 : vltT.data.toList.length = 4 := rfl
  have h1 := vi_len K; have h2 := vi_len M; have h3 := vi_len C; have h4 := vi_len V; have h5 := vi_len es.length
  have h6 := enL_len es _ h.ord
  have h7 := h.len
  simp only [List.length_append]
  omega
section
variable {K M C V cnt : Nat} {es : List (ByteArray × Nat)} {s : ByteArray}
/-- a volume, whatever lies behind its head -/
theorem VOk.wrt (kt : Nat → Int) (h : VOk K M C V cnt es s) {v : Nat} (hv : v < V) (R : ByteArray) : Wrt (hdE kt K M C V es s v ++ R) K M C V v es (rtE kt K M C V es s) (lsE K M C V es) (lvE kt K M C s) (ofT kt (⟨#[3]⟩ ++ toE kt K M C V es s v)) R := by
  refine wrt_enc h.lok (ofT_size _ _) hv (by rw [← h.len]; exact h.ct) h.c512 ?_ (lstT_list K M C V es) (ofT_size _ _) ?_
  · rw [lv_size]; unfold nbT; rw [h.ct]
  · unfold hdE toE
    rfl
theorem VOk.rd (kt : Nat → Int) (h : VOk K M C V cnt es s) {v : Nat} (hv : v < V) {R : ByteArray} (hR : R.size ≤ ((v + 1) * cnt / V - v * cnt / V) * C) : rdE kt (hdE kt K M C V es s v ++ R) = none := by
  have hnb : nbT K M C s = cnt := h.ct
  have hc : nst (K * C) (lenE es) * (K + M) = cnt := by rw [← h.len]; exact h.ct
  have hen : (v + 1) * cnt / V ≤ cnt := Nat.le_trans (Nat.div_le_div_right (Nat.mul_le_mul_right _ hv)) (by rw [Nat.mul_div_cancel_left _ h.lok.v1]; exact Nat.le_refl _)
  refine wrt_rd (h.wrt kt hv R) hc ?_ rfl ?_ hR
  · have e1 : R.size ≤ 512 * 64 := Nat.le_trans hR (Nat.mul_le_mul (Nat.le_trans (Nat.sub_le _ _) (Nat.le_trans hen h.c512)) h.lok.c64)
    have e2 := ls_len h.lok
    have e3 := vint_size v
    have e4 := lv_size kt K M C s
    have e5 : (rtE kt K M C V es s).size = 32 := ofT_size _ _
    have e6 : (ofT kt (⟨#[3]⟩ ++ toE kt K M C V es s v)).size = 32 := ofT_size _ _
    have e7 : volM.size = 4 := rfl
    have e8 := h.c512
    rw [hnb] at e4
    unfold hdE
    rw [ByteArray.size_append, ByteArray.size_append, e6]
    unfold toE
    simp only [ByteArray.size_append]
    omega
  · show rootT (ofT kt) (lsE K M C V es) (nbT K M C s) (lfE kt K M C s) = _
    rw [hnb]
    unfold rootT
    rw [topT_congr (ofT kt) cnt cnt _ _ (Nat.le_refl _) (fun i hi => (lv_pc kt K M C s (by rw [hnb]; exact hi)).symm)]
theorem VOk.sd (kt : Nat → Int) (h : VOk K M C V cnt es s) {v : Nat} (hv : v < V) {R : ByteArray} (hR : R.size ≤ ((v + 1) * cnt / V - v * cnt / V) * C) {rt : ByteArray} (hrt : rt = ⟨#[]⟩ ∨ rt = rtE kt K M C V es s) : sdE kt rt (hdE kt K M C V es s v ++ R) = none := by
  unfold sdE
  rw [h.rd kt hv hR]
  rw [if_neg (by simp)]
  split
  · rfl
  · rename_i hne
    rw [if_pos]
    rw [(h.wrt kt hv R).tld.root]
    rcases hrt with e | e
    · exact absurd e hne
    · exact e.symm
end
/-- texts that are volumes of the vault, each number once -/
structure Part (kt : Nat → Int) (K M C V cnt : Nat) (es : List (ByteArray × Nat)) (s : ByteArray) (L : Nat → ByteArray) (n : Nat) (Nu : Nat → Nat) (R : Nat → ByteArray) : Prop where
  at_ : ∀ j, j < n → L j = hdE kt K M C V es s (Nu j) ++ R j
  num : ∀ j, j < n → Nu j < V
  fit : ∀ j, j < n → (R j).size ≤ ((Nu j + 1) * cnt / V - Nu j * cnt / V) * C
  ne : ∀ j k, j < n → k < n → j ≠ k → Nu j ≠ Nu k
section
variable {kt : Nat → Int} {K M C V cnt : Nat} {es : List (ByteArray × Nat)} {s : ByteArray} {L : Nat → ByteArray} {n : Nat} {Nu : Nat → Nat} {R : Nat → ByteArray}
theorem Part.wrt (p : Part kt K M C V cnt es s L n Nu R) (h : VOk K M C V cnt es s) {j : Nat} (hj : j < n) : Wrt (L j) K M C V (Nu j) es (rtE kt K M C V es s) (lsE K M C V es) (lvE kt K M C s) (ofT kt (⟨#[3]⟩ ++ toE kt K M C V es s (Nu j))) (R j) := by
  rw [p.at_ j hj]; exact h.wrt kt (p.num j hj) _
theorem Part.tld (p : Part kt K M C V cnt es s L n Nu R) (h : VOk K M C V cnt es s) {j : Nat} (hj : j < n) : Tld (RS.on (L j)).told K M C V (Nu j) es (rtE kt K M C V es s) (lsE K M C V es) (lvE kt K M C s) ((ofT kt (⟨#[3]⟩ ++ toE kt K M C V es s (Nu j))).data.toList ++ (R j).data.toList) := (p.wrt h hj).tld
theorem Part.ct (p : Part kt K M C V cnt es s L n Nu R) (h : VOk K M C V cnt es s) {j : Nat} (hj : j < n) : (tT (L j)).L.cnt = cnt := by
  have t := p.tld h hj
  unfold tT LT.cnt
  rw [t.K, t.M, t.C, t.es, ← h.len]; exact h.ct
theorem Part.one (p : Part kt K M C V cnt es s L n Nu R) (h : VOk K M C V cnt es s) : One kt L n K M C V cnt es (rtE kt K M C V es s) (lsE K M C V es) (lvE kt K M C s) where
  rd := fun j hj => by rw [p.at_ j hj]; exact h.rd kt (p.num j hj) (p.fit j hj)
  K := fun j hj => (p.tld h hj).K
  M := fun j hj => (p.tld h hj).M
  C := fun j hj => (p.tld h hj).C
  V := fun j hj => (p.tld h hj).V
  es := fun j hj => (p.tld h hj).es
  cnt := fun j hj => p.ct h hj
  root := fun j hj => (p.tld h hj).root
  lst := fun j hj => (p.tld h hj).lst
  lv := fun j hj => (p.tld h hj).lv
  ne := fun j k hj hk hne => by
    have e1 : (tT (L j)).num = Nu j := (p.tld h hj).num
    have e2 : (tT (L k)).num = Nu k := (p.tld h hk).num
    rw [e1, e2]; exact p.ne j k hj hk hne
theorem Part.good (p : Part kt K M C V cnt es s L n Nu R) (h : VOk K M C V cnt es s) {rt : ByteArray} (hrt : rt = ⟨#[]⟩ ∨ rt = rtE kt K M C V es s) : GoodL kt rt L n := fun j hj => by
  have o := p.one h
  refine ⟨by rw [p.at_ j hj]; exact h.sd kt (p.num j hj) (p.fit j hj) hrt, ?_, fun k hk => o.ne k j (by omega) hj (by omega)⟩
  exact ⟨(o.root 0 (by omega)).trans (o.root j hj).symm, (o.lst 0 (by omega)).trans (o.lst j hj).symm, (o.lv 0 (by omega)).trans (o.lv j hj).symm⟩
/-- a block that is there -/
theorem Part.bl (p : Part kt K M C V cnt es s L n Nu R) (h : VOk K M C V cnt es s) {j i : Nat} (hj : j < n) (hi : i < (R j).size / C) : blL L n (Nu j * cnt / V + i) = pc (R j) C i := by
  have o := p.one h
  have e1 : (tT (L j)).num = Nu j := (p.tld h hj).num
  have e2 : tRest (L j) = R j := (p.wrt h hj).rest
  have e3 : nB (L j) = (R j).size / C := by unfold nB; rw [e2, o.C j hj]
  have := bl_in n o j i hj (by rw [e3]; exact hi)
  rw [o.first hj, e1, e2] at this
  exact this
end
end Go.Proofs.YtadinjaocnlglaaGreatDoor
namespace Go.Proofs.YtadinjaocnlglaaGreatDoor
open Go.RowKit
set_option maxRecDepth 100000
set_option maxHeartbeats 1000000
theorem zer_all : ∀ c, ∀ x ∈ Lib.repeatL [(0 : UInt8)] c, x = 0
  | 0, x, h => by simp [Lib.repeatL] at h
  | c + 1, x, h => by
    simp only [Lib.repeatL, List.mem_append, List.mem_cons, List.not_mem_nil, or_false] at h
    rcases h with h | h
    · first | exact h | exact zer_all c x h
    · first | exact h | exact zer_all c x h
theorem strm_get (z : Nat) (s : ByteArray) (x : Nat) : (strm z s).data.toList.getD x 0 = s.data.toList.getD x 0 := by
  unfold strm
  rw [app_list]
  by_cases h : x < s.data.toList.length
  · rw [List.getD_eq_getElem?_getD, List.getD_eq_getElem?_getD, List.getElem?_append_left h]
  · rw [List.getD_eq_getElem?_getD, List.getD_eq_getElem?_getD, List.getElem?_append_right (by omega), List.getElem?_eq_none (l := s.data.toList) (by omega)]
    show ((Lib.repeatL [(0 : UInt8)] _)[_]?).getD 0 = 0
    cases hg : (Lib.repeatL [(0 : UInt8)] (nst z s.size * z - s.size))[x - s.data.toList.length]? with
    | none => rfl
    | some y => exact zer_all _ y (List.mem_of_getElem? hg)
theorem ext_get (t : ByteArray) (a b i : Nat) (hi : i < b - a) : (t.extract a b).data.toList.getD i 0 = t.data.toList.getD (a + i) 0 := by
  rw [ext_list, List.getD_eq_getElem?_getD, List.getD_eq_getElem?_getD, List.getElem?_take, if_pos hi, List.getElem?_drop]
theorem get_list {t : ByteArray} {j : Nat} (h : j < t.size) : t[j] = t.data.toList.getD j 0 := by
  rw [List.getD_eq_getElem?_getD, List.getElem?_eq_getElem (by rw [dl]; exact h)]
  rfl
section
variable {kt : Nat → Int} {K M C V cnt : Nat} {es : List (ByteArray × Nat)} {s : ByteArray} {T : TT} {v : Nat} {root lst : ByteArray} {l : List UInt8} {bl : Nat → ByteArray} {st : Nat}
theorem da_join (h : VOk K M C V cnt es s) (hst : st < nst (K * C) s.size) : jT (daT K C s st) K = pc (strm (K * C) s) (K * C) st := by
  unfold daT dat
  exact jT_pc _ C K (pc_size _ (K * C) _ st (strm_size _ _ h.z) hst)
theorem tl_zero (h : VOk K M C V cnt es s) (hst : st < nst (K * C) s.size) {A : Nat → ByteArray} (hA : ∀ i, i < K → A i = daT K C s st i) : (tz (tlT A K C st s.size)).size = 0 := by
  rw [tz_nil]
  intro j hj
  unfold tlT at hj ⊢
  have e : jT A K = pc (strm (K * C) s) (K * C) st := (jT_congr hA).trans (da_join h hst)
  have hz : (jT A K).size = K * C := by rw [e]; exact pc_size _ (K * C) _ st (strm_size _ _ h.z) hst
  have hj2 := hj
  rw [ByteArray.size_extract, hz, Nat.min_self] at hj2
  have hlt : s.size - st * (K * C) < K * C := by
    rcases Nat.lt_or_ge (s.size - st * (K * C)) (K * C) with h1 | h1
    · exact h1
    · rw [Nat.min_eq_right h1] at hj2; omega
  rw [Nat.min_eq_left (by omega)] at hj2
  rw [get_list hj, Nat.min_eq_left (by omega), ext_get _ _ _ _ hj2, e]
  unfold pc
  rw [ext_get _ _ _ _ (by rw [Nat.succ_mul]; omega), strm_get, List.getD_eq_getElem?_getD, List.getElem?_eq_none (by rw [dl]; omega)]
  rfl
/-- a stripe comes back -/
theorem VOk.stripe (h : VOk K M C V cnt es s) (hT : Tld T K M C V v es root lst (lvE kt K M C s) l) (hst : st < nst (K * C) s.size) (hg : ∀ i, i < K + M → stH kt T bl st i = true → bl (st * (K + M) + i) = bkT K M C s (st * (K + M) + i)) (hK : K ≤ Go.Proofs.YtadinjaocnlglaaGreatDoor.cnt (stH kt T bl st) (K + M)) :
    stF kt T bl st = 0 ∧ ∀ i, i < K + M → stM kt T bl st i = bkT K M C s (st * (K + M) + i) := by
  have hn : T.n = K + M := by unfold TT.n; rw [hT.K, hT.M]
  have hkn : (knL (stH kt T bl st) K (K + M)).length = K := by rw [knL_cnt]; omega
  have hmd : ∀ i, i < K + M → mdT (stS T bl st) (stH kt T bl st) K M C i = bkT K M C s (st * (K + M) + i) := fun i hi => by
    have h1 := filled_all (daT K C s st) (stS T bl st) (stH kt T bl st) K M C h.lok.km (da_size h.z hst) (fun i hi hh => by
      rw [← bk_at hst hi, ← hg i hi hh]
      unfold stS; rw [hn]) hkn i hi
    rw [mdT_eq, ← bk_at hst hi] at h1
    exact Value.string.inj h1
  have hgood : ∀ i, i < K + M → goodB kt C (lvE kt K M C s) (st * (K + M) + i) (bkT K M C s (st * (K + M) + i)) = true := fun i hi => by
    have hx : st * (K + M) + i < cnt := by
      have h1 : (st + 1) * (K + M) ≤ nst (K * C) s.size * (K + M) := Nat.mul_le_mul_right _ hst
      rw [h.ct, Nat.succ_mul] at h1
      omega
    unfold goodB
    rw [lv_pc kt K M C s (by unfold nbT; rw [h.ct]; exact hx)]
    exact decide_eq_true ⟨h.bk hx, rfl⟩
  refine ⟨?_, fun i hi => by unfold stM; rw [hT.K, hT.M, hT.C]; exact hmd i hi⟩
  unfold stF fate
  rw [hT.K, hT.M, hT.C, hT.lv, hT.es, if_neg (by omega), if_neg]
  unfold frg
  rw [if_pos, ← h.len, tl_zero h hst (fun i hi => by rw [hmd i (by omega), bk_at hst (by omega)]; unfold allS; rw [if_pos hi])]
  · simp
  · intro i hi
    unfold okI
    rw [hmd i hi, hgood i hi]
    cases hh : stH kt T bl st i with
    | false => rfl
    | true =>
      have : bkT K M C s (st * (K + M) + i) = stS T bl st i := by rw [← hg i hi hh]; unfold stS; rw [hn]
      rw [decide_eq_true this]
      rfl
/-- its bytes -/
theorem VOk.byte (h : VOk K M C V cnt es s) (hT : Tld T K M C V v es root lst (lvE kt K M C s) l) {x : Nat} (hx : x / (K * C) < nst (K * C) s.size) (hM : ∀ i, i < K → stM kt T bl (x / (K * C)) i = bkT K M C s (x / (K * C) * (K + M) + i)) : byteS kt T bl x = s.data.toList.getD x 0 := by
  unfold byteS stD
  rw [hT.K, hT.C]
  have e : jT (stM kt T bl (x / (K * C))) K = pc (strm (K * C) s) (K * C) (x / (K * C)) := (jT_congr (fun i hi => by
    rw [hM i hi, bk_at hx (by omega)]; unfold allS; rw [if_pos hi])).trans (da_join h hx)
  rw [e]
  have hm := Nat.mod_lt x h.z
  unfold pc
  rw [ext_get _ _ _ _ (by rw [Nat.succ_mul]; omega), strm_get, Nat.mul_comm, Nat.div_add_mod]
end
theorem list_cut (l : List UInt8) (a n : Nat) (h : a + n ≤ l.length) : (List.range n).map (fun i => l.getD (a + i) 0) = (l.drop a).take n := by
  apply List.ext_getElem?
  intro i
  by_cases hi : i < n
  · rw [List.getElem?_map, List.getElem?_range hi, List.getElem?_take, if_pos hi, List.getElem?_drop]
    show some (l.getD (a + i) 0) = l[a + i]?
    rw [List.getD_eq_getElem?_getD, List.getElem?_eq_getElem (by omega)]
    rfl
  · rw [List.getElem?_eq_none (by simp; omega), List.getElem?_take, if_neg hi]
end Go.Proofs.YtadinjaocnlglaaGreatDoor
namespace Go.Proofs.YtadinjaocnlglaaGreatDoor
open Go.RowKit Go.Maps
set_option maxRecDepth 100000
set_option maxHeartbeats 1000000
def esF (F : Nat → Ob) (q : Nat) : List (ByteArray × Nat) := (List.range q).map fun j => ((F j).1, (F j).2.size)
/-- the stream -/
def smF (F : Nat → Ob) (q : Nat) : ByteArray := jT (fun j => (F j).2) q
theorem bl_le {a b : ByteArray} (h : tlt a b) : leB a.data.toList b.data.toList = true := by
  unfold tlt at h
  rw [bytesLess_eq, ByteArray.toList_eq, ByteArray.toList_eq] at h
  exact decide_eq_true (List.le_of_lt (of_decide_eq_true h))
theorem nmF_eq {F : Nat → Ob} {q : Nat} (h : Srt q F) : nmF F q = nms (objs F q) := by
  unfold nmF
  apply List.mergeSort_of_pairwise
  unfold nms objs
  rw [List.map_map, List.pairwise_map]
  have h1 : (List.range q).Pairwise (fun i j => i < j) := List.pairwise_lt_range
  refine h1.imp_of_mem (fun {i j} hi hj hlt => ?_)
  exact bl_le (h.lt i j hlt (List.mem_range.1 hj))
theorem esF_len (F : Nat → Ob) (q : Nat) : (esF F q).length = q := by simp [esF]
theorem esF_take (F : Nat → Ob) (q j : Nat) (h : j ≤ q) : (esF F q).take j = esF F j := by
  unfold esF
  rw [← List.map_take, List.take_range, Nat.min_eq_left h]
theorem esF_sum (F : Nat → Ob) : ∀ q, lenE (esF F q) = (jL (fun j => (F j).2) q).length
  | 0 => rfl
  | q + 1 => by
    have e1 : esF F (q + 1) = esF F q ++ [((F q).1, (F q).2.size)] := by simp [esF, List.range_succ]
    have e2 : jL (fun j => (F j).2) (q + 1) = jL (fun j => (F j).2) q ++ (F q).2.data.toList := by simp [jL, List.range_succ]
    rw [e1, e2, lenE_app, esF_sum F q, List.length_append, dl]
    simp [lenE]
theorem sm_size (F : Nat → Ob) (q : Nat) : (smF F q).size = lenE (esF F q) := by
  rw [esF_sum, ← dl]
  rfl
theorem esF_get (F : Nat → Ob) (q j : Nat) (h : j < q) : nmE (esF F q) j = (F j).1 ∧ lnE (esF F q) j = (F j).2.size := by
  unfold nmE lnE esF
  simp [h]
theorem lst2_congr (h : List UInt8) (A B : Nat → ByteArray) (P Q : Nat → Nat) : ∀ n, (∀ j, j < n → A j = B j ∧ P j = Q j) → lst2 h A P n = lst2 h B Q n
  | 0, _ => rfl
  | n + 1, hh => by rw [lst2, lst2, lst2_congr h A B P Q n (fun j hj => hh j (by omega)), (hh n (by omega)).1, (hh n (by omega)).2]
section
variable {F : Nat → Ob} {q : Nat}
theorem ls_eq (h : Srt q F) (K M C V : Nat) : lsT K M C V (datOf F q) (nmF F q) = lsE K M C V (esF F q) := by
  have hl : (nmF F q).length = q := by rw [nmF_eq h]; simp [nms, objs]
  unfold lsT lsE lstT
  rw [hl, esF_len, lst2_congr _ _ (nmE (esF F q)) _ (lnE (esF F q)) q (fun j hj => ?_)]
  obtain ⟨e1, e2⟩ := esF_get F q j hj
  rw [e1, e2]
  have eg : (nmF F q)[j]? = some (F j).1.data.toList := by rw [nmF_eq h]; simp [nms, objs, hj]
  constructor
  · unfold nmT
    rw [List.getD_eq_getElem?_getD, eg]
    apply ba_ext; rfl
  · unfold lnT
    rw [eg]
    show (datOf F q (F j).1.data.toList).length = _
    rw [datOf_at h j hj, dl]
theorem dt_eq (h : Srt q F) : dtT (datOf F q) (nmF F q) = smF F q := by
  apply ba_ext
  show datL (datOf F q) (nmF F q) (nmF F q).length = jL (fun j => (F j).2) q
  unfold datL jL
  rw [List.take_length, nmF_eq h, flat_names h, List.flatMap_def]
  congr 1
  unfold objs
  rw [List.map_map]
  rfl
theorem rt_eq (h : Srt q F) (kt : Nat → Int) (K M C V : Nat) : rtT kt K M C V (datOf F q) (nmF F q) = rtE kt K M C V (esF F q) (smF F q) := by
  unfold rtT rtE
  rw [ls_eq h, dt_eq h]
  rfl
theorem vo_eq (h : Srt q F) (kt : Nat → Int) (K M C V v : Nat) : voT kt K M C V (datOf F q) (nmF F q) v = hdE kt K M C V (esF F q) (smF F q) v ++ reE K M C V (smF F q) v := by
  unfold voT
  rw [ls_eq h, dt_eq h, rt_eq h]
  rfl
end
theorem ord_of (e : Nat → ByteArray × Nat) : ∀ n k b, (∀ j, j < n → 1 ≤ (e (k + j)).1.size ∧ (e (k + j)).1.size ≤ 255) → (0 < n → leT (e k).1 b = false) → (∀ j, j + 1 < n → leT (e (k + j + 1)).1 (e (k + j)).1 = false) → EOrd b ((List.range n).map fun j => e (k + j))
  | 0, k, b, _, _, _ => trivial
  | n + 1, k, b, h1, h2, h3 => by
    rw [List.range_succ_eq_map, List.map_cons, List.map_map]
    have e1 : ((fun j => e (k + j)) ∘ Nat.succ) = fun j => e (k + 1 + j) := by
      funext j
      show e (k + (j + 1)) = e (k + 1 + j)
      rw [Nat.add_assoc, Nat.add_comm 1 j]
    rw [e1]
    refine ⟨(h1 0 (by omega)).1, (h1 0 (by omega)).2, h2 (by omega), ?_⟩
    refine ord_of e n (k + 1) _ (fun j hj => ?_) (fun h0 => ?_) (fun j hj => ?_)
    · have := h1 (j + 1) (by omega)
      rw [show k + (j + 1) = k + 1 + j by omega] at this
      exact this
    · exact h3 0 (by omega)
    · have := h3 (j + 1) (by omega)
      rw [show k + (j + 1) = k + 1 + j by omega] at this
      exact this
theorem le_of_tlt {a b : ByteArray} (h : tlt a b) : leT b a = false := by
  unfold tlt at h
  unfold leT
  cases h1 : Op.bytesLess b.toList a.toList with
  | true =>
    have := bl_trans _ _ _ h h1
    rw [bl_irr] at this; cases this
  | false =>
    cases h2 : b.toList == a.toList with
    | true =>
      have : b.toList = a.toList := by simpa using h2
      rw [this, bl_irr] at h; cases h
    | false => rfl
theorem le_of_nil {a : ByteArray} (h : 1 ≤ a.size) : leT a ⟨#[]⟩ = false := by
  unfold leT
  have e : (⟨#[]⟩ : ByteArray).toList = [] := by rw [ByteArray.toList_eq]
  rw [e]
  have h2 : a.toList ≠ [] := fun e => by
    rw [ByteArray.toList_eq] at e
    have := dl a
    rw [e] at this
    simp at this
    omega
  cases h3 : a.toList with
  | nil => exact absurd h3 h2
  | cons x r => rfl
theorem esF_ord {F : Nat → Ob} {q : Nat} (h : Srt q F) : EOrd ⟨#[]⟩ (esF F q) := by
  have := ord_of (fun j => ((F j).1, (F j).2.size)) q 0 ⟨#[]⟩ (fun j hj => by
    have := h.sz (0 + j) (by omega)
    exact ⟨this.1, Nat.le_trans this.2.1 (by omega)⟩) (fun h0 => le_of_nil (h.sz 0 h0).1) (fun j hj => le_of_tlt (h.lt (0 + j) (0 + j + 1) (by omega) (by omega)))
  simp only [Nat.zero_add] at this
  exact this
theorem sm_le {F : Nat → Ob} {q : Nat} (h : Srt q F) : (smF F q).size ≤ q * 12 := jT_size _ 12 q (fun i hi => (h.sz i hi).2.2)
theorem srt_ok {F : Nat → Ob} {q K M C V : Nat} (h : Srt q F) (hK1 : 1 ≤ K) (hK2 : K ≤ 5) (hM : M ≤ 3) (hC1 : 1 ≤ C) (hC2 : C ≤ 8) (hV1 : 1 ≤ V) (hV2 : V ≤ 5) (hq : q ≤ 5) : VOk K M C V (nbT K M C (smF F q)) (esF F q) (smF F q) where
  lok := ⟨hK1, by omega, hC1, by omega, hV1, by omega, by rw [esF_len]; omega, by have := sm_le h; rw [← sm_size]; omega, esF_ord h⟩
  len := sm_size F q
  ct := rfl
  c512 := by
    have h1 := nst_len (K * C) (smF F q).size (Nat.mul_pos hK1 hC1)
    have h2 := sm_le h
    show nst (K * C) (smF F q).size * (K + M) ≤ 512
    exact Nat.le_trans (Nat.mul_le_mul (Nat.le_trans h1 (Nat.le_trans h2 (Nat.mul_le_mul_right 12 hq))) (show K + M ≤ 8 by omega)) (by omega)
/-- the j-th object out of the stream -/
theorem un_one {F : Nat → Ob} {q : Nat} {kt : Nat → Int} {T : TT} {bl : Nat → ByteArray} {j : Nat} (hj : j < q) (hes : T.L.es = esF F q) (hb : ∀ x, lenE ((esF F q).take j) ≤ x → x < lenE ((esF F q).take j) + (F j).2.size → byteS kt T bl x = (smF F q).data.toList.getD x 0) : unO kt T bl j = F j := by
  obtain ⟨e1, e2⟩ := esF_get F q j hj
  unfold unO
  rw [hes, e1, e2]
  have hs : strS kt T bl (lenE ((esF F q).take j)) (lenE ((esF F q).take j) + (F j).2.size) = (F j).2.data.toList := by
    unfold strS
    rw [Nat.add_sub_cancel_left]
    have e3 : (List.range (F j).2.size).map (fun i => byteS kt T bl (lenE ((esF F q).take j) + i)) = (List.range (F j).2.size).map (fun i => (smF F q).data.toList.getD (lenE ((esF F q).take j) + i) 0) := by
      apply List.map_congr_left
      intro i hi
      exact hb _ (by omega) (by have := List.mem_range.1 hi; omega)
    obtain ⟨r, hr⟩ := jL_split (fun j => (F j).2) q j hj
    have e4 : (smF F q).data.toList = jL (fun j => (F j).2) j ++ (F j).2.data.toList ++ r := hr
    have e5 : lenE ((esF F q).take j) = (jL (fun j => (F j).2) j).length := by rw [esF_take F q j (by omega), esF_sum]
    rw [e3, list_cut _ _ _ (by rw [e4, e5]; simp only [List.length_append, dl]; omega), e4, e5, List.append_assoc, List.drop_left, ← dl, List.take_left]
  rw [hs]
end Go.Proofs.YtadinjaocnlglaaGreatDoor
