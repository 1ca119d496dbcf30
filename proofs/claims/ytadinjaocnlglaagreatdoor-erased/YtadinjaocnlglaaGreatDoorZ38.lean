/-
  Plain: a vault as data; its volumes, whole or harmed behind their heads, are taken.
  Plain: a stripe of which enough blocks are good comes back; the stream.
  Unpack where all is whole; Params, Root, Objects: of a Stock, and of a Vault.
  A Vault's Unpack where all is whole; its Params, Root, Objects.
  One object taken out of a list of one's own.
  Plain: the digest of the empty text, word by word.
  The walks of vault.Parity where nothing is refused, of vault.Digest, and of first.
  A text taken out of a list; names that were read.
  The walks of vaultkeep's sameObjects and mixed.
-/
import Derived.Test.YtadinjaocnlglaaGreatDoorZ37
import Derived.Test.YtadinjaocnlglaaGreatDoorZ19
import Derived.Deep.RegionLaw
import Derived.Test.YtadinjaocnlglaaGreatDoorZ12
import Derived.KernelRfl
import Derived.Test.YtadinjaocnlglaaGreatDoorZ03
import Derived.Test.YtadinjaocnlglaaGreatDoorZ13
import Derived.Test.YtadinjaocnlglaaGreatDoorZ36
namespace Go.Proofs.YtadinjaocnlglaaGreatDoor
open Go.RowKit
set_option maxRecDepth 100000
set_option maxHeartbeats 1000000
theorem whl_get (S : Nat → ByteArray) (k m c i : Nat) (hi : i < k + m) : (whl S k m c)[i]? = some (.string (allS S k c i)) := by
  unfold whl allS
  by_cases h : i < k
  · rw [List.getElem?_append_left (by rw [tV_len]; exact h), if_pos h]
    simp [tV, h]
  · rw [List.getElem?_append_right (by rw [tV_len]; omega), if_neg h, tV_len]
    simp [tV, show i - k < m by omega]
theorem blkV_length (t : ByteArray) (z K M C : Nat) : ∀ n, (blkV t z K M C n).length = n * (K + M)
  | 0 => by simp [blkV]
  | n + 1 => by rw [blkV, List.length_append, blkV_length t z K M C n, whl_len, Nat.succ_mul]
theorem blkV_get (t : ByteArray) (z K M C : Nat) : ∀ n st i, st < n → i < K + M → (blkV t z K M C n)[st * (K + M) + i]? = some (.string (allS (dat t z C st) K C i))
  | 0, st, i, h, _ => by omega
  | n + 1, st, i, h, hi => by
    rw [blkV]
    by_cases e : st = n
    · subst e
      rw [List.getElem?_append_right (by rw [blkV_length]; omega), blkV_length, Nat.add_sub_cancel_left]
      exact whl_get _ _ _ _ _ hi
    · have h1 : (st + 1) * (K + M) ≤ n * (K + M) := Nat.mul_le_mul_right _ (by omega)
      rw [Nat.succ_mul] at h1
      rw [List.getElem?_append_left (by rw [blkV_length]; omega)]
      exact blkV_get t z K M C n st i (by omega) hi
/-- the data of a stripe -/
def daT (K C : Nat) (s : ByteArray) (st : Nat) : Nat → ByteArray := dat (strm (K * C) s) (K * C) C st
theorem bk_at {K M C : Nat} {s : ByteArray} {st i : Nat} (hs : st < nst (K * C) s.size) (hi : i < K + M) : bkT K M C s (st * (K + M) + i) = allS (daT K C s st) K C i := by
  unfold bkT bkS
  rw [blkV_get _ _ _ _ _ _ _ _ hs hi]
  rfl
theorem da_size {K C : Nat} {s : ByteArray} {st : Nat} (hz : 0 < K * C) (hs : st < nst (K * C) s.size) : ∀ i, i < K → (daT K C s st i).size = C := fun i hi => by
  unfold daT dat
  exact pc_size _ C K i (pc_size _ (K * C) _ st (strm_size _ _ hz) hs) hi
/-- a vault's params, entries and stream -/
structure VOk (K M C V cnt : Nat) (es : List (ByteArray × Nat)) (s : ByteArray) : Prop where
  lok : LOk K M C V es
  len : s.size = lenE es
  ct : nst (K * C) s.size * (K + M) = cnt
  c512 : cnt ≤ 512
section
variable {K M C V cnt : Nat} {es : List (ByteArray × Nat)} {s : ByteArray}
theorem VOk.z (h : VOk K M C V cnt es s) : 0 < K * C := Nat.mul_pos h.lok.k1 h.lok.c1
theorem VOk.n (h : VOk K M C V cnt es s) : 0 < K + M := by have := h.lok.k1; omega
theorem VOk.split (h : VOk K M C V cnt es s) {x : Nat} (hx : x < cnt) : x / (K + M) < nst (K * C) s.size ∧ x % (K + M) < K + M ∧ x / (K + M) * (K + M) + x % (K + M) = x := by
  refine ⟨?_, Nat.mod_lt _ h.n, by rw [Nat.mul_comm]; exact Nat.div_add_mod x _⟩
  rw [Nat.div_lt_iff_lt_mul h.n, h.ct]; exact hx
theorem VOk.bk (h : VOk K M C V cnt es s) {x : Nat} (hx : x < cnt) : (bkT K M C s x).size = C := by
  obtain ⟨h1, h2, h3⟩ := h.split hx
  rw [← h3, bk_at h1 h2]
  exact allS_size _ _ _ _ (da_size h.z h1)
end
theorem jL_split (F : Nat → ByteArray) : ∀ n i, i < n → ∃ r, jL F n = jL F i ++ (F i).data.toList ++ r
  | 0, i, h => by omega
  | n + 1, i, h => by
    have e : jL F (n + 1) = jL F n ++ (F n).data.toList := by simp [jL, List.range_succ]
    by_cases ei : i = n
    · subst ei; exact ⟨[], by rw [e, List.append_nil]⟩
    · obtain ⟨r, hr⟩ := jL_split F n i (by omega)
      exact ⟨r ++ (F n).data.toList, by rw [e, hr]; simp only [List.append_assoc]⟩
theorem pc_jT {F : Nat → ByteArray} {c n i : Nat} (hF : ∀ j, j < n → (F j).size = c) (hi : i < n) : pc (jT F n) c i = F i := by
  apply ba_ext
  unfold pc
  rw [ext_list]
  obtain ⟨r, hr⟩ := jL_split F n i hi
  have e : (jT F n).data.toList = jL F n := rfl
  have hl := jL_eq F c i (fun j hj => hF j (by omega))
  rw [e, hr, List.append_assoc, ← hl, List.drop_left, hl, Nat.succ_mul, Nat.add_sub_cancel_left]
  have h2 : (F i).data.toList.length = c := by rw [dl]; exact hF i hi
  rw [← h2, List.take_left]
/-- the list, the root, the leaves, the head and the blocks of a vault's volumes -/
def lsE (K M C V : Nat) (es : List (ByteArray × Nat)) : ByteArray := lstT K M C V es.length (nmE es) (lnE es)
def lfE (kt : Nat → Int) (K M C : Nat) (s : ByteArray) (i : Nat) : ByteArray := leafT (ofT kt) (bkT K M C s i)
def rtE (kt : Nat → Int) (K M C V : Nat) (es : List (ByteArray × Nat)) (s : ByteArray) : ByteArray := rootT (ofT kt) (lsE K M C V es) (nbT K M C s) (lfE kt K M C s)
def lvE (kt : Nat → Int) (K M C : Nat) (s : ByteArray) : ByteArray := jT (lfE kt K M C s) (nbT K M C s)
def toE (kt : Nat → Int) (K M C V : Nat) (es : List (ByteArray × Nat)) (s : ByteArray) (v : Nat) : ByteArray := volM ++ rtE kt K M C V es s ++ lsE K M C V es ++ vint v ++ lvE kt K M C s
def hdE (kt : Nat → Int) (K M C V : Nat) (es : List (ByteArray × Nat)) (s : ByteArray) (v : Nat) : ByteArray := toE kt K M C V es s v ++ ofT kt (⟨#[3]⟩ ++ toE kt K M C V es s v)
def reE (K M C V : Nat) (s : ByteArray) (v : Nat) : ByteArray := jT (fun i => bkT K M C s (v * nbT K M C s / V + i)) ((v + 1) * nbT K M C s / V - v * nbT K M C s / V)
theorem lf_size (kt : Nat → Int) (K M C : Nat) (s : ByteArray) (i : Nat) : (lfE kt K M C s i).size = 32 := ofT_size _ _
theorem lv_size (kt : Nat → Int) (K M C : Nat) (s : ByteArray) : (lvE kt K M C s).size = nbT K M C s * 32 := jT_eq _ 32 _ (fun i _ => lf_size kt K M C s i)
theorem lv_pc (kt : Nat → Int) (K M C : Nat) (s : ByteArray) {i : Nat} (hi : i < nbT K M C s) : pc (lvE kt K M C s) 32 i = lfE kt K M C s i := pc_jT (fun j _ => lf_size kt K M C s j) hi
theorem vi_len (n : Nat) : (vi n).length ≤ 5 := by rw [← vint_list, dl]; exact vint_size n
theorem enL_len : ∀ (es : List (ByteArray × Nat)) (b : ByteArray), EOrd b es → (enL es).length ≤ es.length * 265
  | [], _, _ => by simp [enL]
  | x :: r, b, h => by
    have ih := enL_len r x.1 h.2.2.2
    have h1 := vi_len x.1.size
    have h2 := vi_len x.2
    have h3 := h.2.1
    have h4 : x.1.data.toList.length = x.1.size := dl _
    rw [enL_cons]
    simp only [List.length_append, List.length_cons, Nat.succ_mul]
    omega
theorem ls_len {K M C V : Nat} {es : List (ByteArray × Nat)} (h : LOk K M C V es) : (lsE K M C V es).size ≤ 4300 := by
  have e : (lsE K M C V es).data.toList = lstL K M C V es := lstT_list K M C V es
  rw [← dl, e]
  unfold lstL
  have h0 : vltT.data.toList.length = 4 := rfl
  have h1 := vi_len K; have h2 := vi_len M; have h3 := vi_len C; have h4 := vi_len V; have h5 := vi_len es.length
  have h6 := enL_len es _ h.ord
  have h7 := h.len
  simp only [List.length_append]
  omega
section
variable {K M C V cnt : Nat} {es : List (ByteArray × Nat)} {s : ByteArray}
/-- a volume, whatever lies behind its head -/
theorem VOk.wrt (kt : Nat → Int) (h : VOk K M C V cnt es s) {v : Nat} (hv : v < V) (R : ByteArray) : Wrt (hdE kt K M C V es s v ++ R) K M C V v es (rtE kt K M C V es s) (lsE K M C V es) (lvE kt K M C s) (ofT kt (⟨#[3]⟩ ++ toE kt K M C V es s v)) R := by
  refine wrt_enc h.lok (ofT_size _ _) hv (by rw [← h.len]; exact h.ct) h.c512 ?_ (lstT_list K M C V es) (ofT_size _ _) ?_
  · rw [lv_size]; unfold nbT; rw [h.ct]
  · unfold hdE toE
    rfl
theorem VOk.rd (kt : Nat → Int) (h : VOk K M C V cnt es s) {v : Nat} (hv : v < V) {R : ByteArray} (hR : R.size ≤ ((v + 1) * cnt / V - v * cnt / V) * C) : rdE kt (hdE kt K M C V es s v ++ R) = none := by
  have hnb : nbT K M C s = cnt := h.ct
  have hc : nst (K * C) (lenE es) * (K + M) = cnt := by rw [← h.len]; exact h.ct
  have hen : (v + 1) * cnt / V ≤ cnt := Nat.le_trans (Nat.div_le_div_right (Nat.mul_le_mul_right _ hv)) (by rw [Nat.mul_div_cancel_left _ h.lok.v1]; exact Nat.le_refl _)
  refine wrt_rd (h.wrt kt hv R) hc ?_ rfl ?_ hR
  · have e1 : R.size ≤ 512 * 64 := Nat.le_trans hR (Nat.mul_le_mul (Nat.le_trans (Nat.sub_le _ _) (Nat.le_trans hen h.c512)) h.lok.c64)
    have e2 := ls_len h.lok
    have e3 := vint_size v
    have e4 := lv_size kt K M C s
    have e5 : (rtE kt K M C V es s).size = 32 := ofT_size _ _
    have e6 : (ofT kt (⟨#[3]⟩ ++ toE kt K M C V es s v)).size = 32 := ofT_size _ _
    have e7 : volM.size = 4 := rfl
    have e8 := h.c512
    rw [hnb] at e4
    unfold hdE
    rw [ByteArray.size_append, ByteArray.size_append, e6]
    unfold toE
    simp only [ByteArray.size_append]
    omega
  · show rootT (ofT kt) (lsE K M C V es) (nbT K M C s) (lfE kt K M C s) = _
    rw [hnb]
    unfold rootT
    rw [topT_congr (ofT kt) cnt cnt _ _ (Nat.le_refl _) (fun i hi => (lv_pc kt K M C s (by rw [hnb]; exact hi)).symm)]
theorem VOk.sd (kt : Nat → Int) (h : VOk K M C V cnt es s) {v : Nat} (hv : v < V) {R : ByteArray} (hR : R.size ≤ ((v + 1) * cnt / V - v * cnt / V) * C) {rt : ByteArray} (hrt : rt = ⟨#[]⟩ ∨ rt = rtE kt K M C V es s) : sdE kt rt (hdE kt K M C V es s v ++ R) = none := by
  unfold sdE
  rw [h.rd kt hv hR]
  rw [if_neg (by simp)]
  split
  · rfl
  · rename_i hne
    rw [if_pos]
    rw [(h.wrt kt hv R).tld.root]
    rcases hrt with e | e
    · exact absurd e hne
    · exact e.symm
end
/-- texts that are volumes of the vault, each number once -/
structure Part (kt : Nat → Int) (K M C V cnt : Nat) (es : List (ByteArray × Nat)) (s : ByteArray) (L : Nat → ByteArray) (n : Nat) (Nu : Nat → Nat) (R : Nat → ByteArray) : Prop where
  at_ : ∀ j, j < n → L j = hdE kt K M C V es s (Nu j) ++ R j
  num : ∀ j, j < n → Nu j < V
  fit : ∀ j, j < n → (R j).size ≤ ((Nu j + 1) * cnt / V - Nu j * cnt / V) * C
  ne : ∀ j k, j < n → k < n → j ≠ k → Nu j ≠ Nu k
section
variable {kt : Nat → Int} {K M C V cnt : Nat} {es : List (ByteArray × Nat)} {s : ByteArray} {L : Nat → ByteArray} {n : Nat} {Nu : Nat → Nat} {R : Nat → ByteArray}
theorem Part.wrt (p : Part kt K M C V cnt es s L n Nu R) (h : VOk K M C V cnt es s) {j : Nat} (hj : j < n) : Wrt (L j) K M C V (Nu j) es (rtE kt K M C V es s) (lsE K M C V es) (lvE kt K M C s) (ofT kt (⟨#[3]⟩ ++ toE kt K M C V es s (Nu j))) (R j) := by
  rw [p.at_ j hj]; exact h.wrt kt (p.num j hj) _
theorem Part.tld (p : Part kt K M C V cnt es s L n Nu R) (h : VOk K M C V cnt es s) {j : Nat} (hj : j < n) : Tld (RS.on (L j)).told K M C V (Nu j) es (rtE kt K M C V es s) (lsE K M C V es) (lvE kt K M C s) ((ofT kt (⟨#[3]⟩ ++ toE kt K M C V es s (Nu j))).data.toList ++ (R j).data.toList) := (p.wrt h hj).tld
theorem Part.ct (p : Part kt K M C V cnt es s L n Nu R) (h : VOk K M C V cnt es s) {j : Nat} (hj : j < n) : (tT (L j)).L.cnt = cnt := by
  have t := p.tld h hj
  unfold tT LT.cnt
  rw [t.K, t.M, t.C, t.es, ← h.len]; exact h.ct
theorem Part.one (p : Part kt K M C V cnt es s L n Nu R) (h : VOk K M C V cnt es s) : One kt L n K M C V cnt es (rtE kt K M C V es s) (lsE K M C V es) (lvE kt K M C s) where
  rd := fun j hj => by rw [p.at_ j hj]; exact h.rd kt (p.num j hj) (p.fit j hj)
  K := fun j hj => (p.tld h hj).K
  M := fun j hj => (p.tld h hj).M
  C := fun j hj => (p.tld h hj).C
  V := fun j hj => (p.tld h hj).V
  es := fun j hj => (p.tld h hj).es
  cnt := fun j hj => p.ct h hj
  root := fun j hj => (p.tld h hj).root
  lst := fun j hj => (p.tld h hj).lst
  lv := fun j hj => (p.tld h hj).lv
  ne := fun j k hj hk hne => by
    have e1 : (tT (L j)).num = Nu j := (p.tld h hj).num
    have e2 : (tT (L k)).num = Nu k := (p.tld h hk).num
    rw [e1, e2]; exact p.ne j k hj hk hne
theorem Part.good (p : Part kt K M C V cnt es s L n Nu R) (h : VOk K M C V cnt es s) {rt : ByteArray} (hrt : rt = ⟨#[]⟩ ∨ rt = rtE kt K M C V es s) : GoodL kt rt L n := fun j hj => by
  have o := p.one h
  refine ⟨by rw [p.at_ j hj]; exact h.sd kt (p.num j hj) (p.fit j hj) hrt, ?_, fun k hk => o.ne k j (by omega) hj (by omega)⟩
  exact ⟨(o.root 0 (by omega)).trans (o.root j hj).symm, (o.lst 0 (by omega)).trans (o.lst j hj).symm, (o.lv 0 (by omega)).trans (o.lv j hj).symm⟩
/-- a block that is there -/
theorem Part.bl (p : Part kt K M C V cnt es s L n Nu R) (h : VOk K M C V cnt es s) {j i : Nat} (hj : j < n) (hi : i < (R j).size / C) : blL L n (Nu j * cnt / V + i) = pc (R j) C i := by
  have o := p.one h
  have e1 : (tT (L j)).num = Nu j := (p.tld h hj).num
  have e2 : tRest (L j) = R j := (p.wrt h hj).rest
  have e3 : nB (L j) = (R j).size / C := by unfold nB; rw [e2, o.C j hj]
  have := bl_in n o j i hj (by rw [e3]; exact hi)
  rw [o.first hj, e1, e2] at this
  exact this
/-- a block that isn't -/
theorem Part.no (p : Part kt K M C V cnt es s L n Nu R) (h : VOk K M C V cnt es s) {x : Nat} (hx : ∀ j, j < n → ¬ (Nu j * cnt / V ≤ x ∧ x < Nu j * cnt / V + (R j).size / C)) : blL L n x = ⟨#[]⟩ := by
  have o := p.one h
  refine bl_out n (fun j hj => ?_)
  have e1 : (tT (L j)).num = Nu j := (p.tld h hj).num
  have e2 : tRest (L j) = R j := (p.wrt h hj).rest
  have e3 : nB (L j) = (R j).size / C := by unfold nB; rw [e2, o.C j hj]
  rw [o.first hj, e1, e3]
  exact hx j hj
end
end Go.Proofs.YtadinjaocnlglaaGreatDoor
namespace Go.Proofs.YtadinjaocnlglaaGreatDoor
open Go.RowKit
set_option maxRecDepth 100000
set_option maxHeartbeats 1000000
theorem zer_all : ∀ c, ∀ x ∈ Lib.repeatL [(0 : UInt8)] c, x = 0
  | 0, x, h => by simp [Lib.repeatL] at h
  | c + 1, x, h => by
    simp only [Lib.repeatL, List.mem_append, List.mem_cons, List.not_mem_nil, or_false] at h
    rcases h with h | h
    · first | exact h | exact zer_all c x h
    · first | exact h | exact zer_all c x h
theorem strm_get (z : Nat) (s : ByteArray) (x : Nat) : (strm z s).data.toList.getD x 0 = s.data.toList.getD x 0 := by
  unfold strm
  rw [app_list]
  by_cases h : x < s.data.toList.length
  · rw [List.getD_eq_getElem?_getD, List.getD_eq_getElem?_getD, List.getElem?_append_left h]
  · rw [List.getD_eq_getElem?_getD, List.getD_eq_getElem?_getD, List.getElem?_append_right (by omega), List.getElem?_eq_none (l := s.data.toList) (by omega)]
    show ((Lib.repeatL [(0 : UInt8)] _)[_]?).getD 0 = 0
    cases hg : (Lib.repeatL [(0 : UInt8)] (nst z s.size * z - s.size))[x - s.data.toList.length]? with
    | none => rfl
    | some y => exact zer_all _ y (List.mem_of_getElem? hg)
theorem ext_get (t : ByteArray) (a b i : Nat) (hi : i < b - a) : (t.extract a b).data.toList.getD i 0 = t.data.toList.getD (a + i) 0 := by
  rw [ext_list, List.getD_eq_getElem?_getD, List.getD_eq_getElem?_getD, List.getElem?_take, if_pos hi, List.getElem?_drop]
theorem get_list {t : ByteArray} {j : Nat} (h : j < t.size) : t[j] = t.data.toList.getD j 0 := by
  rw [List.getD_eq_getElem?_getD, List.getElem?_eq_getElem (by rw [dl]; exact h)]
  rfl
section
variable {kt : Nat → Int} {K M C V cnt : Nat} {es : List (ByteArray × Nat)} {s : ByteArray} {T : TT} {v : Nat} {root lst : ByteArray} {l : List UInt8} {bl : Nat → ByteArray} {st : Nat}
theorem da_join (h : VOk K M C V cnt es s) (hst : st < nst (K * C) s.size) : jT (daT K C s st) K = pc (strm (K * C) s) (K * C) st := by
  unfold daT dat
  exact jT_pc _ C K (pc_size _ (K * C) _ st (strm_size _ _ h.z) hst)
theorem tl_zero (h : VOk K M C V cnt es s) (hst : st < nst (K * C) s.size) {A : Nat → ByteArray} (hA : ∀ i, i < K → A i = daT K C s st i) : (tz (tlT A K C st s.size)).size = 0 := by
  rw [tz_nil]
  intro j hj
  unfold tlT at hj ⊢
  have e : jT A K = pc (strm (K * C) s) (K * C) st := (jT_congr hA).trans (da_join h hst)
  have hz : (jT A K).size = K * C := by rw [e]; exact pc_size _ (K * C) _ st (strm_size _ _ h.z) hst
  have hj2 := hj
  rw [ByteArray.size_extract, hz, Nat.min_self] at hj2
  have hlt : s.size - st * (K * C) < K * C := by
    rcases Nat.lt_or_ge (s.size - st * (K * C)) (K * C) with h1 | h1
    · exact h1
    · rw [Nat.min_eq_right h1] at hj2; omega
  rw [Nat.min_eq_left (by omega)] at hj2
  rw [get_list hj, Nat.min_eq_left (by omega), ext_get _ _ _ _ hj2, e]
  unfold pc
  rw [ext_get _ _ _ _ (by rw [Nat.succ_mul]; omega), strm_get, List.getD_eq_getElem?_getD, List.getElem?_eq_none (by rw [dl]; omega)]
  rfl
/-- a stripe comes back -/
theorem VOk.stripe (h : VOk K M C V cnt es s) (hT : Tld T K M C V v es root lst (lvE kt K M C s) l) (hst : st < nst (K * C) s.size) (hg : ∀ i, i < K + M → stH kt T bl st i = true → bl (st * (K + M) + i) = bkT K M C s (st * (K + M) + i)) (hK : K ≤ Go.Proofs.YtadinjaocnlglaaGreatDoor.cnt (stH kt T bl st) (K + M)) :
    stF kt T bl st = 0 ∧ ∀ i, i < K + M → stM kt T bl st i = bkT K M C s (st * (K + M) + i) := by
  have hn : T.n = K + M := by unfold TT.n; rw [hT.K, hT.M]
  have hkn : (knL (stH kt T bl st) K (K + M)).length = K := by rw [knL_cnt]; omega
  have hmd : ∀ i, i < K + M → mdT (stS T bl st) (stH kt T bl st) K M C i = bkT K M C s (st * (K + M) + i) := fun i hi => by
    have h1 := filled_all (daT K C s st) (stS T bl st) (stH kt T bl st) K M C h.lok.km (da_size h.z hst) (fun i hi hh => by
      rw [← bk_at hst hi, ← hg i hi hh]
      unfold stS; rw [hn]) hkn i hi
    rw [mdT_eq, ← bk_at hst hi] at h1
    exact Value.string.inj h1
  have hgood : ∀ i, i < K + M → goodB kt C (lvE kt K M C s) (st * (K + M) + i) (bkT K M C s (st * (K + M) + i)) = true := fun i hi => by
    have hx : st * (K + M) + i < cnt := by
      have h1 : (st + 1) * (K + M) ≤ nst (K * C) s.size * (K + M) := Nat.mul_le_mul_right _ hst
      rw [h.ct, Nat.succ_mul] at h1
      omega
    unfold goodB
    rw [lv_pc kt K M C s (by unfold nbT; rw [h.ct]; exact hx)]
    exact decide_eq_true ⟨h.bk hx, rfl⟩
  refine ⟨?_, fun i hi => by unfold stM; rw [hT.K, hT.M, hT.C]; exact hmd i hi⟩
  unfold stF fate
  rw [hT.K, hT.M, hT.C, hT.lv, hT.es, if_neg (by omega), if_neg]
  unfold frg
  rw [if_pos, ← h.len, tl_zero h hst (fun i hi => by rw [hmd i (by omega), bk_at hst (by omega)]; unfold allS; rw [if_pos hi])]
  · simp
  · intro i hi
    unfold okI
    rw [hmd i hi, hgood i hi]
    cases hh : stH kt T bl st i with
    | false => rfl
    | true =>
      have : bkT K M C s (st * (K + M) + i) = stS T bl st i := by rw [← hg i hi hh]; unfold stS; rw [hn]
      rw [decide_eq_true this]
      rfl
/-- its bytes -/
theorem VOk.byte (h : VOk K M C V cnt es s) (hT : Tld T K M C V v es root lst (lvE kt K M C s) l) {x : Nat} (hx : x / (K * C) < nst (K * C) s.size) (hM : ∀ i, i < K → stM kt T bl (x / (K * C)) i = bkT K M C s (x / (K * C) * (K + M) + i)) : byteS kt T bl x = s.data.toList.getD x 0 := by
  unfold byteS stD
  rw [hT.K, hT.C]
  have e : jT (stM kt T bl (x / (K * C))) K = pc (strm (K * C) s) (K * C) (x / (K * C)) := (jT_congr (fun i hi => by
    rw [hM i hi, bk_at hx (by omega)]; unfold allS; rw [if_pos hi])).trans (da_join h hx)
  rw [e]
  have hm := Nat.mod_lt x h.z
  unfold pc
  rw [ext_get _ _ _ _ (by rw [Nat.succ_mul]; omega), strm_get, Nat.mul_comm, Nat.div_add_mod]
end
theorem list_cut (l : List UInt8) (a n : Nat) (h : a + n ≤ l.length) : (List.range n).map (fun i => l.getD (a + i) 0) = (l.drop a).take n := by
  apply List.ext_getElem?
  intro i
  by_cases hi : i < n
  · rw [List.getElem?_map, List.getElem?_range hi, List.getElem?_take, if_pos hi, List.getElem?_drop]
    show some (l.getD (a + i) 0) = l[a + i]?
    rw [List.getD_eq_getElem?_getD, List.getElem?_eq_getElem (by omega)]
    rfl
  · rw [List.getElem?_eq_none (by simp; omega), List.getElem?_take, if_neg hi]
end Go.Proofs.YtadinjaocnlglaaGreatDoor
namespace Go.Proofs.YtadinjaocnlglaaGreatDoor
open Go.RowKit Go.MuLone
set_option maxRecDepth 100000
set_option maxHeartbeats 4000000
theorem unpack_ok (kt : Nat → Int) (B k g p q f : Nat) (T : TT) (un : Value) (ul : List Nat) (rd : Nat → Bool) (bl : Nat → ByteArray) (dn : Nat → Bool) (zs : Nat → Nat) (bd : Nat → Value) (w : World) (h : VS kt B k g p q f T un ul rd bl dn zs bd w) (hT : Told1 T) (hle : T.L.es.length ≤ 16 ∧ lenE T.L.es ≤ 4096) (hG : Gd kt w) (hB : B ≤ w.heap.size) (ha : ∀ s, s < T.L.ns → stF kt T bl s = 0) :
    Calls Tryz.prog 73 #[.pointer (some ⟨k, 0, none⟩)] w fun e w' => ∃ v, e = .returned (.tuple #[v, .nilIface]) ∧ PDid kt B k g p q f T un ul rd bl w v w' := by
  have HP : Hid _ := part_ok kt B k g p q f T un ul rd bl dn zs bd w h hT hle hG hB ha
  clear h hT hle hG ha
  go_enter Tryz.func73, Tryz.ntmps73
  go_wp2_with fail
  refine Calls.mono HP.out ?_
  rintro e w1 ⟨v, rfl, hP⟩
  have HD : Hid _ := hP
  clear hP
  go_wp2_with fail
  go_ret2
  exact ⟨v, rfl, HD.out⟩
end Go.Proofs.YtadinjaocnlglaaGreatDoor
namespace Go.Proofs.YtadinjaocnlglaaGreatDoor
open Go.RowKit Go.MuLone
set_option maxRecDepth 100000
set_option maxHeartbeats 4000000
/-- a Vault whose Stock is so -/
def VK (kt : Nat → Int) (B v k g p q f : Nat) (T : TT) (un : Value) (ul : List Nat) (rd : Nat → Bool) (bl : Nat → ByteArray) (w : World) : Prop := VL v k 0 w ∧ ∃ (dn : Nat → Bool) (zs : Nat → Nat) (bd : Nat → Value), VS kt B k g p q f T un ul rd bl dn zs bd w
theorem vunpack_ok (kt : Nat → Int) (B v k g p q f : Nat) (T : TT) (un : Value) (ul : List Nat) (rd : Nat → Bool) (bl : Nat → ByteArray) (w : World) (h : VK kt B v k g p q f T un ul rd bl w) (hT : Told1 T) (hle : T.L.es.length ≤ 16 ∧ lenE T.L.es ≤ 4096) (hG : Gd kt w) (hB : B ≤ w.heap.size) (h2 : v ≠ 2) (ha : ∀ s, s < T.L.ns → stF kt T bl s = 0) :
    Calls Tryz.prog 27 #[.pointer (some ⟨v, 0, none⟩)] w fun e w' => ∃ vo, e = .returned (.tuple #[vo, .nilIface]) ∧ VK kt B v k g p q f T un ul rd bl w' ∧ Fr (fun j => j = q ∨ j = f ∨ j = v) w w' ∧ OwnF w' w.heap.size vo T.L.es.length (unO kt T bl) := by
  obtain ⟨hv, dn, zs, bd, h⟩ := h
  have hvl : v < w.heap.size := (Array.getElem?_eq_some_iff.1 hv).1
  have hF0 : Fr (fun j => j = v) w (w.setCell ⟨v, 0, none⟩ (.int .i32 1)) := (Fr.refl (fun j => j = v) w).set (.inl rfl) _ _
  refine Calls.mono (lk_unpack v k w (fun val w' => ∃ vo, val = .tuple #[vo, .nilIface] ∧ VK kt B v k g p q f T un ul rd bl w' ∧ Fr (fun j => j = q ∨ j = f ∨ j = v) w w' ∧ OwnF w' w.heap.size vo T.L.es.length (unO kt T bl)) hv ?_) ?_
  · refine Calls.mono (unpack_ok kt B k g p q f T un ul rd bl dn zs bd _ (h.set hv (.inr rfl) _ _) hT hle (hG.fr hF0 (fun e => h2 e.symm)) (Nat.le_trans hB hF0.size) ha) ?_
    rintro e w' ⟨vo, rfl, ⟨dn', zs', bd', hS⟩, hF, hO⟩
    have hv1 : VL v k 1 w' := by
      have h1 := VL.one hv
      have hS1 := h.set hv (.inr rfl) 0 (.int .i32 1)
      unfold VL at h1 ⊢
      rw [hF.old v (Array.getElem?_eq_some_iff.1 h1).1 (fun e => by
        rcases e with e | e
        · exact row_ne h1 hS1.blR (by decide) e
        · exact row_ne h1 hS1.fiR (by decide) e)]
      exact h1
    refine ⟨_, _, rfl, hv1, vo, rfl, ⟨hv1.zero, dn', zs', bd', hS.set hv1 (.inr rfl) _ _⟩, ?_, ?_⟩
    · exact ((hF0.mono (T := fun j => j = q ∨ j = f ∨ j = v) (fun j _ e => .inr (.inr e))).trans' (hF.mono (fun j _ e => by rcases e with e | e; exact .inl e; exact .inr (.inl e)))).set (.inl (.inr (.inr rfl))) _ _
    · have e1 : (w.setCell ⟨v, 0, none⟩ (.int .i32 1)).heap.size = w.heap.size := by simp [World.setCell]
      rw [e1] at hO
      exact own_setB hO hv1 (by decide) _
  · rintro e w' ⟨a, b, rfl, vo, hval, h1, h2, h3⟩
    exact ⟨vo, by rw [hval], h1, h2, h3⟩
end Go.Proofs.YtadinjaocnlglaaGreatDoor
namespace Go.Proofs.YtadinjaocnlglaaGreatDoor
open Go.RowKit
set_option maxRecDepth 100000
set_option maxHeartbeats 1000000
theorem setCells_row (g : Nat) (t : TypeId) (fr : Nat × Nat) : ∀ (vs : List Value) (o : Nat) (w : World) (cur : Array Value), w.heap[g]? = some (.cells cur t fr) →
    ∃ cur', (w.setCells g o vs).heap[g]? = some (.cells cur' t fr) ∧ cur'.size = cur.size ∧ ∀ i, i < cur.size → cur'[i]? = if o ≤ i ∧ i < o + vs.length then vs[i - o]? else cur[i]?
  | [], o, w, cur, h => ⟨cur, h, rfl, fun i _ => by rw [if_neg (by simp)]⟩
  | v :: r, o, w, cur, h => by
    obtain ⟨cur', h1, h2, h3⟩ := setCells_row g t fr r (o + 1) (w.setCell ⟨g, o, none⟩ v) (cur.setIfInBounds o v) (set_heap w g o v cur t fr h)
    refine ⟨cur', h1, by simpa using h2, fun i hi => ?_⟩
    rw [h3 i (by simpa using hi)]
    by_cases e : i = o
    · subst e
      rw [if_neg (by omega), if_pos (by simp)]
      simp [hi]
    · by_cases e2 : o + 1 ≤ i ∧ i < o + 1 + r.length
      · rw [if_pos e2, if_pos (by simp; omega)]
        obtain ⟨k, rfl⟩ : ∃ k, i = o + 1 + k := ⟨i - (o + 1), by omega⟩
        rw [show o + 1 + k - (o + 1) = k by omega, show o + 1 + k - o = k + 1 by omega]
        rfl
      · rw [if_neg e2, if_neg (by simp; omega), Array.getElem?_setIfInBounds, if_neg (Ne.symm e)]
theorem setCells_other (g j : Nat) (h : j ≠ g) : ∀ (vs : List Value) (o : Nat) (w : World), (w.setCells g o vs).heap[j]? = w.heap[j]?
  | [], _, _ => rfl
  | v :: r, o, w => (setCells_other g j h r (o + 1) (w.setCell ⟨g, o, none⟩ v)).trans (set_other w g o j v h)
theorem setCells_size (g : Nat) : ∀ (vs : List Value) (o : Nat) (w : World), (w.setCells g o vs).heap.size = w.heap.size
  | [], _, _ => rfl
  | v :: r, o, w => (setCells_size g r (o + 1) (w.setCell ⟨g, o, none⟩ v)).trans (by simp [World.setCell])
theorem setCells_calm (g : Nat) : ∀ (vs : List Value) (o : Nat) (w : World), Calm w (w.setCells g o vs)
  | [], _, _ => ⟨rfl, rfl, rfl⟩
  | v :: r, o, w => setCells_calm g r (o + 1) (w.setCell ⟨g, o, none⟩ v)
def movF (G : Nat → Ob) (p r : Nat) : List Value := (List.range ((r - (p + 1)) * 2)).map fun j => fC G ((p + 1) * 2 + j)
def delF (G : Nat → Ob) (p : Nat) : Nat → Ob := fun i => if i < p then G i else G (i + 1)
theorem movF_len (G : Nat → Ob) (p r : Nat) : (movF G p r).length = (r - (p + 1)) * 2 := by simp [movF]
theorem movF_get (G : Nat → Ob) (p r j : Nat) (h : j < (r - (p + 1)) * 2) : (movF G p r)[j]? = some (fC G ((p + 1) * 2 + j)) := by simp [movF, h]
theorem movF_one (G : Nat → Ob) (p r : Nat) : ∀ u ∈ movF G p r, u.oneCell' = true := by
  intro u hu
  obtain ⟨i, _, rfl⟩ := List.mem_map.1 hu
  unfold fC
  split <;> rfl
theorem fC_del (G : Nat → Ob) (p i : Nat) : fC (delF G p) i = if i < p * 2 then fC G i else fC G (i + 2) := by
  unfold fC delF
  have e1 : (i + 2) % 2 = i % 2 := by omega
  have e2 : (i + 2) / 2 = i / 2 + 1 := by omega
  by_cases h : i < p * 2
  · rw [if_pos h, if_pos (show i / 2 < p by omega)]
  · rw [if_neg h, if_neg (show ¬ i / 2 < p by omega), e1, e2]
theorem OwnF.cur {w : World} {B n g cap : Nat} {F : Nat → Ob} (h : OwnF w B (.slice (some ⟨g, 0, none⟩) n cap) n F) : ∃ cur, w.heap[g]? = some (.cells cur 72 (0, 0)) ∧ B ≤ g ∧ n ≤ cap ∧ cap ≤ maxLen ∧ cur.size = cap * 2 ∧ ∀ i, i < n * 2 → cur[i]? = some (fC F i) := by
  rcases h.2 with ⟨h2, _⟩ | ⟨g', cap', cur, hv, hb, hh, hc1, hc2, hc3, hc4⟩
  · cases h2
  · cases hv
    refine ⟨cur, hh, hb, hc1, hc2, hc3, fun j hj => ?_⟩
    have := congrArg (fun l => l[j]?) hc4
    simp only [objF_get F n j hj] at this
    rw [← this, List.getElem?_take, if_pos hj]
    simp
theorem OwnF.del {w : World} {B r g cap : Nat} {G : Nat → Ob} (h : OwnF w B (.slice (some ⟨g, 0, none⟩) r cap) r G) (p : Nat) (hp : p < r) :
    OwnF (w.setCells g (p * 2) (movF G p r)) B (.slice (some ⟨g, 0, none⟩) (p + (r - (p + 1))) cap) (p + (r - (p + 1))) (delF G p) := by
  obtain ⟨cur, hh, hb, hc1, hc2, hc3, hc4⟩ := h.cur
  obtain ⟨cur', h1, h2, h3⟩ := setCells_row g 72 (0, 0) (movF G p r) (p * 2) w cur hh
  refine ⟨objF_len _ _, .inr ⟨g, cap, cur', rfl, hb, h1, by omega, hc2, by omega, ?_⟩⟩
  apply List.ext_getElem?
  intro i
  by_cases hi : i < (p + (r - (p + 1))) * 2
  · rw [objF_get _ _ _ hi, List.getElem?_take, if_pos hi, Array.getElem?_toList, h3 i (by omega), movF_len, fC_del]
    by_cases e : i < p * 2
    · rw [if_neg (by omega), if_pos e, hc4 i (by omega)]
    · rw [if_pos (by omega), if_neg e, movF_get _ _ _ _ (by omega), show (p + 1) * 2 + (i - p * 2) = i + 2 by omega]
  · rw [List.getElem?_take, if_neg hi, List.getElem?_eq_none (by rw [objF_len]; omega)]
theorem erase_perm : ∀ (l : List Ob) (p : Nat) (h : p < l.length), l.Perm (l[p] :: l.eraseIdx p)
  | [], _, h => by simp at h
  | x :: r, 0, _ => List.Perm.refl _
  | x :: r, p + 1, h => ((erase_perm r p (by simpa using h)).cons x).trans (List.Perm.swap _ _ _)
theorem del_perm (G : Nat → Ob) (r p : Nat) (hp : p < r) : ((List.range r).map G).Perm (G p :: (List.range (p + (r - (p + 1)))).map (delF G p)) := by
  have hl : p < ((List.range r).map G).length := by simpa using hp
  have h1 := erase_perm _ p hl
  have e1 : ((List.range r).map G)[p] = G p := by simp
  have e2 : ((List.range r).map G).eraseIdx p = (List.range (p + (r - (p + 1)))).map (delF G p) := by
    apply List.ext_getElem?
    intro i
    rw [List.getElem?_eraseIdx]
    by_cases hi : i < p
    · rw [if_pos hi]
      simp [delF, hi, show i < r by omega, show i < p + (r - (p + 1)) by omega]
    · rw [if_neg hi]
      by_cases h2 : i + 1 < r
      · simp [delF, hi, h2, show i < p + (r - (p + 1)) by omega]
      · simp [h2, show ¬ i < p + (r - (p + 1)) by omega]
  rw [e1, e2] at h1
  exact h1
end Go.Proofs.YtadinjaocnlglaaGreatDoor
namespace Go.Proofs.YtadinjaocnlglaaGreatDoor
open Go.RowKit
def KT : List Int := [1116352408, 1899447441, 3049323471, 3921009573, 961987163, 1508970993, 2453635748, 2870763221, 3624381080, 310598401, 607225278, 1426881987, 1925078388, 2162078206, 2614888103, 3248222580, 3835390401, 4022224774, 264347078, 604807628, 770255983, 1249150122, 1555081692, 1996064986, 2554220882, 2821834349, 2952996808, 3210313671, 3336571891, 3584528711, 113926993, 338241895, 666307205, 773529912, 1294757372, 1396182291, 1695183700, 1986661051, 2177026350, 2456956037, 2730485921, 2820302411, 3259730800, 3345764771, 3516065817, 3600352804, 4094571909, 275423344, 430227734, 506948616, 659060556, 883997877, 958139571, 1322822218, 1537002063, 1747873779, 1955562222, 2024104815, 2227730452, 2361852424, 2428436474, 2756734187, 3204031479, 3329325298]
def kt (j : Nat) : Int := KT.getD j 0
/-- eight words -/
def P8 (x : Nat → Int) (a b c d e f g h : Int) : Prop := x 0 = a ∧ x 1 = b ∧ x 2 = c ∧ x 3 = d ∧ x 4 = e ∧ x 5 = f ∧ x 6 = g ∧ x 7 = h
theorem P8.step {x : Nat → Int} {a b c d e f g h k w k' w' a' e' : Int} (p : P8 x a b c d e f g h) (hk : k = k') (hw : w = w') (ha : (h + bs1 e + cho e f g + k' + w' + bs0 a + maj a b c) % 4294967296 = a') (he : (d + h + bs1 e + cho e f g + k' + w') % 4294967296 = e') : P8 (rnd x k w) a' a b c e' e f g := by
  obtain ⟨h0, h1, h2, h3, h4, h5, h6, h7⟩ := p
  subst hk hw
  refine ⟨?_, h0, h1, h2, ?_, h4, h5, h6⟩
  · show (x 7 + bs1 (x 4) + cho (x 4) (x 5) (x 6) + k + w + bs0 (x 0) + maj (x 0) (x 1) (x 2)) % 4294967296 = a'
    rw [h0, h1, h2, h4, h5, h6, h7]; exact ha
  · show (x 3 + x 7 + bs1 (x 4) + cho (x 4) (x 5) (x 6) + k + w) % 4294967296 = e'
    rw [h3, h4, h5, h6, h7]; exact he
end Go.Proofs.YtadinjaocnlglaaGreatDoor
namespace Go.Proofs.YtadinjaocnlglaaGreatDoor
open Go.RowKit
set_option maxRecDepth 100000
set_option maxHeartbeats 1000000
theorem vdigest_any (kt : Nat → Int) (s : ByteArray) (w : World) (hs : s.size ≤ 140737488351232) (hT : Tab w 2 kt) (h3 : 4 ≤ w.heap.size) :
    Calls Tryz.prog 79 #[.string s] w fun e w' => e = .returned (.string (ofT kt s)) ∧ Below w.heap.size w w' := by
  have H : Hid _ := of_any kt s w hs hT h3
  clear hT
  go_enter Tryz.func79, Tryz.ntmps79
  go_wp2_with fail
  refine Calls.mono H.out ?_
  rintro e w1 ⟨rfl, hB⟩
  go_wp2
  go_ret
  exact ⟨rfl, hB⟩
def two : Nat → ByteArray
  | 0 => ⟨#[1]⟩
  | _ => ⟨#[3]⟩
def five : Nat → ByteArray := fun _ => ⟨#[5]⟩
end Go.Proofs.YtadinjaocnlglaaGreatDoor
namespace Go.Proofs.YtadinjaocnlglaaGreatDoor
open Go.RowKit
set_option maxRecDepth 100000
set_option maxHeartbeats 1000000
def movT (G : Nat → ByteArray) (p r : Nat) : List Value := (List.range (r - (p + 1))).map fun j => .string (G (p + 1 + j))
def delT (G : Nat → ByteArray) (p : Nat) : Nat → ByteArray := fun i => if i < p then G i else G (i + 1)
theorem movT_len (G : Nat → ByteArray) (p r : Nat) : (movT G p r).length = r - (p + 1) := by simp [movT]
theorem movT_get (G : Nat → ByteArray) (p r j : Nat) (h : j < r - (p + 1)) : (movT G p r)[j]? = some (.string (G (p + 1 + j))) := by simp [movT, h]
theorem movT_one (G : Nat → ByteArray) (p r : Nat) : ∀ u ∈ movT G p r, u.oneCell' = true := by
  intro u hu
  obtain ⟨i, _, rfl⟩ := List.mem_map.1 hu
  rfl
theorem tV_get (G : Nat → ByteArray) (r i : Nat) (h : i < r) : (tV G r)[i]? = some (.string (G i)) := by simp [tV, h]
theorem own_curT {w : World} {B n g cap : Nat} {G : Nat → ByteArray} (h : w.ownsRow B 9 1 (.slice (some ⟨g, 0, none⟩) n cap) n (tV G n)) : ∃ cur, w.heap[g]? = some (.cells cur 9 (0, 0)) ∧ B ≤ g ∧ n ≤ cap ∧ cap ≤ maxLen ∧ cur.size = cap * 1 ∧ ∀ i, i < n → cur[i]? = some (.string (G i)) := by
  rcases h.2 with ⟨h2, _⟩ | ⟨g', cap', cur, hv, hb, hh, hc1, hc2, hc3, hc4⟩
  · cases h2
  · cases hv
    refine ⟨cur, hh, hb, hc1, hc2, hc3, fun j hj => ?_⟩
    have := congrArg (fun l => l[j]?) hc4
    simp only [tV_get G n j hj] at this
    rw [← this, List.getElem?_take, if_pos (by omega)]
    simp
theorem own_delT {w : World} {B r g cap : Nat} {G : Nat → ByteArray} (h : w.ownsRow B 9 1 (.slice (some ⟨g, 0, none⟩) r cap) r (tV G r)) (p : Nat) (hp : p < r) :
    (w.setCells g p (movT G p r)).ownsRow B 9 1 (.slice (some ⟨g, 0, none⟩) (r - 1) cap) (r - 1) (tV (delT G p) (r - 1)) := by
  obtain ⟨cur, hh, hb, hc1, hc2, hc3, hc4⟩ := own_curT h
  obtain ⟨cur', h1, h2, h3⟩ := setCells_row g 9 (0, 0) (movT G p r) p w cur hh
  refine ⟨by rw [tV_len]; omega, .inr ⟨g, cap, cur', rfl, hb, h1, by omega, hc2, by omega, ?_⟩⟩
  apply List.ext_getElem?
  intro i
  by_cases hi : i < r - 1
  · rw [tV_get _ _ _ hi, List.getElem?_take, if_pos (by omega), Array.getElem?_toList, h3 i (by omega), movT_len]
    unfold delT
    by_cases e : i < p
    · rw [if_neg (by omega), if_pos e, hc4 i (by omega)]
    · rw [if_pos (by omega), if_neg e, movT_get _ _ _ _ (by omega), show p + 1 + (i - p) = i + 1 by omega]
  · rw [List.getElem?_take, if_neg (by omega), List.getElem?_eq_none (by rw [tV_len]; omega)]
theorem ents_nm : ∀ (k : Nat) (s : RS) (nm : ByteArray) (left : Int) (acc : List (ByteArray × Nat)), (∀ x ∈ acc, x.1.size ≤ 255) → ∀ x ∈ (RS.ents k s nm left acc).2, x.1.size ≤ 255
  | 0, _, _, _, _, h => h
  | k + 1, s, nm, left, acc, h => by
    rw [RS.ents]
    refine ents_nm k _ _ _ _ (fun x hx => ?_)
    rcases List.mem_append.1 hx with hx | hx
    · exact h x hx
    · rw [List.mem_singleton] at hx
      subst hx
      show ((s.num 1 255).1.bytes (s.num 1 255).2).2.size ≤ 255
      have h1 : (s.num 1 255).2 ≤ 255 := num_hi s 1 255
      have h2 : ((s.num 1 255).1.bytes (s.num 1 255).2).2.size ≤ (s.num 1 255).2 := by
        unfold RS.bytes
        split
        · exact Nat.zero_le _
        · split
          · exact Nat.zero_le _
          · show (ByteArray.extract _ _ _).size ≤ _
            rw [ByteArray.size_extract]; omega
      omega
theorem told_nm (s : RS) : ∀ x ∈ s.told.L.es, x.1.size ≤ 255 := by
  have hl : ∀ r : RS, ∀ x ∈ r.list.es, x.1.size ≤ 255 := fun r => ents_nm _ _ _ _ _ (fun x hx => by cases hx)
  unfold RS.told
  simp only []
  split
  · exact hl _
  · exact hl _
end Go.Proofs.YtadinjaocnlglaaGreatDoor
namespace Go.Proofs.YtadinjaocnlglaaGreatDoor
open Go.RowKit
set_option maxRecDepth 100000
set_option maxHeartbeats 4000000
theorem OwnF.cells {w : World} {B n : Nat} {v : Value} {F : Nat → Ob} (h : OwnF w B v n F) : ∃ a c, v = .slice a n c ∧ ∀ i, i < n → ∃ g, a = some ⟨g, 0, none⟩ ∧ w.cell? ⟨g, i * 2, none⟩ = some (.string (F i).1) ∧ w.cell? ⟨g, i * 2 + 1, none⟩ = some (.string (F i).2) := by
  rcases Nat.eq_zero_or_pos n with h0 | h0
  · obtain ⟨a, c, hv⟩ := own_shape h
    exact ⟨a, c, hv, fun i hi => by omega⟩
  · obtain ⟨g, cap, hv, _, _, _⟩ := h.at h0
    subst hv
    exact ⟨some ⟨g, 0, none⟩, cap, rfl, fun i hi => ⟨g, rfl, h.c0 i hi, h.c1 i hi⟩⟩
theorem sameO_any (A B : Nat → Ob) (n ca cb : Nat) (a b : Option Addr) (w : World) (hn : n ≤ 1000000) (hA : ∀ i, i < n → ∃ g, a = some ⟨g, 0, none⟩ ∧ w.cell? ⟨g, i * 2, none⟩ = some (.string (A i).1) ∧ w.cell? ⟨g, i * 2 + 1, none⟩ = some (.string (A i).2)) (hB : ∀ i, i < n → ∃ g, b = some ⟨g, 0, none⟩ ∧ w.cell? ⟨g, i * 2, none⟩ = some (.string (B i).1) ∧ w.cell? ⟨g, i * 2 + 1, none⟩ = some (.string (B i).2)) (h : ∀ i, i < n → A i = B i) :
    Calls Tryz.prog 29 #[.slice a n ca, .slice b n cb] w fun e w' => e = .returned (.bool true) ∧ Below w.heap.size w w' := by
  have HA : Hid _ := hA
  have HB : Hid _ := hB
  have HE : Hid _ := h
  clear hA hB h
  go_enter Tryz.func29, Tryz.ntmps29
  go_wp2_with fail
  go_loopw [5] (fun iv wr => ∃ i m : Nat, i ≤ n ∧ iv = .int .i64 i ∧ wr = w.drewN m) (fun iv _ => n - (intOf iv).toNat)
  case atStart => exact ⟨0, 0, by omega, rfl, rfl⟩
  case round =>
    obtain ⟨i, m, hi, rfl, hw⟩ := hrel
    by_cases hlt : i < n
    · have hin : (i : Int) < (n : Int) := by omega
      obtain ⟨g1, ha, x0, x1⟩ := HA.out i hlt
      obtain ⟨g2, hb, y0, y1⟩ := HB.out i hlt
      subst ha hb
      rw [HE.out i hlt] at x0 x1
      have c0 : wr.cell? ⟨g1, i * 2, none⟩ = some (.string (B i).1) := by rw [hw]; exact x0
      have c1 : wr.cell? ⟨g1, i * 2 + 1, none⟩ = some (.string (B i).2) := by rw [hw]; exact x1
      have d0 : wr.cell? ⟨g2, i * 2, none⟩ = some (.string (B i).1) := by rw [hw]; exact y0
      have d1 : wr.cell? ⟨g2, i * 2 + 1, none⟩ = some (.string (B i).2) := by rw [hw]; exact y1
      have HW : Hid _ := hw
      clear hw x0 x1 y0 y1
      go_wp2_with fail
      go_quiet (fail)
      go_wp2_with fail
      go_roundw
      case rel => exact ⟨i + 1, _, by omega, by go_num, by rw [HW.out, World.drewN_drewN]⟩
      case measure => simp [intOf]; omega
    · go_wp2_with fail
      go_ret
      exact ⟨rfl, below_drewN (Below.refl _ _) _⟩
end Go.Proofs.YtadinjaocnlglaaGreatDoor
