/-
  The walk of varint.Of; plain: the bytes of a varint.
  The walks of layout's cut, share, countStripes, CountBlocks.
  The walks of layout's countStripes, CountBlocks.
  The walks of slices.Grow at nil, slices.Concat of two lists, stripe.Whole.
-/
import Derived.Test.YtadinjaocnlglaaGreatDoorProg
import Derived.WalkKit
import Derived.WalkSpells
import Derived.WalkLawsBesides
import Derived.BigRegion
import Derived.BigQuiet
import Derived.Deep.QuietTactic
import Derived.Deep.RegionWith
import Derived.Deep.RegionHeld3
import Derived.Test.YtadinjaocnlglaaGreatDoorS3
import Derived.Lib.Walk
import Derived.Lib.SliceRun
import Derived.Lib.AppendZerosOnto
namespace Go.Proofs.YtadinjaocnlglaaGreatDoor
open Go.RowKit
set_option maxRecDepth 100000
/-- the bytes of the varint of a number, at most f + 1 of them -/
def vb : Nat → Nat → List Nat
  | 0, n => [n]
  | f + 1, n => if n < 128 then [n] else (n % 128 + 128) :: vb f (n / 128)
theorem vb_len : ∀ f n, (vb f n).length ≤ f + 1
  | 0, n => by simp [vb]
  | f + 1, n => by
    rw [vb]
    have := vb_len f (n / 128)
    split
    · simp
    · simp; omega
def u8s (l : List Nat) : List Value := l.map fun x => .int .u8 ((x : Nat) : Int)
theorem u8s_snoc (l : List Nat) (x : Nat) : u8s (l ++ [x]) = u8s l ++ [.int .u8 ((x : Nat) : Int)] := by simp [u8s]
/-- the varint of a number, as a text -/
def vint (n : Nat) : ByteArray := strOfNums ((vb 4 n).map fun x => ((x : Nat) : Int))
theorem vint_size (n : Nat) : (vint n).size ≤ 5 := by
  unfold vint
  rw [strOfNums_size, List.length_map]
  exact vb_len 4 n
theorem or_128B : ∀ y : Fin 256, bits .or .u8 ((y.val : Nat) : Int) 128 = ((y.val % 128 + 128 : Nat) : Int) := by decide +kernel
theorem or_128 (x : Nat) : bits .or .u8 ((x : Int) % 256) 128 = ((x % 128 + 128 : Nat) : Int) := by
  have h := or_128B ⟨x % 256, Nat.mod_lt _ (by omega)⟩
  have e : ((x % 256 : Nat) : Int) = (x : Int) % 256 := by omega
  rw [← e, h]
  have e2 : x % 256 % 128 = x % 128 := by omega
  show (((x % 256) % 128 + 128 : Nat) : Int) = _
  rw [e2]
theorem info5v : (Tryz.prog.info? 5).map (fun i => (i.zero, i.size, i.bytes)) = some (some (.int .u8 0), 1, 1) := by kernel_rfl
theorem own_shape {w : World} {base : Nat} {e : TypeId} {size : Nat} {v : Value} {n : Nat} {xs : List Value} (h : w.ownsRow base e size v n xs) : ∃ a cap, v = .slice a n cap := by
  rcases h.2 with ⟨rfl, rfl⟩ | ⟨g, cap, cur, rfl, _⟩
  · exact ⟨none, 0, rfl⟩
  · exact ⟨_, _, rfl⟩
theorem own_lt {w : World} {base : Nat} {e : TypeId} {size : Nat} {v : Value} {n : Nat} {xs : List Value} (h : w.ownsRow base e size v n xs) : ∀ r, v.ownBlock = some r → r < w.heap.size := by
  intro r hr
  rcases h.2 with ⟨rfl, _⟩ | ⟨g, cap, cur, rfl, _, hg, _⟩
  · cases hr
  · cases hr; exact (Array.getElem?_eq_some_iff.1 hg).1
theorem own_ge {w : World} {base : Nat} {e : TypeId} {size : Nat} {v : Value} {n : Nat} {xs : List Value} (h : w.ownsRow base e size v n xs) : ∀ g, v.ownBlock = some g → base ≤ g := by
  intro g hg
  rcases h.2 with ⟨rfl, _⟩ | ⟨g', cap, cur, rfl, hb, _⟩
  · simp [Value.ownBlock] at hg
  · simp [Value.ownBlock] at hg; omega
theorem own_bytes {w : World} {base : Nat} {v : Value} {n : Nat} {l : List Nat} (h : w.ownsRow base 5 1 v n (u8s l)) (hl : l.length = n) (h0 : 0 < n) : (convert 165 9 v).run Tryz.prog w = .ok (.string (strOfNums (l.map fun x => ((x : Nat) : Int)))) w := by
  rcases h.2 with ⟨_, h1⟩ | ⟨g, cap, cur, hv, _⟩
  · omega
  · subst hv
    refine run_convert_bytes_arg (P := Tryz.prog) w 165 5 Tryz.underlying165 Tryz.underlying5 g 0 n cap (l.map fun x => ((x : Nat) : Int)) (by simp [hl]) (fun i hi => ?_) 9 Tryz.underlying9
    rw [Nat.zero_add, h.cellAt i (by omega)]
    simp [u8s, hl, hi]
set_option maxHeartbeats 2000000 in
theorem varint_any (n : Nat) (w : World) (hn : n < 4294967296) :
    Calls Tryz.prog 183 #[.int .u32 n] w fun e w' => e = .returned (.string (vint n)) ∧ Below w.heap.size w w' := by
  obtain ⟨i0, hi, hz0, hz1, hz2⟩ := info_parts info5v
  go_enter Tryz.func183, Tryz.ntmps183
  go_wp2
  go_loopw [0, 3] (fun xv v wr => ∃ (x f L : Nat) (pre : List Nat), xv = .int .u32 x ∧ x < 4294967296 ∧ x < 128 ^ (f + 1) ∧ f ≤ 4 ∧ pre.length = L ∧ L + f = 4 ∧ pre ++ vb f x = vb 4 n ∧ wr.ownsRow w.heap.size 5 1 v L (u8s pre) ∧ Below w.heap.size w wr) (fun xv _ _ => (intOf xv).toNat)
  case atStart => exact ⟨n, 4, 0, [], rfl, hn, by omega, by omega, rfl, by omega, rfl, World.ownsRow_nil _ _ _ _, Below.refl _ _⟩
  case round =>
    obtain ⟨x, f, L, pre, rfl, hx, hxf, hf, hL, hLf, hpre, hown, hbl⟩ := hrel
    obtain ⟨va, vc, hv⟩ := own_shape hown
    subst hv
    have HPR : Hid _ := hpre
    have HXF : Hid _ := hxf
    have HL : Hid _ := hL
    have HO : Hid (wr.ownsRow w.heap.size 5 1 (.slice va L vc) L (u8s pre)) := hown
    have HB : Hid (Below w.heap.size w wr) := hbl
    clear hpre hxf hL hown hbl
    by_cases hge : 128 ≤ x
    · have hor := or_128 x
      have hB' : w.heap.size ≤ (wr.alloc (Obj.cells #[Value.int IntKind.u8 ((x % 128 + 128 : Nat) : Int)] 5)).heap.size := by have := HB.out.size; simp; omega
      have hgi : (128 : Int) ≤ (x : Int) := by omega
      go_wp2_with (at_builtin; refine wpList_append_own_at _ rfl (.tmp 6) (.tmp 10) 165 rfl w.heap.size 5 i0 (.int .u8 0) 1 1 Tryz.underlying165 hi hz0 hz1 hz2 rfl (by decide) _ L (u8s pre) rfl (HO.out.alloc _) ⟨wr.heap.size, 0, none⟩ 1 1 [.int .u8 ((x % 128 + 128 : Nat) : Int)] rfl rfl (cell_one_new _ _ _) (by intro u hu; simp at hu; subst hu; rfl) ?kb ?kc hB' ?_)
      case kb => unfold maxLen; omega
      case kc => omega
      intro v' w' hown' hgrow _ hblk
      have hbl' : Below w.heap.size w w' := (HB.out.alloc HB.out.size _).grown hgrow hB' (fun g hg => own_ge HO.out g hg)
      have ho' : w'.ownsRow w.heap.size 5 1 v' (L + 1) (u8s (pre ++ [x % 128 + 128])) := by rw [u8s_snoc]; exact hown'
      clear hown' hgrow hblk HO HB hB' hor
      go_wp2
      go_roundw
      case rel =>
        have h1 := HXF.out
        have hf1 : 1 ≤ f := by
          rcases Nat.eq_zero_or_pos f with h | h
          · rw [h] at h1; omega
          · exact h
        obtain ⟨f', rfl⟩ : ∃ f', f = f' + 1 := ⟨f - 1, by omega⟩
        refine ⟨x / 128, f', L + 1, pre ++ [x % 128 + 128], by go_num, by omega, ?_, by omega, by simp [HL.out], by omega, ?_, ho', hbl'⟩
        · rw [Nat.pow_succ] at h1; omega
        · rw [← HPR.out, vb, if_neg (by omega), List.append_assoc]; rfl
      case measure => simp [intOf]; omega
    · have hgi : (x : Int) < 128 := by omega
      have hmod : (x : Int) % 256 = (x : Int) := by omega
      have HV : Hid (pre ++ [x] = vb 4 n) := by
        show pre ++ [x] = vb 4 n
        rw [← HPR.out]
        cases f with
        | zero => rfl
        | succ f => rw [vb, if_pos (by omega)]
      have hB' : w.heap.size ≤ (wr.alloc (Obj.cells #[Value.int IntKind.u8 ((x : Nat) : Int)] 5)).heap.size := by have := HB.out.size; simp; omega
      go_wp2_with (at_builtin; refine wpList_append_own_at _ rfl (.tmp 14) (.tmp 17) 165 rfl w.heap.size 5 i0 (.int .u8 0) 1 1 Tryz.underlying165 hi hz0 hz1 hz2 rfl (by decide) _ L (u8s pre) rfl (HO.out.alloc _) ⟨wr.heap.size, 0, none⟩ 1 1 [.int .u8 ((x : Nat) : Int)] rfl rfl (cell_one_new _ _ _) (by intro u hu; simp at hu; subst hu; rfl) ?kb ?kc hB' ?_)
      case kb => unfold maxLen; omega
      case kc => omega
      intro v' w' hown' hgrow _ hblk
      have hbl' : Below w.heap.size w w' := (HB.out.alloc HB.out.size _).grown hgrow hB' (fun g hg => own_ge HO.out g hg)
      have ho' : w'.ownsRow w.heap.size 5 1 v' (L + 1) (u8s (pre ++ [x])) := by rw [u8s_snoc]; exact hown'
      have hcv := own_bytes ho' (by simp [HL.out]) (by omega)
      rw [HV.out] at hcv
      clear hown' hgrow hblk HO HB hB' ho'
      go_wp2
      go_ret
      exact ⟨rfl, hbl'⟩
end Go.Proofs.YtadinjaocnlglaaGreatDoor
namespace Go.Proofs.YtadinjaocnlglaaGreatDoor
open Go.RowKit
set_option maxRecDepth 100000
set_option maxHeartbeats 1000000
/-- the i-th piece of a text -/
def pc (s : ByteArray) (z i : Nat) : ByteArray := s.extract (i * z) ((i + 1) * z)
theorem pc_size (s : ByteArray) (z c i : Nat) (hs : s.size = c * z) (hi : i < c) : (pc s z i).size = z := by
  unfold pc
  rw [ByteArray.size_extract]
  have h1 : (i + 1) * z ≤ c * z := Nat.mul_le_mul_right z (by omega)
  rw [Nat.min_eq_left (by omega), Nat.succ_mul]
  omega
def tX (S : Nat → ByteArray) : Nat → Value := fun i => .string (S i)
theorem wrap_div (p V : Nat) (hp : p ≤ 1000000000000) : wrap64 ((p : Int) / (V : Int)) = ((p / V : Nat) : Int) := by
  have h : p / V ≤ p := Nat.div_le_self p V
  rw [← Int.natCast_ediv]
  obtain ⟨q, hq⟩ : ∃ q, p / V = q := ⟨_, rfl⟩
  rw [hq] at h ⊢
  unfold wrap64
  omega
theorem share_any (V n v : Nat) (w : World) (hV : 0 < V) (hV2 : V ≤ 1000) (hn : n ≤ 100000) (hv : v ≤ 1000) :
    Calls Tryz.prog 185 #[.int .i64 V, .int .i64 n, .int .i64 v] w fun e w' => e = .returned (.tuple #[.int .i64 ((v * n / V : Nat) : Int), .int .i64 (((v + 1) * n / V : Nat) : Int)]) ∧ ∃ q, w' = w.drewN q := by
  have h1 : v * n ≤ 100000000 := Nat.le_trans (Nat.mul_le_mul hv hn) (by omega)
  have h2 : (v + 1) * n ≤ 200000000 := Nat.le_trans (Nat.mul_le_mul (Nat.add_le_add_right hv 1) hn) (by omega)
  obtain ⟨p, hp⟩ : ∃ p, v * n = p := ⟨_, rfl⟩
  obtain ⟨p2, hp2⟩ : ∃ p2, (v + 1) * n = p2 := ⟨_, rfl⟩
  have e1 : (v : Int) * (n : Int) = ((p : Nat) : Int) := by rw [← hp]; simp
  have e2 : ((v : Int) + 1) * (n : Int) = ((p2 : Nat) : Int) := by rw [← hp2]; simp
  have hV0 : ((V : Int) == 0) = false := by simp; omega
  rw [hp] at h1 ⊢
  rw [hp2] at h2 ⊢
  clear hp hp2
  have d1 := wrap_div p V (by omega)
  have d2 := wrap_div p2 V (by omega)
  go_enter Tryz.func185, Tryz.ntmps185
  go_wp2
  go_quiet (fail)
  go_wp2
  go_ret2
  refine ⟨?_, nq, rfl⟩
  show Ending.returned (.tuple #[.int .i64 (wrap64 ((p : Int) / (V : Int))), .int .i64 (wrap64 ((p2 : Int) / (V : Int)))]) = _
  rw [d1, d2]
theorem cut_any (s : ByteArray) (z c : Nat) (w : World) (hz : 0 < z) (hz2 : z ≤ 100000) (hc : c ≤ 100000) (hs : s.size = c * z) :
    Calls Tryz.prog 203 #[.string s, .int .i64 z] w fun e w' => e = .returned (.slice (some ⟨w.heap.size, 0, none⟩) c c) ∧ Rw w' w.heap.size c 9 (tX (pc s z)) ∧ Below w.heap.size w w' := by
  have hsz : s.size ≤ 10000000000 := by rw [hs]; exact Nat.le_trans (Nat.mul_le_mul hc hz2) (by omega)
  have hq0 : s.size / z = c := by rw [hs]; exact Nat.mul_div_cancel _ hz
  have hd := wrap_div s.size z (by omega)
  rw [hq0] at hd
  have hz0 : ((z : Int) == 0) = false := by simp; omega
  have hmk := run_make_row' (P := Tryz.prog) 42 9 (.string ⟨#[]⟩) 16 Tryz.underlying42 info9 rfl .i64 .i64 c (by omega) (by omega)
  have HS : Hid _ := hs
  clear hs hq0
  go_enter Tryz.func203, Tryz.ntmps203
  go_wp2
  go_loopw [14] (fun iv wr => ∃ i : Nat, i ≤ c ∧ iv = .int .i64 i ∧ Below w.heap.size w wr ∧ Rw wr w.heap.size c 9 (part' i (tX (pc s z)) (.string ⟨#[]⟩))) (fun iv _ => c - (intOf iv).toNat)
  case atStart => exact ⟨0, by omega, rfl, (Below.refl _ _).alloc (Nat.le_refl _) _, (Rw.made w c 9 (.string ⟨#[]⟩)).to (fun j _ => (part_0 _ _ j).symm)⟩
  case round =>
    obtain ⟨i, hi, rfl, hb, hR⟩ := hrel
    by_cases hlt : i < c
    · have c1 := hR.cell i hlt
      have c2 := hR.free i
      have hle : (i + 1) * z ≤ s.size := by rw [HS.out]; exact Nat.mul_le_mul_right z (by omega)
      have hll : i * z ≤ (i + 1) * z := Nat.mul_le_mul_right z (by omega)
      obtain ⟨lo, hlo⟩ : ∃ lo, i * z = lo := ⟨_, rfl⟩
      obtain ⟨up, hup⟩ : ∃ up, (i + 1) * z = up := ⟨_, rfl⟩
      have e1 : (i : Int) * (z : Int) = ((lo : Nat) : Int) := by rw [← hlo]; simp
      have e2 : ((i : Int) + 1) * (z : Int) = ((up : Nat) : Int) := by rw [← hup]; simp
      rw [hlo, hup] at hll
      rw [hup] at hle
      have HPC : Hid (pc s z i = s.extract lo up) := by show pc s z i = s.extract lo up; unfold pc; rw [hlo, hup]
      clear hlo hup
      have hsl : ∀ W, (Instr.slice 9 (.string s) (some (.int .i64 ((lo : Nat) : Int))) (some (.int .i64 ((up : Nat) : Int))) none).run Tryz.prog W = .ok (.string (s.extract lo up)) W := fun W => by
        rw [run_slice_string W 9 s .i64 .i64 _ _ Tryz.underlying9 (by omega) (by omega) (by omega), Int.toNat_natCast, Int.toNat_natCast]
      have hc' : (i : Int) < (c : Int) := by omega
      go_wp2
      go_roundw
      case rel => exact ⟨i + 1, by omega, by go_num, hb.setCell (Nat.le_refl _) _, (hR.put i _).to (fun j _ => by rw [← HPC.out, ← part_step]; rfl)⟩
      case measure => simp [intOf]; omega
    · have e : i = c := by omega
      subst e
      go_wp2
      go_ret
      exact ⟨rfl, hR.to (fun j hj => by simp [part', hj]), hb⟩
end Go.Proofs.YtadinjaocnlglaaGreatDoor
namespace Go.Proofs.YtadinjaocnlglaaGreatDoor
open Go.RowKit
set_option maxRecDepth 100000
set_option maxHeartbeats 1000000
/-- params, as a value -/
def pV (K M C V : Nat) : Value := .agg #[.int .i64 K, .int .i64 M, .int .i64 C, .int .i64 V]
/-- how many stripes -/
def nst (z len : Nat) : Nat := (len + z - 1) / z
theorem countStripes_any (K M C V len z : Nat) (w : World) (hz : K * C = z) (hz0 : 0 < z) (hz1 : z ≤ 100000) (hl : len ≤ 100000) :
    Calls Tryz.prog 197 #[.agg #[.int .i64 K, .int .i64 M, .int .i64 C, .int .i64 V], .int .i64 len] w fun e w' => e = .returned (.int .i64 (nst z len : Nat)) ∧ Below w.heap.size w w' := by
  have e1 : (K : Int) * (C : Int) = (z : Int) := by rw [← hz]; simp
  have e2 : (len : Int) + (z : Int) - 1 = ((len + z - 1 : Nat) : Int) := by omega
  have d1 : ((len : Int) + (z : Int) - 1) / (z : Int) = (((len + z - 1) / z : Nat) : Int) := by rw [e2, Int.natCast_ediv]
  have hne : ((z : Int) == 0) = false := by simp; omega
  unfold nst
  have D1 : Hid _ := d1
  clear hz e2 d1
  go_enter Tryz.func197, Tryz.ntmps197
  go_wp2
  go_ret
  refine ⟨?_, (Below.refl _ _).alloc (Nat.le_refl _) _⟩
  show Ending.returned (.int .i64 (((len : Int) + (z : Int) - 1) / (z : Int))) = _
  rw [D1.out]
theorem countBlocks_any (K M C V len z : Nat) (w : World) (hz : K * C = z) (hz0 : 0 < z) (hz1 : z ≤ 100000) (hl : len ≤ 100000) (hK : K ≤ 1000) (hM : M ≤ 1000) :
    Calls Tryz.prog 154 #[.agg #[.int .i64 K, .int .i64 M, .int .i64 C, .int .i64 V], .int .i64 len] w fun e w' => e = .returned (.int .i64 (nst z len * (K + M) : Nat)) ∧ Below w.heap.size w w' := by
  have H : Hid (∀ W, _) := fun W => countStripes_any K M C V len z W hz hz0 hz1 hl
  have hns : nst z len ≤ 200000 := Nat.le_trans (Nat.div_le_self _ _) (by omega)
  obtain ⟨n, hn⟩ : ∃ n, nst z len = n := ⟨_, rfl⟩
  rw [hn] at H hns ⊢
  have h1 : n * (K + M) ≤ 400000000 := Nat.le_trans (Nat.mul_le_mul hns (show K + M ≤ 2000 by omega)) (by omega)
  obtain ⟨r, hr⟩ : ∃ r, n * (K + M) = r := ⟨_, rfl⟩
  have e1 : (n : Int) * ((K : Int) + (M : Int)) = (r : Int) := by rw [← hr]; simp
  rw [hr] at h1 ⊢
  clear hn hr hz
  go_enter Tryz.func154, Tryz.ntmps154
  go_wp2
  obtain ⟨s0, hs0⟩ : ∃ s0, s0 = w.alloc (Obj.cells #[Value.int IntKind.i64 K, Value.int IntKind.i64 M, Value.int IntKind.i64 C, Value.int IntKind.i64 V] 23) := ⟨_, rfl⟩
  have hO : s0.heap[w.heap.size]? = some (.cells #[.int .i64 K, .int .i64 M, .int .i64 C, .int .i64 V] 23 (0, 0)) := by rw [hs0]; exact heap_alloc_new _ _
  have HB0 : Hid (Below w.heap.size w s0) := by show Below _ _ _; rw [hs0]; exact (Below.refl _ _).alloc (Nat.le_refl _) _
  rw [← hs0]
  clear hs0
  obtain ⟨x, hx⟩ : ∃ x, x = w.heap.size := ⟨_, rfl⟩
  rw [← hx] at hO ⊢
  have HX : Hid _ := hx
  clear hx
  have c0 : s0.cell? ⟨x, 0, none⟩ = some (.int .i64 K) := cell_of_row _ _ _ _ 23 _ hO
  have c1 : s0.cell? ⟨x, 1, none⟩ = some (.int .i64 M) := cell_of_row _ _ _ _ 23 _ hO
  have c2 : s0.cell? ⟨x, 2, none⟩ = some (.int .i64 C) := cell_of_row _ _ _ _ 23 _ hO
  have c3 : s0.cell? ⟨x, 3, none⟩ = some (.int .i64 V) := cell_of_row _ _ _ _ 23 _ hO
  clear hO
  go_region_held3 (fun w' => w'.cell? ⟨x, 0, none⟩ = some (.int .i64 K) ∧ w'.cell? ⟨x, 1, none⟩ = some (.int .i64 M) ∧ w'.cell? ⟨x, 2, none⟩ = some (.int .i64 C) ∧ w'.cell? ⟨x, 3, none⟩ = some (.int .i64 V)) (go_keep) (first | (go_at_call 197; refine Calls.mono (H.out _) ?_; rintro e r1 ⟨rfl, hb1⟩; have hxl := block_lt_of_cell c0; have d0 : r1.cell? ⟨x, 0, none⟩ = some (.int .i64 K) := (hb1.cell (p := ⟨x, 0, none⟩) hxl).trans c0; have d1 : r1.cell? ⟨x, 1, none⟩ = some (.int .i64 M) := (hb1.cell (p := ⟨x, 1, none⟩) hxl).trans c1; have d2 : r1.cell? ⟨x, 2, none⟩ = some (.int .i64 C) := (hb1.cell (p := ⟨x, 2, none⟩) hxl).trans c2; have d3 : r1.cell? ⟨x, 3, none⟩ = some (.int .i64 V) := (hb1.cell (p := ⟨x, 3, none⟩) hxl).trans c3))
  go_wp2
  go_ret
  have a1 : IntKind.i64.wrap ((K : Int) + (M : Int)) = (K : Int) + (M : Int) := by rw [IntKind.wrap_i64]; omega
  have a2 : IntKind.i64.wrap (r : Int) = (r : Int) := by rw [IntKind.wrap_i64]; omega
  refine ⟨?_, ?_⟩
  · show Ending.returned (.int .i64 (IntKind.i64.wrap ((n : Int) * IntKind.i64.wrap ((K : Int) + (M : Int))))) = _
    rw [a1, e1, a2]
  · have hb2 : Below s0.heap.size s0 r1 := by first | exact hb1 | exact ((Below.refl _ _).drew).trans hb1
    exact HB0.out.trans (hb2.mono HB0.out.size)
end Go.Proofs.YtadinjaocnlglaaGreatDoor
namespace Go.Proofs.YtadinjaocnlglaaGreatDoor
open Go.RowKit
set_option maxRecDepth 100000
set_option maxHeartbeats 1000000
theorem own_below {w w' : World} {base : Nat} {e : TypeId} {size : Nat} {v : Value} {n : Nat} {xs : List Value} (h : w.ownsRow base e size v n xs) (hb : Below w.heap.size w w') : w'.ownsRow base e size v n xs := by
  refine ⟨h.1, ?_⟩
  rcases h.2 with h2 | ⟨g, cap, cur, hv, hg, hh, rest⟩
  · exact .inl h2
  · exact .inr ⟨g, cap, cur, hv, hg, by rw [hb.block g (Array.getElem?_eq_some_iff.1 hh).1]; exact hh, rest⟩
theorem grow_nil (n : Nat) (w : World) (hn0 : 0 < n) (hn : n ≤ 1000000) :
    Calls Tryz.prog 286 #[.slice none 0 0, .int .i64 n] w fun e w' => ∃ v, e = .returned v ∧ w'.ownsRow w.heap.size 9 1 v 0 [] ∧ Below w.heap.size w w' := by
  obtain ⟨i0, hi0, hz0, hz1, hz2⟩ := info_parts info9
  have hrz : ∀ ty, (Builtin.append_ #[42, 3] ty #[.slice none 0 0, .int .i64 n]).run Tryz.prog w = .ok (.slice (some ⟨w.heap.size, 0, none⟩) n (grownCap w n 0 9)) (w.drew.alloc (.cells (#[] ++ Builtin.zeroCells #[.string ⟨#[]⟩] n ++ Builtin.zeroCells #[.string ⟨#[]⟩] (grownCap w n 0 9 - n)) 9)) := fun ty => by
    have h := Lib.run_append_grow_zeros (P := Tryz.prog) w 42 3 ty 9 i0 (.string ⟨#[]⟩) .i64 .i64 Tryz.underlying42 Tryz.underlying3 hi0 hz0 none 0 0 [] (by rw [hz1]; exact run_firstCells_none w.drew 1 0 0 0) n hn0 (by omega) (by omega) (by omega) (by rw [hz2]; omega) (by rw [Nat.zero_add, hz2]; exact growslice_fits (by omega) (by omega))
    rw [Nat.zero_add] at h
    exact h
  have hge : n ≤ grownCap w n 0 9 := grownCap_ge w _ _ _
  have hmx : grownCap w n 0 9 ≤ maxLen := grownCap_le_maxLen w n 0 9 (by unfold maxLen; omega)
  obtain ⟨G, hG⟩ : ∃ G, G = grownCap w n 0 9 := ⟨_, rfl⟩
  rw [← hG] at hrz hge hmx
  have hG63 : G ≤ 9223372036854775807 := by unfold maxLen at hmx; omega
  have hgt : (0 : Int) < (n : Int) := by omega
  clear hG
  go_enter Tryz.func286, Tryz.ntmps286
  go_wp2_with (at_builtin; refine Lib.wpList_append_run _ rfl _ _ _ _ rfl _ _ rfl rfl _ _ (hrz _) ?_)
  go_ret
  refine ⟨_, rfl, ⟨rfl, .inr ⟨w.heap.size, G, _, rfl, Nat.le_refl _, heap_alloc_new _ _, by omega, hmx, ?_, by simp⟩⟩, ?_⟩
  · simp [Builtin.zeroCells]; omega
  · exact ((Below.refl _ _).alloc (Nat.le_refl _) _).drew
def tV (T : Nat → ByteArray) (n : Nat) : List Value := (List.range n).map fun i => .string (T i)
theorem tV_len (T : Nat → ByteArray) (n : Nat) : (tV T n).length = n := by simp [tV]
theorem tV_one (T : Nat → ByteArray) (n : Nat) : ∀ u ∈ tV T n, u.oneCell' = true := by
  intro u hu
  simp only [tV, List.mem_map] at hu
  obtain ⟨i, _, rfl⟩ := hu
  rfl
theorem tV_cells {w : World} {g n : Nat} {T : Nat → ByteArray} (h : ∀ i, i < n → w.cell? ⟨g, i, none⟩ = some (.string (T i))) : ∀ j u, (tV T n)[j]? = some u → w.cell? ((⟨g, 0, none⟩ : Addr).add j) = some u := fun j u hu => by
  have hj : j < n := by have := (List.getElem?_eq_some_iff.1 hu).1; rwa [tV_len] at this
  have e : (⟨g, 0, none⟩ : Addr).add j = ⟨g, j, none⟩ := by cases j with
    | zero => rfl
    | succ j => simp [Addr.add]
  rw [e, h j hj]
  simp [tV, hj] at hu
  rw [hu]
theorem concat_any (S T : Nat → ByteArray) (b d g k m cap cap2 : Nat) (w : World) (hk1 : 0 < k) (hk : k ≤ 1000) (hm : m ≤ 1000) (hd : d < w.heap.size) (hg : g < w.heap.size) (hb : b < w.heap.size)
    (hb0 : w.cell? ⟨b, 0, none⟩ = some (.slice (some ⟨d, 0, none⟩) k cap)) (hb1 : w.cell? ⟨b, 1, none⟩ = some (.slice (some ⟨g, 0, none⟩) m cap2))
    (hS : ∀ i, i < k → w.cell? ⟨d, i, none⟩ = some (.string (S i))) (hT : ∀ i, i < m → w.cell? ⟨g, i, none⟩ = some (.string (T i))) :
    Calls Tryz.prog 244 #[.slice (some ⟨b, 0, none⟩) 2 2] w fun e w' => ∃ v, e = .returned v ∧ w'.ownsRow w.heap.size 9 1 v (k + m) (tV S k ++ tV T m) ∧ Below w.heap.size w w' := by
  have HS : Hid _ := hS
  have HT : Hid _ := hT
  have HG : Hid _ := grow_nil (k + m) w (by omega) (by omega)
  obtain ⟨i0, hi9, hz0, hz1, hz2⟩ := info_parts info9
  clear hS hT
  have e0 : (k : Int) + (m : Int) = ((k + m : Nat) : Int) := by omega
  have HE : Hid _ := e0
  have hb1' := hb1
  have HB1' : Hid _ := hb1'
  clear e0 hb1'
  go_enter Tryz.func244, Tryz.ntmps244
  go_wp2
  refine wp_loop_rounds 3 ?_
  rw [rounds_succ]
  go_wp2
  rw [rounds_succ]
  go_wp2
  rw [rounds_succ]
  go_wp2_with fail
  rw [HE.out]
  refine Calls.mono HG.out ?_
  rintro e w1 ⟨v1, rfl, ho1, hB1⟩
  obtain ⟨a1, c1, hv⟩ := own_shape ho1
  subst hv
  have b0 : w1.cell? ⟨b, 0, none⟩ = some (.slice (some ⟨d, 0, none⟩) k cap) := (hB1.cell (p := ⟨b, 0, none⟩) hb).trans hb0
  have b1 : w1.cell? ⟨b, 1, none⟩ = some (.slice (some ⟨g, 0, none⟩) m cap2) := (hB1.cell (p := ⟨b, 1, none⟩) hb).trans hb1
  have HO1 : Hid (w1.ownsRow w.heap.size 9 1 (.slice a1 0 c1) 0 []) := ho1
  have HB1 : Hid (Below w.heap.size w w1) := hB1
  have hB' : w.heap.size ≤ w1.heap.size := hB1.size
  clear ho1 hB1 hb0 hb1 HG
  go_wp2
  refine wp_loop_rounds 3 ?_
  rw [rounds_succ]
  go_wp2_with (at_builtin; refine wpList_append_own_at _ rfl (.tmp 31) (.tmp 32) 42 rfl w.heap.size 9 i0 (.string ⟨#[]⟩) 1 16 Tryz.underlying42 hi9 hz0 hz1 hz2 rfl (by decide) _ 0 [] rfl HO1.out ⟨d, 0, none⟩ k cap (tV S k) rfl (by rw [tV_len]; omega) (tV_cells fun i hi => (HB1.out.cell (p := ⟨d, i, none⟩) hd).trans (HS.out i hi)) (tV_one _ _) ?kb ?kc hB' ?_)
  case kb => unfold maxLen; omega
  case kc => omega
  intro v2 w2 hown hgrow _ hblk
  have HO2 : Hid (w2.ownsRow w.heap.size 9 1 v2 k (tV S k)) := by first | exact hown | (have := hown; rw [Nat.zero_add, List.nil_append] at this; exact this)
  have HB2 : Hid (Below w.heap.size w w2) := HB1.out.grown hgrow hB' (fun g hg => own_ge HO1.out g hg)
  clear hown hgrow hblk HO1 HB1 hB' b0
  obtain ⟨a2, c2, hv⟩ := own_shape HO2.out
  subst hv
  have b1 : w2.cell? ⟨b, 1, none⟩ = some (.slice (some ⟨g, 0, none⟩) m cap2) := (HB2.out.cell (p := ⟨b, 1, none⟩) hb).trans HB1'.out
  have hB' : w.heap.size ≤ w2.heap.size := HB2.out.size
  go_wp2
  rw [rounds_succ]
  go_wp2_with (at_builtin; refine wpList_append_own_at _ rfl (.tmp 31) (.tmp 32) 42 rfl w.heap.size 9 i0 (.string ⟨#[]⟩) 1 16 Tryz.underlying42 hi9 hz0 hz1 hz2 rfl (by decide) _ k (tV S k) rfl HO2.out ⟨g, 0, none⟩ m cap2 (tV T m) rfl (by rw [tV_len]; omega) (tV_cells fun i hi => (HB2.out.cell (p := ⟨g, i, none⟩) hg).trans (HT.out i hi)) (tV_one _ _) ?kb ?kc hB' ?_)
  case kb => unfold maxLen; omega
  case kc => omega
  intro v3 w3 hown hgrow _ hblk
  have HO3 : Hid (w3.ownsRow w.heap.size 9 1 v3 (k + m) (tV S k ++ tV T m)) := hown
  have HB3 : Hid (Below w.heap.size w w3) := HB2.out.grown hgrow hB' (fun g hg => own_ge HO2.out g hg)
  clear hown hgrow hblk HO2 HB2 hB' b1
  go_wp2
  rw [rounds_succ]
  go_wp2
  go_ret
  exact ⟨_, rfl, HO3.out, HB3.out⟩
end Go.Proofs.YtadinjaocnlglaaGreatDoor
