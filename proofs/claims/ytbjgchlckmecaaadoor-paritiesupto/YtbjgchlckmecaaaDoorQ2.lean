/-
  Plain: the weights of the document's answer are those of Lagrange's sum; the walk of vaultref's shares.
-/
import Derived.Test.YtbjgchlckmecaaaDoorS16
import Derived.Test.YtbjgchlckmecaaaDoorQ1
namespace Go.Proofs.YtbjgchlckmecaaaDoor
open Go.RowKit
set_option maxRecDepth 100000
namespace Fld
variable {F : Type} (K : Fld F)
/-- the product of all but the i-th -/
def prd (d : Nat → F) (i : Nat) : Nat → F
  | 0 => K.one
  | k + 1 => if k = i then prd d i k else K.mul (prd d i k) (d k)
theorem prd_lo (d : Nat → F) (i : Nat) : ∀ k, k ≤ i → K.prd d i k = K.ahd d k
  | 0, _ => rfl
  | k + 1, h => by rw [prd, if_neg (by omega), prd_lo d i k (by omega)]; rfl
theorem prd_hi (d : Nat → F) (i : Nat) : ∀ t, K.prd d i (i + 1 + t) = K.mul (K.ahd d i) (K.bhd d (i + 1 + t) t)
  | 0 => by
    show K.prd d i (i + 1) = K.mul _ K.one
    rw [prd, if_pos rfl, prd_lo K d i i (by omega), K.mul_one]
  | t + 1 => by
    rw [show i + 1 + (t + 1) = (i + 1 + t) + 1 by omega, prd, if_neg (by omega), prd_hi d i t, bhd_front K _ (i + 1 + t) t (by omega)]
    rw [K.mul_assoc, K.mul_comm (K.bhd _ _ t)]
theorem prd_oth (d : Nat → F) (n i : Nat) (hi : i < n) : K.prd d i n = K.oth d n i := by
  have := prd_hi K d i (n - 1 - i)
  rwa [show i + 1 + (n - 1 - i) = n by omega] at this
end Fld
/-- the same, of numbers -/
def prd (d : Nat → Nat) (i : Nat) : Nat → Nat
  | 0 => 1
  | k + 1 => if k = i then prd d i k else gm (prd d i k) (d k)
theorem prd_lt (d : Nat → Nat) (i : Nat) : ∀ k, prd d i k < 256
  | 0 => by show 1 < 256; omega
  | k + 1 => by
    rw [prd]
    split
    · exact prd_lt d i k
    · exact gm_lt _ _ (prd_lt d i k)
theorem prd_gf (d : Nat → Nat) (D : Nat → N8) (n : Nat) (hD : ∀ l, l < n → (D l).1 = d l) (i : Nat) : ∀ k, k ≤ n → prd d i k = (GF.prd D i k).1
  | 0, _ => rfl
  | k + 1, h => by
    rw [prd, Fld.prd]
    by_cases e : k = i
    · rw [if_pos e, if_pos e]; exact prd_gf d D n hD i k (by omega)
    · rw [if_neg e, if_neg e]
      show gm (prd d i k) (d k) = gm (GF.prd D i k).1 (D k).1
      rw [prd_gf d D n hD i k (by omega), hD k (by omega)]
theorem prd_oth (d : Nat → Nat) (n i : Nat) (hd : ∀ l, l < n → d l < 256) (hi : i < n) : prd d i n = oth d n i := by
  have hD : ∀ l, l < n → (m8 (d l)).1 = d l := fun l hl => m8_val _ (hd l hl)
  rw [prd_gf d (fun l => m8 (d l)) n hD i n (Nat.le_refl _), oth_gf d (fun l => m8 (d l)) n hD i hi, Fld.prd_oth GF _ n i hi]
/-- THE WEIGHT OF THE DOCUMENT'S ANSWER IS THE PROGRAM'S -/
theorem share_wt (p : Nat → Nat) (n x i : Nat) (hx : x < 256) (hp : ∀ l, l < n → p l < 256) (hi : i < n) : gm (prd (fun l => x ^^^ p l) i n) (gi (hgt p i n)) = wt p n x i := by
  unfold wt scl
  rw [(gm_ones _ (gi_lt _ (hgt_lt p i n))).2.1, prd_oth (fun l => x ^^^ p l) n i (fun l hl => Nat.xor_lt_two_pow (n := 8) hx (hp l hl)) hi]
set_option maxHeartbeats 2000000 in
theorem shares_any (p : Nat → Nat) (b n cap x : Nat) (w : World) (hn : n ≤ 1000) (hx : x < 256) (hp : ∀ i, i < n → p i < 256) (hb0 : b < w.heap.size) (hc : Cl w b n (pI p)) :
    Calls Tryd.prog 32 #[.slice (some ⟨b, 0, none⟩) n cap, .int .i64 x] w fun e w' => e = .returned (.slice (some ⟨w.heap.size, 0, none⟩) n n) ∧ Rw w' w.heap.size n 3 (pI (wt p n x)) ∧ Below w.heap.size w w' := by
  have HC : Hid _ := hc
  have HP : Hid _ := hp
  clear hc hp
  have hmk := run_make_row' (P := Tryd.prog) 56 3 (.int .i64 0) 8 Tryd.underlying56 info3 rfl .i64 .i64 n (by omega) (by omega)
  go_enter Tryd.func32, Tryd.ntmps32
  go_wp2
  go_loopw [6] (fun i wr => ∃ k : Nat, k ≤ n ∧ i = .int .i64 k ∧ Below w.heap.size w wr ∧ Rw wr w.heap.size n 3 (part' k (pI (wt p n x)) (.int .i64 0))) (fun i _ => n - (intOf i).toNat)
  case atStart => exact ⟨0, by omega, rfl, (Below.refl _ _).alloc (Nat.le_refl _) _, (Rw.made w n 3 (.int .i64 0)).to (fun j _ => (part_0 _ _ j).symm)⟩
  case round =>
    obtain ⟨i, hi, rfl, hb, hR⟩ := hrel
    by_cases hlt : i < n
    · have HB : Hid _ := hb
      have HR : Hid _ := hR
      clear hb hR
      have hpi := HP.out i hlt
      go_wp2
      go_loopw [9, 7, 8] (fun j a c wq => ∃ k : Nat, k ≤ n ∧ j = .int .i64 k ∧ a = .int .i64 ((prd (fun l => x ^^^ p l) i k : Nat) : Int) ∧ c = .int .i64 ((hgt p i k : Nat) : Int) ∧ ∃ q, wq = wr.drewN q) (fun j _ _ _ => n - (intOf j).toNat)
      case atStart => exact ⟨0, by omega, rfl, rfl, rfl, 0, rfl⟩
      case round =>
        obtain ⟨k, hk, rfl, rfl, rfl, q, hq⟩ := hrel
        have HB2 : Hid (Below w.heap.size w wr) := by show Below _ _ _; rw [hq]; exact below_drewN HB.out q
        have HR2 : Hid (Rw wr w.heap.size n 3 (part' i (pI (wt p n x)) (.int .i64 0))) := by show Rw _ _ _ _ _; rw [hq]; exact HR.out
        have HQ : Hid _ := hq
        clear hq
        have hA := prd_lt (fun l => x ^^^ p l) i k
        have hH := hgt_lt p i k
        by_cases hlk : k < n
        · have c3 : wr.cell? ⟨b, i, none⟩ = some (.int .i64 ((p i : Nat) : Int)) := Cl.below HC.out HB2.out hb0 i hlt
          have c4 : wr.cell? ⟨b, k, none⟩ = some (.int .i64 ((p k : Nat) : Int)) := Cl.below HC.out HB2.out hb0 k hlk
          have hpk := HP.out k hlk
          have hx1 : x ^^^ p k < 256 := Nat.xor_lt_two_pow (n := 8) hx hpk
          have hx2 : p i ^^^ p k < 256 := Nat.xor_lt_two_pow (n := 8) hpi hpk
          have HX1 : Hid _ := i64_xor_nat x (p k) (by omega) (by omega)
          have HX2 : Hid _ := i64_xor_nat (p i) (p k) (by omega) (by omega)
          by_cases hki : k = i
          · have hne : ((k : Int) != (i : Int)) = false := by rw [bne_eq_false_iff_eq]; omega
            go_wp2
            go_roundw
            case rel => exact ⟨k + 1, by omega, by go_num, by rw [prd, if_pos hki], by rw [hgt, if_pos hki], q, HQ.out⟩
            case measure => simp [intOf]; omega
          · have hne : ((k : Int) != (i : Int)) = true := by rw [bne_iff_ne]; omega
            go_wp2_with fail
            rw [HX1.out]
            refine (mul_any _ _ _ hA hx1).mono ?_
            rintro e w2 ⟨rfl, rfl⟩
            go_wp2
            go_quiet (first | (go_at_call 33; rw [HX2.out]; exact Calls.quiet_of_same (mul_any _ _ _ hH hx2)))
            go_wp2
            go_roundw
            case rel => exact ⟨k + 1, by omega, by go_num, by rw [prd, if_neg hki], by rw [hgt, if_neg hki], _, by rw [HQ.out]; rw [World.drewN_drewN]⟩
            case measure => simp [intOf]; omega
        · have e : k = n := by omega
          subst e
          have c1 := HR2.out.cell i hlt
          have c2 := HR2.out.free i
          have hgi := gi_lt _ hH
          have HW : Hid _ := share_wt p k x i hx HP.out hlt
          obtain ⟨hh, hhe⟩ : ∃ hh, hgt p i k = hh := ⟨_, rfl⟩
          obtain ⟨aa, hae⟩ : ∃ aa, prd (fun l => x ^^^ p l) i k = aa := ⟨_, rfl⟩
          rw [hhe] at hH HW hgi ⊢
          rw [hae] at hA HW ⊢
          clear hhe hae
          go_wp2_with fail
          refine (rinv_any _ _ hH).mono ?_
          rintro e w2 ⟨rfl, rfl⟩
          go_wp2_with fail
          refine (mul_any _ _ _ hA hgi).mono ?_
          rintro e w2 ⟨rfl, rfl⟩
          rw [HW.out]
          go_wp2
          go_roundw
          case rel => exact ⟨i + 1, by omega, by go_num, HB2.out.setCell (Nat.le_refl _) _, (HR2.out.put i _).to (fun j _ => by rw [← part_step]; rfl)⟩
          case measure => simp [intOf]; omega
    · have e : i = n := by omega
      subst e
      go_wp2
      go_ret
      exact ⟨rfl, hR.to (fun j hj => by simp [part', hj]), hb⟩
end Go.Proofs.YtbjgchlckmecaaaDoor
