/-
  checkLengths, where none has, and where it refuses.
-/
import Derived.Test.YtbjgchlckmecaaaDoorQ4
namespace Go.Proofs.YtbjgchlckmecaaaDoor
open Go.RowKit
set_option maxRecDepth 100000
set_option maxHeartbeats 800000
theorem index_none (h : Nat → Bool) (b n cap : Nat) (w : World) (hn : n ≤ 1000) (h2 : ∀ j, j < n → h j = false) (hc : Cl w b n (bI h)) :
    Calls Tryd.prog 42 #[.slice (some ⟨b, 0, none⟩) n cap, .bool true] w fun e w' => e = .returned (.int .i64 (-1)) ∧ w' = w := by
  have HC : Hid _ := hc
  have H2 : Hid _ := h2
  clear hc h2
  go_enter Tryd.func42, Tryd.ntmps42
  go_wp2
  go_loop [8] (fun iv => ∃ i : Nat, i ≤ n ∧ iv = .int .i64 i) (fun iv => n - (intOf iv).toNat)
  case atStart => exact ⟨0, by omega, rfl⟩
  case round =>
    obtain ⟨i, hi, rfl⟩ := hrel
    by_cases e : i < n
    · have c1 : w.cell? ⟨b, i, none⟩ = some (.bool (h i)) := HC.out i e
      rw [H2.out i (by omega)] at c1
      go_wp2
      go_round
      case rel => exact ⟨i + 1, by omega, by go_num⟩
      case measure => simp [intOf]; omega
    · go_wp2
      go_ret
      exact ⟨rfl, rfl⟩
theorem checkLengths_none (h : Nat → Bool) (b n cap b2 cap2 : Nat) (w : World) (hn : n ≤ 1000) (h2 : ∀ j, j < n → h j = false) (hc : Cl w b2 n (bI h)) :
    Calls Tryd.prog 35 #[.slice (some ⟨b, 0, none⟩) n cap, .slice (some ⟨b2, 0, none⟩) n cap2] w fun e w' => e = .returned .nilIface ∧ ∃ q, w' = w.drewN q := by
  have H : Hid _ := fun W (hW : Cl W b2 n (bI h)) => index_none h b2 n cap2 W hn h2 hW
  have HB : Hid _ := hc
  have H2 : Hid _ := h2
  clear hc h2
  go_enter Tryd.func35, Tryd.ntmps35
  go_wp2_with (go_at_call 42; refine (H.out _ HB.out).mono ?_; rintro e w' ⟨rfl, rfl⟩)
  go_loopw [12] (fun iv wr => ∃ i q : Nat, i ≤ n ∧ iv = .int .i64 i ∧ wr = w'.drewN q) (fun iv _ => n - (intOf iv).toNat)
  case atStart => exact ⟨0, 0, by omega, rfl, rfl⟩
  case round =>
    obtain ⟨i, q, hi, rfl, hq⟩ := hrel
    by_cases hlt : i < n
    · have c1 : wr.cell? ⟨b2, i, none⟩ = some (.bool (h i)) := by rw [hq]; exact HB.out i hlt
      have HQ : Hid _ := hq
      clear hq
      rw [H2.out i hlt] at c1
      have hi0' : (0 : Int) ≤ (i : Int) := by omega
      have hin' : (i : Int) < (n : Int) := by omega
      go_wp2
      go_quiet (fail)
      go_wp2
      go_roundw
      case rel => exact ⟨i + 1, _, by omega, by go_num, by rw [HQ.out, World.drewN_drewN]⟩
      case measure => simp [intOf]; omega
    · go_wp2
      go_ret
      exact ⟨rfl, q, rfl⟩
theorem checkLengths_bad (S : Nat → ByteArray) (h : Nat → Bool) (b n cap b2 cap2 i0 i1 : Nat) (w : World) (hn : n ≤ 1000) (hi0 : i0 < n) (h1 : h i0 = true) (h2 : ∀ j, j < i0 → h j = false) (hi1 : i1 < n) (h3 : h i1 = true) (hb1 : (S i1).size ≠ (S i0).size) (hS : ∀ i, i < i1 → h i = true → (S i).size = (S i0).size) (hC : Cl w b n (tI S)) (hc : Cl w b2 n (bI h)) :
    Calls Tryd.prog 35 #[.slice (some ⟨b, 0, none⟩) n cap, .slice (some ⟨b2, 0, none⟩) n cap2] w fun e w' => ∃ q, e = .returned (.iface 94 (.pointer (some ⟨(w.drewN q).heap.size, 0, none⟩))) ∧ w' = (w.drewN q).alloc (.cells #[.int .i64 4, .int .i64 i1, .nilIface] 96) := by
  have H : Hid _ := fun W (hW : Cl W b2 n (bI h)) => index_found h b2 n cap2 i0 W hn hi0 h1 h2 hW
  have HC : Hid _ := hC
  have HB : Hid _ := hc
  have HS : Hid _ := hS
  have H3 : Hid _ := h3
  have HN : Hid _ := hb1
  clear hC hc hS h1 h2 h3 hb1
  go_enter Tryd.func35, Tryd.ntmps35
  go_wp2_with (go_at_call 42; refine (H.out _ HB.out).mono ?_; rintro e w' ⟨rfl, rfl⟩)
  go_loopw [12] (fun iv wr => ∃ i q : Nat, i ≤ i1 ∧ iv = .int .i64 i ∧ wr = w'.drewN q) (fun iv _ => n - (intOf iv).toNat)
  case atStart => exact ⟨0, 0, by omega, rfl, rfl⟩
  case round =>
    obtain ⟨i, q, hi, rfl, hq⟩ := hrel
    have hlt : i < n := by omega
    have c1 : wr.cell? ⟨b2, i, none⟩ = some (.bool (h i)) := by rw [hq]; exact HB.out i hlt
    have c2 : wr.cell? ⟨b, i, none⟩ = some (.string (S i)) := by rw [hq]; exact HC.out i hlt
    have c3 : wr.cell? ⟨b, i0, none⟩ = some (.string (S i0)) := by rw [hq]; exact HC.out i0 hi0
    have HQ : Hid _ := hq
    clear hq
    have hi0' : (0 : Int) ≤ (i : Int) := by omega
    have hin' : (i : Int) < (n : Int) := by omega
    have hj0' : (0 : Int) ≤ (i0 : Int) := by omega
    have hjn' : (i0 : Int) < (n : Int) := by omega
    by_cases hl1 : i < i1
    · by_cases hh : h i = true
      · rw [hh] at c1
        have hne : (((S i).size : Int) != ((S i0).size : Int)) = false := by rw [bne_eq_false_iff_eq, HS.out i hl1 hh]
        go_wp2
        go_quiet (fail)
        go_wp2
        go_roundw
        case rel => exact ⟨i + 1, _, by omega, by go_num, by rw [HQ.out, World.drewN_drewN]⟩
        case measure => simp [intOf]; omega
      · have hf : h i = false := by simpa using hh
        rw [hf] at c1
        go_wp2
        go_quiet (fail)
        go_wp2
        go_roundw
        case rel => exact ⟨i + 1, _, by omega, by go_num, by rw [HQ.out, World.drewN_drewN]⟩
        case measure => simp [intOf]; omega
    · have e : i = i1 := by omega
      subst e
      rw [H3.out] at c1
      have hne : (((S i).size : Int) != ((S i0).size : Int)) = true := by rw [bne_iff_ne]; exact fun h => HN.out (Int.ofNat.inj h)
      go_wp2
      go_quiet (fail)
      go_wp2_with fail
      refine (At_any 4 i _).mono ?_
      rintro e w2 ⟨rfl, rfl⟩
      go_wp2
      go_ret
      exact ⟨q + nq, by rw [HQ.out]; rfl, by rw [HQ.out, World.drewN_drewN]⟩
end Go.Proofs.YtbjgchlckmecaaaDoor
