/-
  The walks of proof.labels and proof.Top.
-/
import Derived.Test.YtadinjaocnlglaaGreatDoorU2
namespace Go.Proofs.YtadinjaocnlglaaGreatDoor
open Go.RowKit
theorem info42 : (Tryz.prog.info? 367).map (fun i => (i.zero, i.size, i.bytes)) = some (some (.string ⟨#[]⟩), 1, 16) := by kernel_rfl
/-- a list of texts that may be nil -/
def Ls (w : World) (v : Value) (n : Nat) (L : Nat → ByteArray) : Prop := (v = .slice none 0 0 ∧ n = 0) ∨ ∃ b cap, v = .slice (some ⟨b, 0, none⟩) n cap ∧ b < w.heap.size ∧ Cl w b n (tI L)
theorem Ls.below {w w' : World} {v : Value} {n : Nat} {L : Nat → ByteArray} (h : Ls w v n L) (hb : Below w.heap.size w w') : Ls w' v n L := by
  rcases h with h | ⟨b, cap, h1, h2, h3⟩
  · exact .inl h
  · exact .inr ⟨b, cap, h1, Nat.lt_of_lt_of_le h2 hb.size, h3.below hb h2⟩
set_option maxHeartbeats 400000 in
theorem labels_some (L : Nat → ByteArray) (b n cap : Nat) (w : World) (hn : n ≤ 4398046511104) (hb0 : b < w.heap.size) (hc : Cl w b n (tI L)) :
    Calls Tryz.prog 262 #[.slice (some ⟨b, 0, none⟩) n cap] w fun e w' => e = .returned (.slice (some ⟨w.heap.size, 0, none⟩) n n) ∧ Rw w' w.heap.size n 367 (tI L) ∧ Below w.heap.size w w' := by
  have HC : Hid _ := hc
  clear hc
  have hmk := run_make_row' (P := Tryz.prog) 368 367 (.string ⟨#[]⟩) 16 Tryz.underlying368 info42 rfl .i64 .i64 n (by omega) (by omega)
  go_enter Tryz.func262, Tryz.ntmps262
  go_wp2
  go_loopw [11] (fun i wr => ∃ k : Nat, k ≤ n ∧ i = .int .i64 k ∧ Below w.heap.size w wr ∧ Rw wr w.heap.size n 367 (part' k (tI L) (.string ⟨#[]⟩))) (fun i _ => n - (intOf i).toNat)
  case atStart => exact ⟨0, by omega, rfl, (Below.refl _ _).alloc (Nat.le_refl _) _, (Rw.made w n 367 (.string ⟨#[]⟩)).to (fun j _ => (part_0 _ _ j).symm)⟩
  case round =>
    obtain ⟨k, hk, rfl, hb, hR⟩ := hrel
    by_cases hlt : k < n
    · have c1 := hR.cell k hlt
      have c2 := hR.free k
      have c3 : wr.cell? ⟨b, k, none⟩ = some (.string (L k)) := Cl.below HC.out hb hb0 k hlt
      go_wp2
      go_roundw
      case rel => exact ⟨k + 1, by omega, by go_num, hb.setCell (Nat.le_refl _) _, (hR.put k _).to (fun j _ => by rw [← part_step]; rfl)⟩
      case measure => simp [intOf]; omega
    · have e : k = n := by omega
      subst e
      go_wp2
      go_ret
      exact ⟨rfl, hR.to (fun j hj => by simp [part', hj]), hb⟩
set_option maxHeartbeats 400000 in
theorem labels_nil (w : World) :
    Calls Tryz.prog 262 #[.slice none 0 0] w fun e w' => e = .returned (.slice (some ⟨w.heap.size, 0, none⟩) 0 0) ∧ Rw w' w.heap.size 0 367 (tI fun _ => ⟨#[]⟩) ∧ Below w.heap.size w w' := by
  have hmk : ∀ w : World, (Instr.makeSlice 368 (.int .i64 0) (.int .i64 0)).run Tryz.prog w = .ok (.slice (some ⟨w.heap.size, 0, none⟩) 0 0) (w.alloc (.cells (madeCells #[.string ⟨#[]⟩] 0) 367)) := run_make_row' (P := Tryz.prog) 368 367 (.string ⟨#[]⟩) 16 Tryz.underlying368 info42 rfl .i64 .i64 0 (by omega) (by omega)
  go_enter Tryz.func262, Tryz.ntmps262
  go_wp2
  refine wp_loop_rounds 1 ?_
  rw [rounds_succ]
  go_wp2
  go_ret
  exact ⟨rfl, Rw.made w 0 367 (.string ⟨#[]⟩), (Below.refl _ _).alloc (Nat.le_refl _) _⟩
theorem labels_any (L : Nat → ByteArray) (n : Nat) (v : Value) (w : World) (hn : n ≤ 4398046511104) (h : Ls w v n L) :
    Calls Tryz.prog 262 #[v] w fun e w' => e = .returned (.slice (some ⟨w.heap.size, 0, none⟩) n n) ∧ Rw w' w.heap.size n 367 (tI L) ∧ Below w.heap.size w w' := by
  rcases h with ⟨rfl, rfl⟩ | ⟨b, cap, rfl, hb, hc⟩
  · exact (labels_nil w).mono fun e w' h => ⟨h.1, h.2.1.to (fun j hj => by omega), h.2.2⟩
  · exact labels_some L b n cap w hn hb hc

set_option maxHeartbeats 400000 in
theorem ptop_any (kt : Nat → Int) (L : Nat → ByteArray) (n : Nat) (v : Value) (w : World) (hn : n ≤ 4398046511104) (hG : Gd kt w) (hL : ∀ i, i < n → (L i).size ≤ 35184372088832) (h : Ls w v n L) :
    Calls Tryz.prog 224 #[v] w fun e w' => e = .returned (.string (topT (ofT kt) n L)) ∧ Below w.heap.size w w' := by
  have H : Hid _ := labels_any L n v w hn h
  have HL : Hid _ := hL
  have HG : Hid _ := hG
  have hT := topT_le (ofT kt) 35184372088832 (ofT_le kt) n L hL
  clear h hL hG
  go_enter Tryz.func224, Tryz.ntmps224
  go_wp2_with fail
  refine Calls.mono H.out ?_
  rintro e w1 ⟨rfl, hR1, hB1⟩
  have HR : Hid (Rw w1 w.heap.size n 367 (tI L)) := hR1
  have HB1 : Hid _ := hB1
  clear hR1 hB1
  go_wp2_with fail
  refine (ttop_any kt n L w.heap.size 0 n w1 (Nat.le_refl _) (by omega) (HG.out.below HB1.out) HR.out.lt HL.out (Rw.cl HR.out).co).mono ?_
  rintro e w2 ⟨rfl, hB2⟩
  have HB2 : Hid (Below w.heap.size w w2) := HB1.out.trans (hB2.mono HB1.out.size)
  clear hB2
  go_wp2_with fail
  refine (sclone_any _ _ (by omega)).mono ?_
  rintro e w3 ⟨rfl, hB3⟩
  have hB : Below w.heap.size w w3 := HB2.out.trans (hB3.mono HB2.out.size)
  clear hB3
  go_wp2
  go_ret
  exact ⟨rfl, hB⟩

end Go.Proofs.YtadinjaocnlglaaGreatDoor
