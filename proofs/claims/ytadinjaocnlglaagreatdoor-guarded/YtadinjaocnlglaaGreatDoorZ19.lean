/-
  The walk of vaultkeep's objects.
-/
import Derived.Test.YtadinjaocnlglaaGreatDoorZ18
import Derived.Deep.CutRange
import Derived.Maps.AppendAt
namespace Go.Proofs.YtadinjaocnlglaaGreatDoor
open Go.RowKit
set_option maxRecDepth 100000
set_option maxHeartbeats 1000000
/-- what came in: n objects -/
def Raw (w : World) (a : Option Addr) (n : Nat) : Prop := ∀ i, i < n → ∃ b off x y, a = some ⟨b, off, none⟩ ∧ b < w.heap.size ∧ w.cell? ⟨b, off + i * 2, none⟩ = some (.string x) ∧ w.cell? ⟨b, off + i * 2 + 1, none⟩ = some (.string y)
theorem Raw.below {w w' : World} {a : Option Addr} {n : Nat} (h : Raw w a n) (hb : Below w.heap.size w w') : Raw w' a n := fun i hi => by
  obtain ⟨b, off, x, y, h1, h2, h3, h4⟩ := h i hi
  exact ⟨b, off, x, y, h1, Nat.lt_of_lt_of_le h2 hb.size, (hb.cell (p := ⟨b, off + i * 2, none⟩) h2).trans h3, (hb.cell (p := ⟨b, off + i * 2 + 1, none⟩) h2).trans h4⟩
theorem size_of_toList {X : ByteArray} (h : X.toList = (⟨#[]⟩ : ByteArray).toList) : X.size = 0 := by
  rw [ByteArray.toList_eq, ByteArray.toList_eq] at h
  have : X.data.toList.length = 0 := by rw [h]; rfl
  simpa using this
theorem OwnF.heap {w w' : World} {B n : Nat} {v : Value} {F : Nat → Ob} (h : OwnF w B v n F) (he : w'.heap = w.heap) : OwnF w' B v n F := by
  refine ⟨h.1, ?_⟩
  rcases h.2 with h2 | ⟨g, cap, cur, h1, h2, h3, h4⟩
  · exact .inl h2
  · exact .inr ⟨g, cap, cur, h1, h2, by rw [he]; exact h3, h4⟩
theorem objects_any (a : Option Addr) (n cap : Nat) (w : World) (hn : n ≤ 140737488355328) (hR : Raw w a n) :
    Calls Tryz.prog 16 #[.slice a n cap] w fun e w' => ∃ v q F, e = .returned v ∧ OwnF w' w.heap.size v q F ∧ q ≤ 5 ∧ Srt q F ∧ Below w.heap.size w w' := by
  have HR : Hid (Raw w a n) := hR
  obtain ⟨i0, hi0, hz0, hz1, hz2⟩ := info_parts info36
  have HI0 : Hid _ := hi0
  have HZ0 : Hid _ := hz0
  have HZ1 : Hid _ := hz1
  have HZ2 : Hid _ := hz2
  clear hR hi0 hz0 hz1 hz2
  go_enter Tryz.func16, Tryz.ntmps16
  go_wp2
  go_loopw [3, 4] (fun ov iv wr => ∃ (i q : Nat) (F : Nat → Ob), i ≤ n ∧ i ≤ 5 ∧ iv = .int .i64 i ∧ q ≤ i ∧ OwnF wr w.heap.size ov q F ∧ Srt q F ∧ Below w.heap.size w wr) (fun _ iv _ => 5 - (intOf iv).toNat)
  case atStart => exact ⟨0, 0, fun _ => (⟨#[]⟩, ⟨#[]⟩), by omega, by omega, rfl, by omega, ⟨rfl, .inl ⟨rfl, rfl⟩⟩, ⟨fun i j _ h => by omega, fun i h => by omega⟩, Below.refl _ _⟩
  case round =>
    obtain ⟨i, q, F, hi, hi5, rfl, hq, hown, hsrt, hbe⟩ := hrel
    have HS : Hid (Srt q F) := hsrt
    have HO : Hid (OwnF wr w.heap.size _ q F) := hown
    have HB : Hid (Below w.heap.size w wr) := hbe
    obtain ⟨oa, oc, hov⟩ := own_shape hown
    subst hov
    clear hown hbe hsrt
    by_cases hlt : i < n ∧ i < 5
    · obtain ⟨b, off, x, y, rfl, hb, hx, hy⟩ := HR.out i hlt.1
      have x1 : wr.cell? ⟨b, off + i * 2, none⟩ = some (.string x) := (HB.out.cell (p := ⟨b, off + i * 2, none⟩) hb).trans hx
      have y1 : wr.cell? ⟨b, off + i * 2 + 1, none⟩ = some (.string y) := (HB.out.cell (p := ⟨b, off + i * 2 + 1, none⟩) hb).trans hy
      have t1 : (i : Int) < (n : Int) := by omega
      have t2 : (i : Int) < 5 := by omega
      clear hx hy
      have HSX : Hid (∀ W, Calls Tryz.prog 55 #[.string x, .int .i64 10] W fun e w' => e = .returned (.string (smT x 10)) ∧ w' = W) := fun W => some_any x 10 10 W rfl (by omega)
      have HSY : Hid (∀ W, Calls Tryz.prog 55 #[.string y, .int .i64 12] W fun e w' => e = .returned (.string (smT y 12)) ∧ w' = W) := fun W => some_any y 12 12 W rfl (by omega)
      obtain ⟨X, hX⟩ : ∃ X, smT x 10 = X := ⟨_, rfl⟩
      obtain ⟨Y, hY⟩ : ∃ Y, smT y 12 = Y := ⟨_, rfl⟩
      rw [hX] at HSX
      rw [hY] at HSY
      have hX1 : X.size ≤ 10 := by rw [← hX]; exact smT_size _ _
      have hY1 : Y.size ≤ 12 := by rw [← hY]; exact smT_size _ _
      clear hX hY
      have ne1 := World.new_ne wr _ x1
      have ne2 := World.new_ne wr _ y1
      go_wp2_with fail
      go_cut [5] from 8 to 89 (fun s5 wx => s5 = .pointer (some ⟨wr.heap.size, 0, none⟩) ∧ wx = (wr.alloc (.cells #[.string X, .string Y] 72)).drew)
      case first =>
        go_region_held3 (fun w' => w'.cell? ⟨b, off + i * 2, none⟩ = some (.string x) ∧ w'.cell? ⟨b, off + i * 2 + 1, none⟩ = some (.string y)) (go_keep) (first | (go_at_call_of 55 (Value.string x); refine Calls.mono (HSX.out _) ?_; rintro e w2 ⟨rfl, rfl⟩) | (go_at_call_of 55 (Value.string y); refine Calls.mono (HSY.out _) ?_; rintro e w2 ⟨rfl, rfl⟩))
        all_goals (go_wp2_with fail; go_meet; case rel => exact ⟨rfl, rfl⟩)
      case rest =>
        obtain ⟨rfl, rfl⟩ := hcut
        obtain ⟨W, hW⟩ : ∃ W, (wr.alloc (.cells #[.string X, .string Y] 72)).drew = W := ⟨_, rfl⟩
        have hxo : W.heap[wr.heap.size]? = some (.cells #[.string X, .string Y] 72 (0, 0)) := by rw [← hW]; exact heap_alloc_new _ _
        have HO1 : Hid (OwnF W w.heap.size (.slice oa q oc) q F) := by show OwnF _ _ _ _ _; rw [← hW]; exact (World.ownsRow.alloc HO.out _)
        have HB1 : Hid (Below w.heap.size w W) := by show Below _ _ _; rw [← hW]; exact (HB.out.alloc HB.out.size _).drew
        have HWS : Hid (wr.heap.size < W.heap.size) := by show _ < _; rw [← hW]; simp
        have HWN : Hid (w.heap.size ≤ wr.heap.size) := HB.out.size
        have HOX : Hid (∀ r, (Value.slice oa q oc).ownBlock = some r → r < wr.heap.size) := fun r hr => own_lt HO.out r hr
        rw [hW]
        obtain ⟨xo, hxe⟩ : ∃ xo, wr.heap.size = xo := ⟨_, rfl⟩
        rw [hxe] at hxo HWS HWN HOX ⊢
        clear hW hxe ne1 ne2 x1 y1 HO HB HSX HSY
        have z0 : W.cell? ⟨xo, 0, none⟩ = some (.string X) := cell_of_row _ _ _ _ 72 _ hxo
        have z1 : W.cell? ⟨xo, 1, none⟩ = some (.string Y) := cell_of_row _ _ _ _ 72 _ hxo
        go_wp2
        go_loopw [6] (fun kv wk => ∃ k : Nat, k ≤ q ∧ kv = .int .i64 k ∧ wk.heap = W.heap ∧ Below w.heap.size w wk ∧ ∀ j, k ≤ j → j < q → tlt X (F j).1) (fun kv _ => (intOf kv).toNat)
        case atStart => exact ⟨q, Nat.le_refl _, rfl, rfl, HB1.out, fun j h1 h2 => by omega⟩
        case round =>
          obtain ⟨k, hk, rfl, hhp, hbk, hhi⟩ := hrel
          have HHP : Hid _ := hhp
          have HBK : Hid _ := hbk
          have HHI : Hid _ := hhi
          by_cases hk0 : 0 < k
          · obtain ⟨g, cap', hv, hgb, hgl, hcap⟩ := OwnF.at HO1.out (by omega)
            cases hv
            have n0 : wr.cell? ⟨g, (k - 1) * 2, none⟩ = some (.string (F (k - 1)).1) := by
              have := OwnF.c0 HO1.out (k - 1) (by omega)
              simp only [World.cell?] at this ⊢
              rw [hhp]; exact this
            have y0 : wr.cell? ⟨xo, 0, none⟩ = some (.string X) := by
              simp only [World.cell?] at z0 ⊢
              rw [hhp]; exact z0
            have k1 : (0 : Int) < (k : Int) := by omega
            have k2 : (k : Int) - 1 = ((k - 1 : Nat) : Int) := by omega
            have k3 : ((k - 1 : Nat) : Int) < (q : Int) := by omega
            go_wp2_with fail
            go_quiet (fail)
            clear hhp hbk hhi
            cases hgt : (!Op.bytesLess (F (k - 1)).1.toList X.toList && !((F (k - 1)).1.toList == X.toList)) with
            | true =>
              have HGT : Hid _ := hgt
              clear hgt
              go_wp2
              go_roundw
              case rel => exact ⟨k - 1, by omega, by go_num, HHP.out, below_drewN HBK.out _, fun j h1 h2 => by
                by_cases e : k ≤ j
                · exact HHI.out j e h2
                · have e2 : j = k - 1 := by omega
                  subst e2
                  have hgt := HGT.out
                  simp only [Bool.and_eq_true, Bool.not_eq_true', beq_eq_false_iff_ne] at hgt
                  exact bl_total _ _ hgt.1 hgt.2⟩
              case measure => simp [intOf]; omega
            | false =>
              have HGT : Hid _ := hgt
              clear hgt
              go_wp2_with fail
              have HBK2 : Hid (Below w.heap.size w (wr.drewN nq)) := below_drewN HBK.out _
              have HHP2 : Hid ((wr.drewN nq).heap = W.heap) := HHP.out
              have n0' : (wr.drewN nq).cell? ⟨g, (k - 1) * 2, none⟩ = some (.string (F (k - 1)).1) := n0
              have y0' : (wr.drewN nq).cell? ⟨xo, 0, none⟩ = some (.string X) := y0
              obtain ⟨V1, hV1⟩ : ∃ V1, wr.drewN nq = V1 := ⟨_, rfl⟩
              rw [hV1] at HBK2 HHP2 n0' y0' ⊢
              clear hV1 n0 y0
              by_cases hX0 : X.size = 0
              · obtain rfl : X = ⟨#[]⟩ := ByteArray.ext (Array.eq_empty_of_size_eq_zero hX0)
                go_quiet (fail)
                go_wp2
                go_roundw
                case rel => exact ⟨i + 1, q, F, by omega, by omega, by go_num, by omega, HO1.out.heap HHP2.out, HS.out, below_drewN HBK2.out _⟩
                case measure => simp [intOf]; omega
              · have e1 : (X.toList == (⟨#[]⟩ : ByteArray).toList) = false := by
                  rw [beq_eq_false_iff_ne]
                  exact fun e => hX0 (size_of_toList e)
                have e3 : ¬ X.toList = [] := fun e => hX0 (size_of_toList (e.trans (by rw [ByteArray.toList_eq])))
                have e2 : (X.toList == ([] : List UInt8)) = false := by rw [beq_eq_false_iff_ne]; exact e3
                have e4 : X.toList.isEmpty = false := by rw [List.isEmpty_eq_false_iff]; exact e3
                cases heq : ((F (k - 1)).1.toList == X.toList) with
                | true =>
                  go_quiet (fail)
                  go_wp2
                  go_roundw
                  case rel => exact ⟨i + 1, q, F, by omega, by omega, by go_num, by omega, HO1.out.heap HHP2.out, HS.out, below_drewN HBK2.out _⟩
                  case measure => simp [intOf]; omega
                | false =>
                  have HEQ : Hid _ := heq
                  go_quiet (fail)
                  clear heq e1 e2 e3 e4 n0' y0'
                  have HBK3 : Hid (Below w.heap.size w (V1.drewN nq)) := below_drewN HBK2.out _
                  have HHP3 : Hid ((V1.drewN nq).heap = W.heap) := HHP2.out
                  obtain ⟨V2, hV2⟩ : ∃ V2, V1.drewN nq = V2 := ⟨_, rfl⟩
                  rw [hV2] at HBK3 HHP3 ⊢
                  clear hV2
                  have HXO2 : Hid (V2.heap[xo]? = some (.cells #[.string X, .string Y] 72 (0, 0))) := by show _ = _; rw [HHP3.out]; exact hxo
                  have HO2 : Hid (OwnF V2 w.heap.size (.slice (some ⟨g, 0, none⟩) q oc) q F) := HO1.out.heap HHP3.out
                  have s0 : V2.cell? ⟨xo, 0, none⟩ = some (.string X) := cell_of_row _ _ _ _ 72 _ HXO2.out
                  have s1 : V2.cell? ⟨xo, 1, none⟩ = some (.string Y) := cell_of_row _ _ _ _ 72 _ HXO2.out
                  have hVs : V2.heap.size = W.heap.size := by rw [HHP3.out]
                  have hwl : w.heap.size ≤ V2.heap.size := HBK3.out.size
                  go_wp2_with (at_builtin; refine wpList_append_own_at _ rfl (.tmp 66) (.tmp 68) 38 rfl w.heap.size 72 i0 (.agg #[.string ⟨#[]⟩, .string ⟨#[]⟩]) 2 32 Tryz.underlying38 HI0.out HZ0.out HZ1.out HZ2.out rfl (by omega) (.slice (some ⟨g, 0, none⟩) q oc) q (objF F q) (by simp [Act.eval]) (World.ownsRow.alloc HO2.out _) ⟨V2.heap.size, 0, none⟩ 1 1 [.string X, .string Y] (by simp [Act.eval]) rfl (by exact cells_new _ [.string X, .string Y] 72) (by intro u hu; simp at hu; rcases hu with rfl | rfl <;> rfl) (by unfold maxLen; omega) (by omega) (by simp; omega) ?_; intro v3 w3 hO3 hG3 _ hloc; obtain ⟨a3, c3, hv3⟩ := own_shape hO3; subst hv3)
                  have HO3 : Hid (OwnF w3 w.heap.size (.slice a3 (q + 1) c3) (q + 1) (shF F q (X, Y) q)) := OwnF.congr (F := updF F q (X, Y)) (by show World.ownsRow _ _ _ _ _ _ _; rw [objF_next]; exact hO3) (shF_start F q (X, Y))
                  obtain ⟨g3, c4, hv3, hg3b, hg3l, hc3⟩ := OwnF.at HO3.out (by omega)
                  cases hv3
                  have HB3 : Hid (Below w.heap.size w w3) := (HBK3.out.alloc hwl _).grown hG3 (by simp; omega) (fun j hj => own_ge HO2.out j hj)
                  have hob : ∀ r, (Value.slice (some ⟨g, 0, none⟩) q oc).ownBlock = some r → r < xo := fun r hr => HOX.out r hr
                  have HXO3 : Hid (w3.heap[xo]? = some (.cells #[.string X, .string Y] 72 (0, 0))) := grown_row hG3 (by rw [heap_alloc_old _ _ (by have := HWS.out; omega)]; exact HXO2.out) (fun e => by have := hob xo e.symm; omega)
                  have hgx : g3 ≠ xo := by
                    rcases hloc with h | h
                    · have := hob g3 (by rw [← h]; rfl); omega
                    · have h2 : g3 = V2.heap.size + 1 := by simpa [Value.ownBlock] using h
                      have := HWS.out; omega
                  have HQ : Hid (q + 1 ≤ 5) := (by show _ ≤ _; omega)
                  have q1 : (q : Int) + 1 - 1 = (q : Int) := by omega
                  clear hO3 hG3 hloc s0 s1
                  go_wp2
                  go_loopw [7] (fun jv wj => ∃ j : Nat, k ≤ j ∧ j ≤ q ∧ jv = .int .i64 j ∧ OwnF wj w.heap.size (.slice (some ⟨g3, 0, none⟩) (q + 1) c3) (q + 1) (shF F q (X, Y) j) ∧ wj.heap[xo]? = some (.cells #[.string X, .string Y] 72 (0, 0)) ∧ Below w.heap.size w wj) (fun jv _ => (intOf jv).toNat)
                  case atStart => exact ⟨q, hk, Nat.le_refl _, by go_num, HO3.out, HXO3.out, HB3.out⟩
                  case round =>
                    obtain ⟨j, hj1, hj2, rfl, hoj, hxj, hbj⟩ := hrel
                    have HOJ : Hid (OwnF wr w.heap.size (.slice (some ⟨g3, 0, none⟩) (q + 1) c3) (q + 1) (shF F q (X, Y) j)) := hoj
                    have HXJ : Hid _ := hxj
                    have HBJ : Hid (Below w.heap.size w wr) := hbj
                    clear hoj hxj hbj
                    by_cases hjk : k < j
                    · have p0 := OwnF.c0 HOJ.out (j - 1) (by omega)
                      have p1 := OwnF.c1 HOJ.out (j - 1) (by omega)
                      have r0 := OwnF.c0 HOJ.out j (by omega)
                      have r1 := OwnF.c1 HOJ.out j (by omega)
                      have f0 := OwnF.free HOJ.out (j * 2)
                      have f1 := OwnF.free HOJ.out (j * 2 + 1)
                      have j1 : (k : Int) < (j : Int) := by omega
                      have j2 : (j : Int) - 1 = ((j - 1 : Nat) : Int) := by omega
                      have j3 : ((j - 1 : Nat) : Int) < (q : Int) + 1 := by omega
                      have j4 : (j : Int) < (q : Int) + 1 := by omega
                      have HP : Hid _ := OwnF.put HOJ.out j (by omega) (shF F q (X, Y) j (j - 1))
                      obtain ⟨o, ho⟩ : ∃ o, shF F q (X, Y) j (j - 1) = o := ⟨_, rfl⟩
                      rw [ho] at p0 p1 HP
                      have HOO : Hid _ := ho
                      clear ho
                      go_wp2
                      go_roundw
                      case rel => exact ⟨j - 1, by omega, by omega, by go_num, OwnF.congr HP.out (fun i _ => by rw [← HOO.out]; exact shF_step F q j (X, Y) (by omega) hj2 i), by rw [set_other _ _ _ _ _ hgx.symm, set_other _ _ _ _ _ hgx.symm]; exact HXJ.out, (HBJ.out.setCell (p := ⟨g3, j * 2, none⟩) hg3b _).setCell (p := ⟨g3, j * 2 + 1, none⟩) hg3b _⟩
                      case measure => simp [intOf]; omega
                    · have ejk : j = k := by omega
                      subst ejk
                      have p0 : wr.cell? ⟨xo, 0, none⟩ = some (.string X) := cell_of_row _ _ _ _ 72 _ HXJ.out
                      have p1 : wr.cell? ⟨xo, 1, none⟩ = some (.string Y) := cell_of_row _ _ _ _ 72 _ HXJ.out
                      have r0 := OwnF.c0 HOJ.out j (by omega)
                      have r1 := OwnF.c1 HOJ.out j (by omega)
                      have f0 := OwnF.free HOJ.out (j * 2)
                      have f1 := OwnF.free HOJ.out (j * 2 + 1)
                      have j4 : (j : Int) < (q : Int) + 1 := by omega
                      have HP : Hid _ := OwnF.put HOJ.out j (by omega) (X, Y)
                      go_wp2
                      go_roundw
                      case rel => exact ⟨i + 1, q + 1, insF F j (X, Y), by omega, by omega, by go_num, by omega, OwnF.congr HP.out (fun i _ => shF_end F q j (X, Y) hj2 i), Srt.ins HS.out j (X, Y) hj2 (by show 1 ≤ X.size; omega) hX1 hY1 (Srt.below HS.out j X hk0 hj2 (by have h1 := HGT.out; have h2 := HEQ.out; rw [h2] at h1; simpa [tlt] using h1)) HHI.out, (HBJ.out.setCell (p := ⟨g3, j * 2, none⟩) hg3b _).setCell (p := ⟨g3, j * 2 + 1, none⟩) hg3b _⟩
                      case measure => simp [intOf]; omega
          · obtain rfl : k = 0 := by omega
            have y0 : wr.cell? ⟨xo, 0, none⟩ = some (.string X) := by
              simp only [World.cell?] at z0 ⊢
              rw [hhp]; exact z0
            go_wp2_with fail
            go_quiet (fail)
            clear hhp hbk hhi
            go_wp2_with fail
            have HBK2 : Hid (Below w.heap.size w (wr.drewN nq)) := below_drewN HBK.out _
            have HHP2 : Hid ((wr.drewN nq).heap = W.heap) := HHP.out
            have y0' : (wr.drewN nq).cell? ⟨xo, 0, none⟩ = some (.string X) := y0
            obtain ⟨V1, hV1⟩ : ∃ V1, wr.drewN nq = V1 := ⟨_, rfl⟩
            rw [hV1] at HBK2 HHP2 y0' ⊢
            clear hV1 y0
            by_cases hX0 : X.size = 0
            · obtain rfl : X = ⟨#[]⟩ := ByteArray.ext (Array.eq_empty_of_size_eq_zero hX0)
              go_quiet (fail)
              go_wp2
              go_roundw
              case rel => exact ⟨i + 1, q, F, by omega, by omega, by go_num, by omega, HO1.out.heap HHP2.out, HS.out, below_drewN HBK2.out _⟩
              case measure => simp [intOf]; omega
            · have e1 : (X.toList == (⟨#[]⟩ : ByteArray).toList) = false := by
                rw [beq_eq_false_iff_ne]
                exact fun e => hX0 (size_of_toList e)
              have e3 : ¬ X.toList = [] := fun e => hX0 (size_of_toList (e.trans (by rw [ByteArray.toList_eq])))
              have e2 : (X.toList == ([] : List UInt8)) = false := by rw [beq_eq_false_iff_ne]; exact e3
              have e4 : X.toList.isEmpty = false := by rw [List.isEmpty_eq_false_iff]; exact e3
              go_quiet (fail)
              clear e1 e2 e3 e4 y0'
              have HBK3 : Hid (Below w.heap.size w (V1.drewN nq)) := below_drewN HBK2.out _
              have HHP3 : Hid ((V1.drewN nq).heap = W.heap) := HHP2.out
              obtain ⟨V2, hV2⟩ : ∃ V2, V1.drewN nq = V2 := ⟨_, rfl⟩
              rw [hV2] at HBK3 HHP3 ⊢
              clear hV2
              have HXO2 : Hid (V2.heap[xo]? = some (.cells #[.string X, .string Y] 72 (0, 0))) := by show _ = _; rw [HHP3.out]; exact hxo
              have HO2 : Hid (OwnF V2 w.heap.size (.slice oa q oc) q F) := HO1.out.heap HHP3.out
              have s0 : V2.cell? ⟨xo, 0, none⟩ = some (.string X) := cell_of_row _ _ _ _ 72 _ HXO2.out
              have s1 : V2.cell? ⟨xo, 1, none⟩ = some (.string Y) := cell_of_row _ _ _ _ 72 _ HXO2.out
              have hVs : V2.heap.size = W.heap.size := by rw [HHP3.out]
              have hwl : w.heap.size ≤ V2.heap.size := HBK3.out.size
              go_wp2_with (at_builtin; refine wpList_append_own_at _ rfl (.tmp 66) (.tmp 68) 38 rfl w.heap.size 72 i0 (.agg #[.string ⟨#[]⟩, .string ⟨#[]⟩]) 2 32 Tryz.underlying38 HI0.out HZ0.out HZ1.out HZ2.out rfl (by omega) (.slice oa q oc) q (objF F q) (by simp [Act.eval]) (World.ownsRow.alloc HO2.out _) ⟨V2.heap.size, 0, none⟩ 1 1 [.string X, .string Y] (by simp [Act.eval]) rfl (by exact cells_new _ [.string X, .string Y] 72) (by intro u hu; simp at hu; rcases hu with rfl | rfl <;> rfl) (by unfold maxLen; omega) (by omega) (by simp; omega) ?_; intro v3 w3 hO3 hG3 _ hloc; obtain ⟨a3, c3, hv3⟩ := own_shape hO3; subst hv3)
              have HO3 : Hid (OwnF w3 w.heap.size (.slice a3 (q + 1) c3) (q + 1) (shF F q (X, Y) q)) := OwnF.congr (F := updF F q (X, Y)) (by show World.ownsRow _ _ _ _ _ _ _; rw [objF_next]; exact hO3) (shF_start F q (X, Y))
              obtain ⟨g3, c4, hv3, hg3b, hg3l, hc3⟩ := OwnF.at HO3.out (by omega)
              cases hv3
              have HB3 : Hid (Below w.heap.size w w3) := (HBK3.out.alloc hwl _).grown hG3 (by simp; omega) (fun j hj => own_ge HO2.out j hj)
              have hob : ∀ r, (Value.slice oa q oc).ownBlock = some r → r < xo := fun r hr => HOX.out r hr
              have HXO3 : Hid (w3.heap[xo]? = some (.cells #[.string X, .string Y] 72 (0, 0))) := grown_row hG3 (by rw [heap_alloc_old _ _ (by have := HWS.out; omega)]; exact HXO2.out) (fun e => by have := hob xo e.symm; omega)
              have hgx : g3 ≠ xo := by
                rcases hloc with h | h
                · have := hob g3 (by rw [← h]; rfl); omega
                · have h2 : g3 = V2.heap.size + 1 := by simpa [Value.ownBlock] using h
                  have := HWS.out; omega
              have HQ : Hid (q + 1 ≤ 5) := (by show _ ≤ _; omega)
              have q1 : (q : Int) + 1 - 1 = (q : Int) := by omega
              clear hO3 hG3 hloc s0 s1
              go_wp2
              go_loopw [7] (fun jv wj => ∃ j : Nat, 0 ≤ j ∧ j ≤ q ∧ jv = .int .i64 j ∧ OwnF wj w.heap.size (.slice (some ⟨g3, 0, none⟩) (q + 1) c3) (q + 1) (shF F q (X, Y) j) ∧ wj.heap[xo]? = some (.cells #[.string X, .string Y] 72 (0, 0)) ∧ Below w.heap.size w wj) (fun jv _ => (intOf jv).toNat)
              case atStart => exact ⟨q, (Nat.zero_le q), Nat.le_refl _, by go_num, HO3.out, HXO3.out, HB3.out⟩
              case round =>
                obtain ⟨j, hj1, hj2, rfl, hoj, hxj, hbj⟩ := hrel
                have HOJ : Hid (OwnF wr w.heap.size (.slice (some ⟨g3, 0, none⟩) (q + 1) c3) (q + 1) (shF F q (X, Y) j)) := hoj
                have HXJ : Hid _ := hxj
                have HBJ : Hid (Below w.heap.size w wr) := hbj
                clear hoj hxj hbj
                by_cases hjk : 0 < j
                · have p0 := OwnF.c0 HOJ.out (j - 1) (by omega)
                  have p1 := OwnF.c1 HOJ.out (j - 1) (by omega)
                  have r0 := OwnF.c0 HOJ.out j (by omega)
                  have r1 := OwnF.c1 HOJ.out j (by omega)
                  have f0 := OwnF.free HOJ.out (j * 2)
                  have f1 := OwnF.free HOJ.out (j * 2 + 1)
                  have j1 : (0 : Int) < (j : Int) := by omega
                  have j2 : (j : Int) - 1 = ((j - 1 : Nat) : Int) := by omega
                  have j3 : ((j - 1 : Nat) : Int) < (q : Int) + 1 := by omega
                  have j4 : (j : Int) < (q : Int) + 1 := by omega
                  have HP : Hid _ := OwnF.put HOJ.out j (by omega) (shF F q (X, Y) j (j - 1))
                  obtain ⟨o, ho⟩ : ∃ o, shF F q (X, Y) j (j - 1) = o := ⟨_, rfl⟩
                  rw [ho] at p0 p1 HP
                  have HOO : Hid _ := ho
                  clear ho
                  go_wp2
                  go_roundw
                  case rel => exact ⟨j - 1, by omega, by omega, by go_num, OwnF.congr HP.out (fun i _ => by rw [← HOO.out]; exact shF_step F q j (X, Y) (by omega) hj2 i), by rw [set_other _ _ _ _ _ hgx.symm, set_other _ _ _ _ _ hgx.symm]; exact HXJ.out, (HBJ.out.setCell (p := ⟨g3, j * 2, none⟩) hg3b _).setCell (p := ⟨g3, j * 2 + 1, none⟩) hg3b _⟩
                  case measure => simp [intOf]; omega
                · have ejk : j = 0 := by omega
                  subst ejk
                  have p0 : wr.cell? ⟨xo, 0, none⟩ = some (.string X) := cell_of_row _ _ _ _ 72 _ HXJ.out
                  have p1 : wr.cell? ⟨xo, 1, none⟩ = some (.string Y) := cell_of_row _ _ _ _ 72 _ HXJ.out
                  have r0 := OwnF.c0 HOJ.out 0 (by omega)
                  have r1 := OwnF.c1 HOJ.out 0 (by omega)
                  have f0 := OwnF.free HOJ.out (0 * 2)
                  have f1 := OwnF.free HOJ.out (0 * 2 + 1)
                  have j4 : (0 : Int) < (q : Int) + 1 := by omega
                  have HP : Hid _ := OwnF.put HOJ.out 0 (by omega) (X, Y)
                  go_wp2
                  go_roundw
                  case rel => exact ⟨i + 1, q + 1, insF F 0 (X, Y), by omega, by omega, by go_num, by omega, OwnF.congr HP.out (fun i _ => shF_end F q 0 (X, Y) hj2 i), Srt.ins HS.out 0 (X, Y) hj2 (by show 1 ≤ X.size; omega) hX1 hY1 (fun j h => by omega) HHI.out, (HBJ.out.setCell (p := ⟨g3, 0 * 2, none⟩) hg3b _).setCell (p := ⟨g3, 0 * 2 + 1, none⟩) hg3b _⟩
                  case measure => simp [intOf]; omega
    · by_cases h1 : i < n
      · have t1 : (i : Int) < (n : Int) := by omega
        have t2 : ¬ ((i : Int) < 5) := by omega
        go_wp2
        go_ret
        exact ⟨_, rfl, q, F, HO.out, by omega, HS.out, HB.out⟩
      · have t1 : ¬ ((i : Int) < (n : Int)) := by omega
        go_wp2
        go_ret
        exact ⟨_, rfl, q, F, HO.out, by omega, HS.out, HB.out⟩
end Go.Proofs.YtadinjaocnlglaaGreatDoor
