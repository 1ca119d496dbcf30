/-
  Plain: the digest of the empty text, word by word.
-/
import Derived.Test.YtadinjaocnlglaaGreatDoorZ15
import Derived.KernelRfl
namespace Go.Proofs.YtadinjaocnlglaaGreatDoor
open Go.RowKit
def KT : List Int := [1116352408, 1899447441, 3049323471, 3921009573, 961987163, 1508970993, 2453635748, 2870763221, 3624381080, 310598401, 607225278, 1426881987, 1925078388, 2162078206, 2614888103, 3248222580, 3835390401, 4022224774, 264347078, 604807628, 770255983, 1249150122, 1555081692, 1996064986, 2554220882, 2821834349, 2952996808, 3210313671, 3336571891, 3584528711, 113926993, 338241895, 666307205, 773529912, 1294757372, 1396182291, 1695183700, 1986661051, 2177026350, 2456956037, 2730485921, 2820302411, 3259730800, 3345764771, 3516065817, 3600352804, 4094571909, 275423344, 430227734, 506948616, 659060556, 883997877, 958139571, 1322822218, 1537002063, 1747873779, 1955562222, 2024104815, 2227730452, 2361852424, 2428436474, 2756734187, 3204031479, 3329325298]
def kt (j : Nat) : Int := KT.getD j 0
/-- the only piece of the empty text -/
def pc0 : ByteArray := piece (padT (ByteArray.empty.extract 0 0) 0) 0
/-- eight words -/
def P8 (x : Nat → Int) (a b c d e f g h : Int) : Prop := x 0 = a ∧ x 1 = b ∧ x 2 = c ∧ x 3 = d ∧ x 4 = e ∧ x 5 = f ∧ x 6 = g ∧ x 7 = h
theorem P8.step {x : Nat → Int} {a b c d e f g h k w k' w' a' e' : Int} (p : P8 x a b c d e f g h) (hk : k = k') (hw : w = w') (ha : (h + bs1 e + cho e f g + k' + w' + bs0 a + maj a b c) % 4294967296 = a') (he : (d + h + bs1 e + cho e f g + k' + w') % 4294967296 = e') : P8 (rnd x k w) a' a b c e' e f g := by
  obtain ⟨h0, h1, h2, h3, h4, h5, h6, h7⟩ := p
  subst hk hw
  refine ⟨?_, h0, h1, h2, ?_, h4, h5, h6⟩
  · show (x 7 + bs1 (x 4) + cho (x 4) (x 5) (x 6) + k + w + bs0 (x 0) + maj (x 0) (x 1) (x 2)) % 4294967296 = a'
    rw [h0, h1, h2, h4, h5, h6, h7]; exact ha
  · show (x 3 + x 7 + bs1 (x 4) + cho (x 4) (x 5) (x 6) + k + w) % 4294967296 = e'
    rw [h3, h4, h5, h6, h7]; exact he
theorem wrd_step {f : Nat → Int} {i : Nat} {a b c d r : Int} (h : ¬ i < 16) (ha : wrd f (i - 16) = a) (hb : wrd f (i - 15) = b) (hc : wrd f (i - 7) = c) (hd : wrd f (i - 2) = d) (hr : (a + sg0 b + c + sg1 d) % 4294967296 = r) : wrd f i = r := by
  rw [wrd_hi f i h, ha, hb, hc, hd]; exact hr
theorem w_0 : wrd (iniR pc0) 0 = 2147483648 := (wrd_lo _ 0 (by decide)).trans (by kernel_rfl)
theorem w_1 : wrd (iniR pc0) 1 = 0 := (wrd_lo _ 1 (by decide)).trans (by kernel_rfl)
theorem w_2 : wrd (iniR pc0) 2 = 0 := (wrd_lo _ 2 (by decide)).trans (by kernel_rfl)
theorem w_3 : wrd (iniR pc0) 3 = 0 := (wrd_lo _ 3 (by decide)).trans (by kernel_rfl)
theorem w_4 : wrd (iniR pc0) 4 = 0 := (wrd_lo _ 4 (by decide)).trans (by kernel_rfl)
theorem w_5 : wrd (iniR pc0) 5 = 0 := (wrd_lo _ 5 (by decide)).trans (by kernel_rfl)
theorem w_6 : wrd (iniR pc0) 6 = 0 := (wrd_lo _ 6 (by decide)).trans (by kernel_rfl)
theorem w_7 : wrd (iniR pc0) 7 = 0 := (wrd_lo _ 7 (by decide)).trans (by kernel_rfl)
theorem w_8 : wrd (iniR pc0) 8 = 0 := (wrd_lo _ 8 (by decide)).trans (by kernel_rfl)
theorem w_9 : wrd (iniR pc0) 9 = 0 := (wrd_lo _ 9 (by decide)).trans (by kernel_rfl)
theorem w_10 : wrd (iniR pc0) 10 = 0 := (wrd_lo _ 10 (by decide)).trans (by kernel_rfl)
theorem w_11 : wrd (iniR pc0) 11 = 0 := (wrd_lo _ 11 (by decide)).trans (by kernel_rfl)
theorem w_12 : wrd (iniR pc0) 12 = 0 := (wrd_lo _ 12 (by decide)).trans (by kernel_rfl)
theorem w_13 : wrd (iniR pc0) 13 = 0 := (wrd_lo _ 13 (by decide)).trans (by kernel_rfl)
theorem w_14 : wrd (iniR pc0) 14 = 0 := (wrd_lo _ 14 (by decide)).trans (by kernel_rfl)
theorem w_15 : wrd (iniR pc0) 15 = 0 := (wrd_lo _ 15 (by decide)).trans (by kernel_rfl)
theorem w_16 : wrd (iniR pc0) 16 = 2147483648 := wrd_step (by decide) w_0 w_1 w_9 w_14 (by kernel_rfl)
theorem w_17 : wrd (iniR pc0) 17 = 0 := wrd_step (by decide) w_1 w_2 w_10 w_15 (by kernel_rfl)
theorem w_18 : wrd (iniR pc0) 18 = 2117632 := wrd_step (by decide) w_2 w_3 w_11 w_16 (by kernel_rfl)
theorem w_19 : wrd (iniR pc0) 19 = 0 := wrd_step (by decide) w_3 w_4 w_12 w_17 (by kernel_rfl)
theorem w_20 : wrd (iniR pc0) 20 = 570427392 := wrd_step (by decide) w_4 w_5 w_13 w_18 (by kernel_rfl)
theorem w_21 : wrd (iniR pc0) 21 = 0 := wrd_step (by decide) w_5 w_6 w_14 w_19 (by kernel_rfl)
theorem w_22 : wrd (iniR pc0) 22 = 84448578 := wrd_step (by decide) w_6 w_7 w_15 w_20 (by kernel_rfl)
theorem w_23 : wrd (iniR pc0) 23 = 2147483648 := wrd_step (by decide) w_7 w_8 w_16 w_21 (by kernel_rfl)
theorem w_24 : wrd (iniR pc0) 24 = 1476919296 := wrd_step (by decide) w_8 w_9 w_17 w_22 (by kernel_rfl)
theorem w_25 : wrd (iniR pc0) 25 = 4235264 := wrd_step (by decide) w_9 w_10 w_18 w_23 (by kernel_rfl)
theorem w_26 : wrd (iniR pc0) 26 = 1451269 := wrd_step (by decide) w_10 w_11 w_19 w_24 (by kernel_rfl)
theorem w_27 : wrd (iniR pc0) 27 = 1711282176 := wrd_step (by decide) w_11 w_12 w_20 w_25 (by kernel_rfl)
theorem w_28 : wrd (iniR pc0) 28 = 3592562048 := wrd_step (by decide) w_12 w_13 w_21 w_26 (by kernel_rfl)
theorem w_29 : wrd (iniR pc0) 29 = 337794312 := wrd_step (by decide) w_13 w_14 w_22 w_27 (by kernel_rfl)
theorem w_30 : wrd (iniR pc0) 30 = 3594910044 := wrd_step (by decide) w_14 w_15 w_23 w_28 (by kernel_rfl)
theorem w_31 : wrd (iniR pc0) 31 = 3374850048 := wrd_step (by decide) w_15 w_16 w_24 w_29 (by kernel_rfl)
theorem w_32 : wrd (iniR pc0) 32 = 3287351444 := wrd_step (by decide) w_16 w_17 w_25 w_30 (by kernel_rfl)
theorem w_33 : wrd (iniR pc0) 33 = 676112230 := wrd_step (by decide) w_17 w_18 w_26 w_31 (by kernel_rfl)
theorem w_34 : wrd (iniR pc0) 34 = 109604294 := wrd_step (by decide) w_18 w_19 w_27 w_32 (by kernel_rfl)
theorem w_35 : wrd (iniR pc0) 35 = 2742808854 := wrd_step (by decide) w_19 w_20 w_28 w_33 (by kernel_rfl)
theorem w_36 : wrd (iniR pc0) 36 = 1904000662 := wrd_step (by decide) w_20 w_21 w_29 w_34 (by kernel_rfl)
theorem w_37 : wrd (iniR pc0) 37 = 4274181962 := wrd_step (by decide) w_21 w_22 w_30 w_35 (by kernel_rfl)
theorem w_38 : wrd (iniR pc0) 38 = 2813755136 := wrd_step (by decide) w_22 w_23 w_31 w_36 (by kernel_rfl)
theorem w_39 : wrd (iniR pc0) 39 = 2165675682 := wrd_step (by decide) w_23 w_24 w_32 w_37 (by kernel_rfl)
theorem w_40 : wrd (iniR pc0) 40 = 2561075048 := wrd_step (by decide) w_24 w_25 w_33 w_38 (by kernel_rfl)
theorem w_41 : wrd (iniR pc0) 41 = 62000258 := wrd_step (by decide) w_25 w_26 w_34 w_39 (by kernel_rfl)
theorem w_42 : wrd (iniR pc0) 42 = 1562224585 := wrd_step (by decide) w_26 w_27 w_35 w_40 (by kernel_rfl)
theorem w_43 : wrd (iniR pc0) 43 = 2975250741 := wrd_step (by decide) w_27 w_28 w_36 w_41 (by kernel_rfl)
theorem w_44 : wrd (iniR pc0) 44 = 3286092305 := wrd_step (by decide) w_28 w_29 w_37 w_42 (by kernel_rfl)
theorem w_45 : wrd (iniR pc0) 45 = 614207615 := wrd_step (by decide) w_29 w_30 w_38 w_43 (by kernel_rfl)
theorem w_46 : wrd (iniR pc0) 46 = 3297584367 := wrd_step (by decide) w_30 w_31 w_39 w_44 (by kernel_rfl)
theorem w_47 : wrd (iniR pc0) 47 = 1575308336 := wrd_step (by decide) w_31 w_32 w_40 w_45 (by kernel_rfl)
theorem w_48 : wrd (iniR pc0) 48 = 3741240933 := wrd_step (by decide) w_32 w_33 w_41 w_46 (by kernel_rfl)
theorem w_49 : wrd (iniR pc0) 49 = 748767245 := wrd_step (by decide) w_33 w_34 w_42 w_47 (by kernel_rfl)
theorem w_50 : wrd (iniR pc0) 50 = 1008022316 := wrd_step (by decide) w_34 w_35 w_43 w_48 (by kernel_rfl)
theorem w_51 : wrd (iniR pc0) 51 = 30329261 := wrd_step (by decide) w_35 w_36 w_44 w_49 (by kernel_rfl)
theorem w_52 : wrd (iniR pc0) 52 = 369937616 := wrd_step (by decide) w_36 w_37 w_45 w_50 (by kernel_rfl)
theorem w_53 : wrd (iniR pc0) 53 = 195877528 := wrd_step (by decide) w_37 w_38 w_46 w_51 (by kernel_rfl)
theorem w_54 : wrd (iniR pc0) 54 = 907775968 := wrd_step (by decide) w_38 w_39 w_47 w_52 (by kernel_rfl)
theorem w_55 : wrd (iniR pc0) 55 = 3526495142 := wrd_step (by decide) w_39 w_40 w_48 w_53 (by kernel_rfl)
theorem w_56 : wrd (iniR pc0) 56 = 43741191 := wrd_step (by decide) w_40 w_41 w_49 w_54 (by kernel_rfl)
theorem w_57 : wrd (iniR pc0) 57 = 1967544444 := wrd_step (by decide) w_41 w_42 w_50 w_55 (by kernel_rfl)
theorem w_58 : wrd (iniR pc0) 58 = 133517113 := wrd_step (by decide) w_42 w_43 w_51 w_56 (by kernel_rfl)
theorem w_59 : wrd (iniR pc0) 59 = 4161330627 := wrd_step (by decide) w_43 w_44 w_52 w_57 (by kernel_rfl)
theorem w_60 : wrd (iniR pc0) 60 = 3704256008 := wrd_step (by decide) w_44 w_45 w_53 w_58 (by kernel_rfl)
theorem w_61 : wrd (iniR pc0) 61 = 1581412744 := wrd_step (by decide) w_45 w_46 w_54 w_59 (by kernel_rfl)
theorem w_62 : wrd (iniR pc0) 62 = 1153231965 := wrd_step (by decide) w_46 w_47 w_55 w_60 (by kernel_rfl)
theorem w_63 : wrd (iniR pc0) 63 = 996066459 := wrd_step (by decide) w_47 w_48 w_56 w_61 (by kernel_rfl)
theorem s_0 : P8 (rounds kt (wrd (iniR pc0)) hini 0) 1779033703 3144134277 1013904242 2773480762 1359893119 2600822924 528734635 1541459225 := ⟨rfl, rfl, rfl, rfl, rfl, rfl, rfl, rfl⟩
theorem s_1 : P8 (rounds kt (wrd (iniR pc0)) hini 1) 2080933965 1779033703 3144134277 1013904242 415752866 1359893119 2600822924 528734635 := P8.step (k' := 1116352408) s_0 rfl w_0 (by kernel_rfl) (by kernel_rfl)
theorem s_2 : P8 (rounds kt (wrd (iniR pc0)) hini 2) 2632279248 2080933965 1779033703 3144134277 536982102 415752866 1359893119 2600822924 := P8.step (k' := 1899447441) s_1 rfl w_1 (by kernel_rfl) (by kernel_rfl)
theorem s_3 : P8 (rounds kt (wrd (iniR pc0)) hini 3) 3299628326 2632279248 2080933965 1779033703 1876632314 536982102 415752866 1359893119 := P8.step (k' := 3049323471) s_2 rfl w_2 (by kernel_rfl) (by kernel_rfl)
theorem s_4 : P8 (rounds kt (wrd (iniR pc0)) hini 4) 1277422283 3299628326 2632279248 2080933965 808968629 1876632314 536982102 415752866 := P8.step (k' := 3921009573) s_3 rfl w_3 (by kernel_rfl) (by kernel_rfl)
theorem s_5 : P8 (rounds kt (wrd (iniR pc0)) hini 5) 1130821424 1277422283 3299628326 2632279248 3889194014 808968629 1876632314 536982102 := P8.step (k' := 961987163) s_4 rfl w_4 (by kernel_rfl) (by kernel_rfl)
theorem s_6 : P8 (rounds kt (wrd (iniR pc0)) hini 6) 690895682 1130821424 1277422283 3299628326 1332035834 3889194014 808968629 1876632314 := P8.step (k' := 1508970993) s_5 rfl w_5 (by kernel_rfl) (by kernel_rfl)
theorem s_7 : P8 (rounds kt (wrd (iniR pc0)) hini 7) 4028650896 690895682 1130821424 1277422283 2196627567 1332035834 3889194014 808968629 := P8.step (k' := 2453635748) s_6 rfl w_6 (by kernel_rfl) (by kernel_rfl)
theorem s_8 : P8 (rounds kt (wrd (iniR pc0)) hini 8) 2060825014 4028650896 690895682 1130821424 1408847307 2196627567 1332035834 3889194014 := P8.step (k' := 2870763221) s_7 rfl w_7 (by kernel_rfl) (by kernel_rfl)
theorem s_9 : P8 (rounds kt (wrd (iniR pc0)) hini 9) 4113392549 2060825014 4028650896 690895682 2058339864 1408847307 2196627567 1332035834 := P8.step (k' := 3624381080) s_8 rfl w_8 (by kernel_rfl) (by kernel_rfl)
theorem s_10 : P8 (rounds kt (wrd (iniR pc0)) hini 10) 4025007953 4113392549 2060825014 4028650896 1392976521 2058339864 1408847307 2196627567 := P8.step (k' := 310598401) s_9 rfl w_9 (by kernel_rfl) (by kernel_rfl)
theorem s_11 : P8 (rounds kt (wrd (iniR pc0)) hini 11) 361478433 4025007953 4113392549 2060825014 3795207118 1392976521 2058339864 1408847307 := P8.step (k' := 607225278) s_10 rfl w_10 (by kernel_rfl) (by kernel_rfl)
theorem s_12 : P8 (rounds kt (wrd (iniR pc0)) hini 12) 4114828352 361478433 4025007953 4113392549 3621813394 3795207118 1392976521 2058339864 := P8.step (k' := 1426881987) s_11 rfl w_11 (by kernel_rfl) (by kernel_rfl)
theorem s_13 : P8 (rounds kt (wrd (iniR pc0)) hini 13) 553833165 4114828352 361478433 4025007953 3455974994 3621813394 3795207118 1392976521 := P8.step (k' := 1925078388) s_12 rfl w_12 (by kernel_rfl) (by kernel_rfl)
theorem s_14 : P8 (rounds kt (wrd (iniR pc0)) hini 14) 1170215847 553833165 4114828352 361478433 725774998 3455974994 3621813394 3795207118 := P8.step (k' := 2162078206) s_13 rfl w_13 (by kernel_rfl) (by kernel_rfl)
theorem s_15 : P8 (rounds kt (wrd (iniR pc0)) hini 15) 3096116699 1170215847 553833165 4114828352 483372089 725774998 3455974994 3621813394 := P8.step (k' := 2614888103) s_14 rfl w_14 (by kernel_rfl) (by kernel_rfl)
theorem s_16 : P8 (rounds kt (wrd (iniR pc0)) hini 16) 3019933109 3096116699 1170215847 553833165 1555621987 483372089 725774998 3455974994 := P8.step (k' := 3248222580) s_15 rfl w_15 (by kernel_rfl) (by kernel_rfl)
theorem s_17 : P8 (rounds kt (wrd (iniR pc0)) hini 17) 1192056138 3019933109 3096116699 1170215847 1892956839 1555621987 483372089 725774998 := P8.step (k' := 3835390401) s_16 rfl w_16 (by kernel_rfl) (by kernel_rfl)
theorem s_18 : P8 (rounds kt (wrd (iniR pc0)) hini 18) 3717831211 1192056138 3019933109 3096116699 1619825619 1892956839 1555621987 483372089 := P8.step (k' := 4022224774) s_17 rfl w_17 (by kernel_rfl) (by kernel_rfl)
theorem s_19 : P8 (rounds kt (wrd (iniR pc0)) hini 19) 812095850 3717831211 1192056138 3019933109 3550010602 1619825619 1892956839 1555621987 := P8.step (k' := 264347078) s_18 rfl w_18 (by kernel_rfl) (by kernel_rfl)
theorem s_20 : P8 (rounds kt (wrd (iniR pc0)) hini 20) 172493064 812095850 3717831211 1192056138 2416781228 3550010602 1619825619 1892956839 := P8.step (k' := 604807628) s_19 rfl w_19 (by kernel_rfl) (by kernel_rfl)
theorem s_21 : P8 (rounds kt (wrd (iniR pc0)) hini 21) 1976037592 172493064 812095850 3717831211 966081741 2416781228 3550010602 1619825619 := P8.step (k' := 770255983) s_20 rfl w_20 (by kernel_rfl) (by kernel_rfl)
theorem s_22 : P8 (rounds kt (wrd (iniR pc0)) hini 22) 2577845017 1976037592 172493064 812095850 3263666206 966081741 2416781228 3550010602 := P8.step (k' := 1249150122) s_21 rfl w_21 (by kernel_rfl) (by kernel_rfl)
theorem s_23 : P8 (rounds kt (wrd (iniR pc0)) hini 23) 1078820948 2577845017 1976037592 172493064 2976200464 3263666206 966081741 2416781228 := P8.step (k' := 1555081692) s_22 rfl w_22 (by kernel_rfl) (by kernel_rfl)
theorem s_24 : P8 (rounds kt (wrd (iniR pc0)) hini 24) 2556161365 1078820948 2577845017 1976037592 741081741 2976200464 3263666206 966081741 := P8.step (k' := 1996064986) s_23 rfl w_23 (by kernel_rfl) (by kernel_rfl)
theorem s_25 : P8 (rounds kt (wrd (iniR pc0)) hini 25) 2062996621 2556161365 1078820948 2577845017 4116679717 741081741 2976200464 3263666206 := P8.step (k' := 2554220882) s_24 rfl w_24 (by kernel_rfl) (by kernel_rfl)
theorem s_26 : P8 (rounds kt (wrd (iniR pc0)) hini 26) 3317175470 2062996621 2556161365 1078820948 3850028020 4116679717 741081741 2976200464 := P8.step (k' := 2821834349) s_25 rfl w_25 (by kernel_rfl) (by kernel_rfl)
theorem s_27 : P8 (rounds kt (wrd (iniR pc0)) hini 27) 747317945 3317175470 2062996621 2556161365 2677228163 3850028020 4116679717 741081741 := P8.step (k' := 2952996808) s_26 rfl w_26 (by kernel_rfl) (by kernel_rfl)
theorem s_28 : P8 (rounds kt (wrd (iniR pc0)) hini 28) 1837942423 747317945 3317175470 2062996621 1726829818 2677228163 3850028020 4116679717 := P8.step (k' := 3210313671) s_27 rfl w_27 (by kernel_rfl) (by kernel_rfl)
theorem s_29 : P8 (rounds kt (wrd (iniR pc0)) hini 29) 1690082844 1837942423 747317945 3317175470 2506713973 1726829818 2677228163 3850028020 := P8.step (k' := 3336571891) s_28 rfl w_28 (by kernel_rfl) (by kernel_rfl)
theorem s_30 : P8 (rounds kt (wrd (iniR pc0)) hini 30) 1926471693 1690082844 1837942423 747317945 2957685293 2506713973 1726829818 2677228163 := P8.step (k' := 3584528711) s_29 rfl w_29 (by kernel_rfl) (by kernel_rfl)
theorem s_31 : P8 (rounds kt (wrd (iniR pc0)) hini 31) 2696613087 1926471693 1690082844 1837942423 1447716390 2957685293 2506713973 1726829818 := P8.step (k' := 113926993) s_30 rfl w_30 (by kernel_rfl) (by kernel_rfl)
theorem s_32 : P8 (rounds kt (wrd (iniR pc0)) hini 32) 300352095 2696613087 1926471693 1690082844 3151463532 1447716390 2957685293 2506713973 := P8.step (k' := 338241895) s_31 rfl w_31 (by kernel_rfl) (by kernel_rfl)
theorem s_33 : P8 (rounds kt (wrd (iniR pc0)) hini 33) 3817927606 300352095 2696613087 1926471693 3436338571 3151463532 1447716390 2957685293 := P8.step (k' := 666307205) s_32 rfl w_32 (by kernel_rfl) (by kernel_rfl)
theorem s_34 : P8 (rounds kt (wrd (iniR pc0)) hini 34) 2705438357 3817927606 300352095 2696613087 197416927 3436338571 3151463532 1447716390 := P8.step (k' := 773529912) s_33 rfl w_33 (by kernel_rfl) (by kernel_rfl)
theorem s_35 : P8 (rounds kt (wrd (iniR pc0)) hini 35) 1151435175 2705438357 3817927606 300352095 1769188034 197416927 3436338571 3151463532 := P8.step (k' := 1294757372) s_34 rfl w_34 (by kernel_rfl) (by kernel_rfl)
theorem s_36 : P8 (rounds kt (wrd (iniR pc0)) hini 36) 1679812728 1151435175 2705438357 3817927606 980442793 1769188034 197416927 3436338571 := P8.step (k' := 1396182291) s_35 rfl w_35 (by kernel_rfl) (by kernel_rfl)
theorem s_37 : P8 (rounds kt (wrd (iniR pc0)) hini 37) 2694206301 1679812728 1151435175 2705438357 4206914285 980442793 1769188034 197416927 := P8.step (k' := 1695183700) s_36 rfl w_36 (by kernel_rfl) (by kernel_rfl)
theorem s_38 : P8 (rounds kt (wrd (iniR pc0)) hini 38) 1457773646 2694206301 1679812728 1151435175 3892832895 4206914285 980442793 1769188034 := P8.step (k' := 1986661051) s_37 rfl w_37 (by kernel_rfl) (by kernel_rfl)
theorem s_39 : P8 (rounds kt (wrd (iniR pc0)) hini 39) 2656625711 1457773646 2694206301 1679812728 2242319396 3892832895 4206914285 980442793 := P8.step (k' := 2177026350) s_38 rfl w_38 (by kernel_rfl) (by kernel_rfl)
theorem s_40 : P8 (rounds kt (wrd (iniR pc0)) hini 40) 1234768305 2656625711 1457773646 2694206301 1902882853 2242319396 3892832895 4206914285 := P8.step (k' := 2456956037) s_39 rfl w_39 (by kernel_rfl) (by kernel_rfl)
theorem s_41 : P8 (rounds kt (wrd (iniR pc0)) hini 41) 4270245939 1234768305 2656625711 1457773646 2224585183 1902882853 2242319396 3892832895 := P8.step (k' := 2730485921) s_40 rfl w_40 (by kernel_rfl) (by kernel_rfl)
theorem s_42 : P8 (rounds kt (wrd (iniR pc0)) hini 42) 580450446 4270245939 1234768305 2656625711 4123364073 2224585183 1902882853 2242319396 := P8.step (k' := 2820302411) s_41 rfl w_41 (by kernel_rfl) (by kernel_rfl)
theorem s_43 : P8 (rounds kt (wrd (iniR pc0)) hini 43) 3686090155 580450446 4270245939 1234768305 3762306745 4123364073 2224585183 1902882853 := P8.step (k' := 3259730800) s_42 rfl w_42 (by kernel_rfl) (by kernel_rfl)
theorem s_44 : P8 (rounds kt (wrd (iniR pc0)) hini 44) 3907209042 3686090155 580450446 4270245939 692219050 3762306745 4123364073 2224585183 := P8.step (k' := 3345764771) s_43 rfl w_43 (by kernel_rfl) (by kernel_rfl)
theorem s_45 : P8 (rounds kt (wrd (iniR pc0)) hini 45) 2752082644 3907209042 3686090155 580450446 2855016464 692219050 3762306745 4123364073 := P8.step (k' := 3516065817) s_44 rfl w_44 (by kernel_rfl) (by kernel_rfl)
theorem s_46 : P8 (rounds kt (wrd (iniR pc0)) hini 46) 855262251 2752082644 3907209042 3686090155 3531982457 2855016464 692219050 3762306745 := P8.step (k' := 3600352804) s_45 rfl w_45 (by kernel_rfl) (by kernel_rfl)
theorem s_47 : P8 (rounds kt (wrd (iniR pc0)) hini 47) 1419259244 855262251 2752082644 3907209042 2322236082 3531982457 2855016464 692219050 := P8.step (k' := 4094571909) s_46 rfl w_46 (by kernel_rfl) (by kernel_rfl)
theorem s_48 : P8 (rounds kt (wrd (iniR pc0)) hini 48) 911881421 1419259244 855262251 2752082644 3417569515 2322236082 3531982457 2855016464 := P8.step (k' := 275423344) s_47 rfl w_47 (by kernel_rfl) (by kernel_rfl)
theorem s_49 : P8 (rounds kt (wrd (iniR pc0)) hini 49) 1655188062 911881421 1419259244 855262251 1286303114 3417569515 2322236082 3531982457 := P8.step (k' := 430227734) s_48 rfl w_48 (by kernel_rfl) (by kernel_rfl)
theorem s_50 : P8 (rounds kt (wrd (iniR pc0)) hini 50) 2543384045 1655188062 911881421 1419259244 3909789552 1286303114 3417569515 2322236082 := P8.step (k' := 506948616) s_49 rfl w_49 (by kernel_rfl) (by kernel_rfl)
theorem s_51 : P8 (rounds kt (wrd (iniR pc0)) hini 51) 3244542753 2543384045 1655188062 911881421 906398686 3909789552 1286303114 3417569515 := P8.step (k' := 659060556) s_50 rfl w_50 (by kernel_rfl) (by kernel_rfl)
theorem s_52 : P8 (rounds kt (wrd (iniR pc0)) hini 52) 3579709122 3244542753 2543384045 1655188062 2710884687 906398686 3909789552 1286303114 := P8.step (k' := 883997877) s_51 rfl w_51 (by kernel_rfl) (by kernel_rfl)
theorem s_53 : P8 (rounds kt (wrd (iniR pc0)) hini 53) 2981272720 3579709122 3244542753 2543384045 1134943992 2710884687 906398686 3909789552 := P8.step (k' := 958139571) s_52 rfl w_52 (by kernel_rfl) (by kernel_rfl)
theorem s_54 : P8 (rounds kt (wrd (iniR pc0)) hini 54) 974034039 2981272720 3579709122 3244542753 4254700398 1134943992 2710884687 906398686 := P8.step (k' := 1322822218) s_53 rfl w_53 (by kernel_rfl) (by kernel_rfl)
theorem s_55 : P8 (rounds kt (wrd (iniR pc0)) hini 55) 749689034 974034039 2981272720 3579709122 3850954136 4254700398 1134943992 2710884687 := P8.step (k' := 1537002063) s_54 rfl w_54 (by kernel_rfl) (by kernel_rfl)
theorem s_56 : P8 (rounds kt (wrd (iniR pc0)) hini 56) 23298068 749689034 974034039 2981272720 2918796810 3850954136 4254700398 1134943992 := P8.step (k' := 1747873779) s_55 rfl w_55 (by kernel_rfl) (by kernel_rfl)
theorem s_57 : P8 (rounds kt (wrd (iniR pc0)) hini 57) 2126991890 23298068 749689034 974034039 2035393328 2918796810 3850954136 4254700398 := P8.step (k' := 1955562222) s_56 rfl w_56 (by kernel_rfl) (by kernel_rfl)
theorem s_58 : P8 (rounds kt (wrd (iniR pc0)) hini 58) 3891021244 2126991890 23298068 749689034 3802734300 2035393328 2918796810 3850954136 := P8.step (k' := 2024104815) s_57 rfl w_57 (by kernel_rfl) (by kernel_rfl)
theorem s_59 : P8 (rounds kt (wrd (iniR pc0)) hini 59) 3911429062 3891021244 2126991890 23298068 148956906 3802734300 2035393328 2918796810 := P8.step (k' := 2227730452) s_58 rfl w_58 (by kernel_rfl) (by kernel_rfl)
theorem s_60 : P8 (rounds kt (wrd (iniR pc0)) hini 60) 71572494 3911429062 3891021244 2126991890 2867830852 148956906 3802734300 2035393328 := P8.step (k' := 2361852424) s_59 rfl w_59 (by kernel_rfl) (by kernel_rfl)
theorem s_61 : P8 (rounds kt (wrd (iniR pc0)) hini 61) 4095722474 71572494 3911429062 3891021244 477227836 2867830852 148956906 3802734300 := P8.step (k' := 2428436474) s_60 rfl w_60 (by kernel_rfl) (by kernel_rfl)
theorem s_62 : P8 (rounds kt (wrd (iniR pc0)) hini 62) 1586299222 4095722474 71572494 3911429062 2232532848 477227836 2867830852 148956906 := P8.step (k' := 2756734187) s_61 rfl w_61 (by kernel_rfl) (by kernel_rfl)
theorem s_63 : P8 (rounds kt (wrd (iniR pc0)) hini 63) 3717492111 1586299222 4095722474 71572494 3382061760 2232532848 477227836 2867830852 := P8.step (k' := 3204031479) s_62 rfl w_62 (by kernel_rfl) (by kernel_rfl)
theorem s_64 : P8 (rounds kt (wrd (iniR pc0)) hini 64) 2040978907 3717492111 1586299222 4095722474 3600805733 3382061760 2232532848 477227836 := P8.step (k' := 3329325298) s_63 rfl w_63 (by kernel_rfl) (by kernel_rfl)
theorem p_0 : P8 (press kt (wrd (iniR pc0)) hini) 3820012610 2566659092 2600203464 2574235940 665731556 1687917388 2761267483 2018687061 := by
  obtain ⟨h0, h1, h2, h3, h4, h5, h6, h7⟩ := s_64
  refine ⟨?_, ?_, ?_, ?_, ?_, ?_, ?_, ?_⟩
  · show (rounds kt (wrd (iniR pc0)) hini 64 0 + hini 0) % 4294967296 = _; rw [h0]; rfl
  · show (rounds kt (wrd (iniR pc0)) hini 64 1 + hini 1) % 4294967296 = _; rw [h1]; rfl
  · show (rounds kt (wrd (iniR pc0)) hini 64 2 + hini 2) % 4294967296 = _; rw [h2]; rfl
  · show (rounds kt (wrd (iniR pc0)) hini 64 3 + hini 3) % 4294967296 = _; rw [h3]; rfl
  · show (rounds kt (wrd (iniR pc0)) hini 64 4 + hini 4) % 4294967296 = _; rw [h4]; rfl
  · show (rounds kt (wrd (iniR pc0)) hini 64 5 + hini 5) % 4294967296 = _; rw [h5]; rfl
  · show (rounds kt (wrd (iniR pc0)) hini 64 6 + hini 6) % 4294967296 = _; rw [h6]; rfl
  · show (rounds kt (wrd (iniR pc0)) hini 64 7 + hini 7) % 4294967296 = _; rw [h7]; rfl
/-- the digest that the document fixes -/
def dg0 : ByteArray := ⟨#[227, 176, 196, 66, 152, 252, 28, 20, 154, 251, 244, 200, 153, 111, 185, 36, 39, 174, 65, 228, 100, 155, 147, 76, 164, 149, 153, 27, 120, 82, 184, 85]⟩
theorem ofT_empty : ofT kt ⟨#[]⟩ = dg0 := by
  obtain ⟨h0, h1, h2, h3, h4, h5, h6, h7⟩ := p_0
  show strOfNums (tl (press kt (wrd (iniR pc0)) hini) 8) = dg0
  simp only [tl, h0, h1, h2, h3, h4, h5, h6, h7]
  kernel_rfl
end Go.Proofs.YtadinjaocnlglaaGreatDoor
