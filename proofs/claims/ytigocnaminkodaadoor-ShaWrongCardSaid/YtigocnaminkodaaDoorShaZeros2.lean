/- The sums of rows of noughts of other lengths differ, up to 299. -/
import Derived.Test.YtigocnaminkodaaDoorShaZeros
namespace Go.Proofs.YtigocnaminkodaaDoor
set_option linter.unusedVariables false

def zt0 : List Nat := [3820012610, 1848904604, 2527237842, 1889435848, 3745472920, 2287292554, 2968939228, 2205713864, 2941612277, 1047558141, 30689455, 1907802581, 367819760, 3712402414, 3891063740, 1394802383, 927402239, 176689432, 1624941477, 3606930165, 3729246642, 3372364376, 1783133661, 22181350, 2643496655, 1628597729, 1704801994, 3930696351, 987626260, 300167618, 108602477, 4245208725, 1718123181, 2140970545, 3943967500, 223688161, 1840668629, 2871306591, 1982530102, 2495684307, 741658141, 2652321476, 155994417, 2241278649, 2239077176, 2316312675, 2274308855, 336517701, 397440543, 2022145960, 3425142497, 2391794814, 2035665709, 893376040, 3932527836, 41391206, 3565255333, 1705077943, 1723115698, 3718538892, 1573657432, 3336727614, 515582940, 3346153377]
def zt1 : List Nat := [4121296194, 2563654366, 4022010807, 467841945, 391228434, 3439706664, 2197618002, 134601948, 2202693787, 2622944394, 3498052817, 913598452, 4072723781, 123036143, 1431467147, 1097342864, 1534047630, 1735968711, 281820216, 8432119, 1340759658, 1782223617, 921197452, 1772410763, 284095109, 2696905651, 2559183305, 664136851, 1655785575, 3687828599, 3548305469, 2235721748, 782871441, 325964199, 807882522, 1261011032, 3439387282, 3767392662, 3290016044, 927229301, 972259213, 1379680582, 886822591, 2734464934, 1997750083, 3045754337, 4063465816, 616112379, 3053300600, 2501581973, 2150350609, 600663941, 1532066130, 4276343713, 24818871, 4128682197, 1860018031, 3625098724, 292644460, 1083867011, 2072955101, 1121360345, 3955522838, 366667159]
def zt2 : List Nat := [947010094, 746611101, 3847904295, 3546802366, 291220756, 1476381130, 3890723452, 1101636653, 3070698517, 1251182927, 1214939666, 1043699442, 604265488, 3693093313, 3085984948, 1712000982, 2177241587, 3280933524, 1442852139, 600202682, 991479180, 1443049353, 495145355, 1024674892, 2242749822, 4050009294, 4178694156, 816272703, 1505726609, 1589722449, 381865141, 3616185035, 3012794248, 2668558037, 2067508820, 2114831265, 1260580456, 715259243, 2159400996, 219280420, 3821186869, 1616725926, 3497779160, 1103592471, 1492261038, 868439618, 3937310890, 1427432262, 2261962587, 2374299434, 1760763262, 1577500585, 280143464, 3676591266, 182527153, 4048019392, 3625712464, 3132976998, 3044855468, 2533948684, 3816612784, 116003214, 132946937, 1354080417]
def zt3 : List Nat := [1569321046, 3844497973, 1544092804, 530468711, 3640975857, 2363834279, 2800399362, 1333037101, 1838961886, 2872964631, 2439068073, 772616160, 3234284867, 2541199228, 3128598719, 2461998069, 1190474167, 2552464309, 2654158909, 2833661206, 4119958544, 4266038487, 917545366, 213022398, 2774818426, 142599517, 3986245889, 3488850275, 2895820798, 734314975, 302513140, 2601084666, 1857461798, 468594220, 2890000728, 2523207713, 4217868135, 2061514223, 1581700083, 342620432, 3304903949, 3829393770, 75065487, 582569064, 544806876, 4276579441, 1273587337, 2453827492, 771466803, 4074233759, 4259284417, 3814273630, 3007215157, 47772664, 2370804770, 3359052714, 3014355330, 2679342867, 442295019, 3797482616, 2436656684, 2094563831, 3963502388, 2159893685]
def zt4 : List Nat := [1396827826, 1821592844, 1809020058, 1832428795, 2617284032, 546394140, 3122496925, 2818918591, 1152952909, 1986610640, 3893700451, 2197398992, 951821848, 21755255, 79499715, 4217013432, 3839392163, 4291714083, 3443810713, 2882838309, 3565748255, 1557976883, 1815782719, 1959401137, 527212002, 3759110909, 1258122879, 2272180558, 3609530856, 2175672870, 3601722962, 2019729810, 760571387, 1700393987, 2421525790, 199892082, 877917560, 1646689889, 124811334, 2061013247, 621761227, 3650246901, 827279311, 2457339119]
def ztab : List Nat := zt0 ++ (zt1 ++ (zt2 ++ (zt3 ++ zt4)))
theorem ztab_nodup : ztab.Nodup := by decide +kernel
theorem w_zst0 : Words8 zst0 := ⟨rfl, by decide⟩
theorem w_zst1 : Words8 zst1 := ⟨rfl, by decide⟩
theorem w_zst2 : Words8 zst2 := ⟨rfl, by decide⟩
theorem w_zst3 : Words8 zst3 := ⟨rfl, by decide⟩
theorem w_zst4 : Words8 zst4 := ⟨rfl, by decide⟩
theorem nul_length (n : Nat) : (nul n).length = n := by simp [nul]
theorem chain_step (s t : List Nat) (hs : Words8 s) (hst : blockB s (nul 64) (fun l => l) = t) (m : Nat) (p : List UInt8) : chainL s (nul (64 + m) ++ p) = chainL t (nul m ++ p) := by
  rw [blockB_eq s (nul 64) _ hs (nul_length 64)] at hst
  have e : nul (64 + m) ++ p = nul 64 ++ (nul m ++ p) := by
    rw [← List.append_assoc]; congr 1
    show List.replicate (64 + m) (0 : UInt8) = List.replicate 64 0 ++ List.replicate m 0
    exact List.replicate_append_replicate.symm
  rw [e, chainL_ge (by rw [List.length_append, nul_length]; omega), List.take_append_of_le_length (by rw [nul_length]; omega), List.drop_append_of_le_length (by rw [nul_length]; omega), List.take_of_length_le (by rw [nul_length]; omega), List.drop_of_length_le (by rw [nul_length]; omega), hst, List.nil_append]
theorem finW_eq (s : List Nat) (hs : Words8 s) (n r : Nat) (hr : n % 64 = r) : finW s n r = (chainL s (nul r ++ padL n)).headD 0 := by
  have hl : (nul r ++ padL n).length = r + (9 + (119 - r) % 64) := by rw [List.length_append, nul_length, padL_length, hr]
  unfold finW
  by_cases h : r < 56
  · rw [if_pos h, blockB_eq _ _ _ hs (by rw [hl]; omega), chainL_ge (by rw [hl]; omega), List.take_of_length_le (by rw [hl]; omega), List.drop_of_length_le (by rw [hl]; omega), chainL_lt (by decide)]
  · have h1 : ((nul r ++ padL n).take 64).length = 64 := by rw [List.length_take, hl]; omega
    have h2 : ((nul r ++ padL n).drop 64).length = 64 := by rw [List.length_drop, hl]; omega
    rw [if_neg h, blockB_eq _ _ _ hs h1, blockB_eq _ _ _ (blockL_words hs _) h2, chainL_ge (l := nul r ++ padL n) (by rw [hl]; omega)]
    generalize (nul r ++ padL n).drop 64 = l2 at *
    rw [chainL_ge (l := l2) (by omega), List.take_of_length_le (l := l2) (by omega), List.drop_of_length_le (l := l2) (by omega), chainL_lt (by decide)]
theorem range_at (m r : Nat) (f : Nat → Nat) (L : List Nat) (h : (List.range m).map f = L) (hr : r < m) : L[r]? = some (f r) := by
  rw [← h]; simp [hr]
theorem head_at (n : Nat) (hn : n < 300) : ztab[n]? = some ((chainL firstL (nul n ++ padL n)).headD 0) := by
  rcases (show n < 64 ∨ (64 ≤ n ∧ n < 128) ∨ (128 ≤ n ∧ n < 192) ∨ (192 ≤ n ∧ n < 256) ∨ (256 ≤ n ∧ n < 300) by omega) with h | h | h | h | h
  · have h1 := range_at 64 n _ zt0 fin0 h
    rw [finW_eq _ w_zst0 _ _ (by omega), Nat.zero_add] at h1
    unfold ztab
    rw [List.getElem?_append_left (by exact h)]
    exact h1
  · obtain ⟨r, rfl⟩ : ∃ r, n = 64 + r := ⟨n - 64, by omega⟩
    have h1 := range_at 64 r _ zt1 fin1 (by omega)
    rw [finW_eq _ w_zst1 _ _ (by omega)] at h1
    rw [show firstL = zst0 from rfl, chain_step zst0 zst1 w_zst0 zst0_next]
    unfold ztab
    rw [List.getElem?_append_right (by show 64 ≤ 64 + r; omega), List.getElem?_append_left (by show 64 + r - 64 < 64; omega), show 64 + r - zt0.length = r from by show 64 + r - 64 = r; omega]
    exact h1
  · obtain ⟨r, rfl⟩ : ∃ r, n = 64 + (64 + r) := ⟨n - 128, by omega⟩
    have h1 := range_at 64 r _ zt2 fin2 (by omega)
    rw [finW_eq _ w_zst2 _ _ (by omega), show 128 + r = 64 + (64 + r) by omega] at h1
    rw [show firstL = zst0 from rfl, chain_step zst0 zst1 w_zst0 zst0_next, chain_step zst1 zst2 w_zst1 zst1_next]
    unfold ztab
    rw [List.getElem?_append_right (by show 64 ≤ 64 + (64 + r); omega), show 64 + (64 + r) - zt0.length = 64 + r from by show 64 + (64 + r) - 64 = 64 + r; omega, List.getElem?_append_right (by show 64 ≤ 64 + r; omega), show 64 + r - zt1.length = r from by show 64 + r - 64 = r; omega, List.getElem?_append_left (by show r < 64; omega)]
    exact h1
  · obtain ⟨r, rfl⟩ : ∃ r, n = 64 + (64 + (64 + r)) := ⟨n - 192, by omega⟩
    have h1 := range_at 64 r _ zt3 fin3 (by omega)
    rw [finW_eq _ w_zst3 _ _ (by omega), show 192 + r = 64 + (64 + (64 + r)) by omega] at h1
    rw [show firstL = zst0 from rfl, chain_step zst0 zst1 w_zst0 zst0_next, chain_step zst1 zst2 w_zst1 zst1_next, chain_step zst2 zst3 w_zst2 zst2_next]
    unfold ztab
    rw [List.getElem?_append_right (by show 64 ≤ 64 + (64 + (64 + r)); omega), show 64 + (64 + (64 + r)) - zt0.length = 64 + (64 + r) from by show 64 + (64 + (64 + r)) - 64 = _; omega, List.getElem?_append_right (by show 64 ≤ 64 + (64 + r); omega), show 64 + (64 + r) - zt1.length = 64 + r from by show 64 + (64 + r) - 64 = _; omega, List.getElem?_append_right (by show 64 ≤ 64 + r; omega), show 64 + r - zt2.length = r from by show 64 + r - 64 = r; omega, List.getElem?_append_left (by show r < 64; omega)]
    exact h1
  · obtain ⟨r, rfl⟩ : ∃ r, n = 64 + (64 + (64 + (64 + r))) := ⟨n - 256, by omega⟩
    have h1 := range_at 44 r _ zt4 fin4 (by omega)
    rw [finW_eq _ w_zst4 _ _ (by omega), show 256 + r = 64 + (64 + (64 + (64 + r))) by omega] at h1
    rw [show firstL = zst0 from rfl, chain_step zst0 zst1 w_zst0 zst0_next, chain_step zst1 zst2 w_zst1 zst1_next, chain_step zst2 zst3 w_zst2 zst2_next, chain_step zst3 zst4 w_zst3 zst3_next]
    unfold ztab
    rw [List.getElem?_append_right (by show 64 ≤ 64 + (64 + (64 + (64 + r))); omega), show 64 + (64 + (64 + (64 + r))) - zt0.length = 64 + (64 + (64 + r)) from by show 64 + (64 + (64 + (64 + r))) - 64 = _; omega, List.getElem?_append_right (by show 64 ≤ 64 + (64 + (64 + r)); omega), show 64 + (64 + (64 + r)) - zt1.length = 64 + (64 + r) from by show 64 + (64 + (64 + r)) - 64 = _; omega, List.getElem?_append_right (by show 64 ≤ 64 + (64 + r); omega), show 64 + (64 + r) - zt2.length = 64 + r from by show 64 + (64 + r) - 64 = _; omega, List.getElem?_append_right (by show 64 ≤ 64 + r; omega), show 64 + r - zt3.length = r from by show 64 + r - 64 = r; omega]
    exact h1
theorem told_head {a b : List Nat} (ha : Words8 a) (hb : Words8 b) (h : toldL a = toldL b) : a.headD 0 = b.headD 0 := by
  obtain ⟨a0, a1, a2, a3, a4, a5, a6, a7, rfl, l0, _⟩ := ha.open
  obtain ⟨b0, b1, b2, b3, b4, b5, b6, b7, rfl, m0, _⟩ := hb.open
  have h4 := congrArg (fun l => getN (l.take 4)) h
  have e1 : (toldL [a0, a1, a2, a3, a4, a5, a6, a7]).take 4 = putL a0 4 := rfl
  have e2 : (toldL [b0, b1, b2, b3, b4, b5, b6, b7]).take 4 = putL b0 4 := rfl
  simp only [e1, e2, getN_putL] at h4
  show a0 = b0
  omega
theorem nul_inj (x y : Nat) (hx : x < 300) (hy : y < 300) (h : sumL (nul x) = sumL (nul y)) : x = y := by
  unfold sumL at h
  rw [nul_length, nul_length] at h
  have hh := told_head (chainL_words _ (Nat.le_refl _) firstL_words) (chainL_words _ (Nat.le_refl _) firstL_words) h
  have h1 := head_at x hx
  have h2 := head_at y hy
  rw [hh, ← h2] at h1
  have hl : ztab.length = 300 := by decide +kernel
  exact (List.getElem?_inj (by omega) ztab_nodup).1 h1
end Go.Proofs.YtigocnaminkodaaDoor
