/- The walk of ShaChain. -/
import Derived.Test.YtcidkockjohdnaaDoorWEmpty
import Derived.BigQuiet
namespace Go.Proofs.YtcidkockjohdnaaDoor
open Go.ChangeShapes Go.WideShapes Go.ChangeAt Go.RowKit
set_option linter.unusedVariables false

theorem own_stay {w w' : World} {base n : Nat} {e : TypeId} {v : Value} {xs : List Value} (h : w.ownsRow base e 1 v n xs) (hb : Below w.heap.size w w') : w'.ownsRow base e 1 v n xs := by
  refine ⟨h.1, ?_⟩
  rcases h.2 with h0 | ⟨g, cap, cur, rfl, h1, h2, h3⟩
  · exact Or.inl h0
  · exact Or.inr ⟨g, cap, cur, rfl, h1, (hb.block g (Array.getElem?_eq_some_iff.1 h2).1).trans h2, h3⟩
theorem own_none (w : World) (base : Nat) (e : TypeId) : w.ownsRow base e 1 (.slice none 0 0) 0 (cellsOf []) := ⟨rfl, Or.inl ⟨rfl, rfl⟩⟩
/-- x[lo:hi] -/
theorem slice_mid (b off m c lo hi : Nat) (h1 : lo ≤ hi) (h2 : hi ≤ m) (h3 : m ≤ c) : ∃ A1, (∀ w, (Instr.slice 22 (.slice (some ⟨b, off, none⟩) m c) (some (.int .i64 (lo : Int))) (some (.int .i64 (hi : Int))) none).run Tryd.prog w = .ok (.slice A1 (hi - lo) (c - lo)) w) ∧
    (∀ w B bs, bs.length = m → BytesAt w B (some ⟨b, off, none⟩) bs → BytesAt w B A1 ((bs.drop lo).take (hi - lo))) ∧ (A1 = none → c - lo = 0) := by
  obtain ⟨i0, hi', hz0, hz1, hz2⟩ := info_parts info_u8
  have e1 : (0 : Int) ≤ (lo : Int) ∧ (lo : Int) ≤ (hi : Int) := by omega
  have e2 : (0 : Int) ≤ (hi : Int) ∧ (hi : Int) ≤ (c : Int) := by omega
  refine ⟨if c = lo then some ⟨b, off, none⟩ else (some (⟨b, off, none⟩ : Addr)).map (·.add (lo * 1)), fun w => ?_, fun w B bs hm hb hn => ?_, fun h => ?_⟩
  · have n1 : ¬ c < hi := by omega
    have n2 : ¬ hi < lo := by omega
    simp [Instr.slice, Instr.sliceBounds, Instr.sliceBound, asIntOf, run_underlying Tryd.underlying22, sizeOf, typeInfo, hi', hz1, h1, show hi ≤ c by omega]
  · rw [List.length_take, List.length_drop] at hn
    rw [if_neg (by omega)]
    rw [Option.map_some, Nat.mul_one, Go.WideShapes.add_plain]
    exact bytes_part hb lo (hi - lo) (by rw [List.length_take, List.length_drop]; omega)
  · split at h <;> cases h

set_option maxHeartbeats 2000000 in
theorem shaChain_walk (a0 : Option Addr) (len0 cap0 : Nat) (z0 : List Int) (w : World) (w0 : IsRow .u8 w a0 len0 cap0 z0) (hT : Tabs w) :
    Calls Tryd.prog 6 #[.slice a0 len0 cap0] w fun e w' => e = .returned (.bool true) ∧ Below w.heap.size w w' := by
  obtain ⟨bs, hl, hlc, hcm, hnil, hb⟩ := w0.bytes
  have hcm' : cap0 ≤ 9223372036854775807 := hcm
  by_cases h300 : 300 < len0
  · have h300' : (300 : Int) < (len0 : Int) := by omega
    have hlm : len0 ≤ 9223372036854775807 := by omega
    clear hb w0
    go_enter Tryd.func6, Tryd.ntmps6
    go_wp2_with fail
    refine (known_any w hT).mono ?_
    rintro e w1 ⟨rfl, b1⟩
    go_wp2_with fail
    go_ret
    exact ⟨rfl, b1⟩
  · have h300' : ¬ (300 : Int) < (len0 : Int) := by omega
    have hpc : PieceOk w ⟨a0, cap0, bs⟩ := ⟨hb, by simp only; omega, hcm', by simp only; omega, hnil⟩
    have HPC := hideIt hpc
    have HT0 := hideIt hT
    have HB := hideIt hb
    have HN := hideIt hnil
    have HL := hideIt hl
    clear hb w0 hpc hnil
    go_enter Tryd.func6, Tryd.ntmps6
    go_wp2_with (at_builtin; refine wpList_app rfl (.tmp 13) (.tmp 14) rfl w.heap.size (.slice none 0 0) 0 [] rfl (own_none _ _ _) a0 len0 cap0 w.heap.size bs rfl HL.out HN.out (by exact HB.out) (by omega) (Nat.le_refl _) ?_; intro v1 w1 o1 g1)
    refine (pad_any len0 w1 (by omega)).mono ?_
    rintro e w2 ⟨rfl, o2, b2⟩
    have O1 := hideIt (own_stay o1 b2)
    have O2 := hideIt (own_bytes o2)
    have hb1 : Below w.heap.size w w1 := below_made g1
    have B2 := hideIt (below_then hb1 b2)
    have hT2 := (hT.keep hb1).keep b2
    clear o1 o2 b2 hb1 g1 hT
    have hpl : (padL len0).length = 9 + (119 - len0 % 64) % 64 := padL_length len0
    have HPL := hideIt hpl
    generalize hpe : (padL len0).length = pl at *
    replace hpe := hideIt hpe
    clear hpl
    have hplb : pl ≤ 72 := by have := HPL.out; omega
    go_wp2_with (first
      | (refine wpList_store8 rfl (.tmp 5) (.tmp 23) rfl w3.heap.size 25 (List.replicate 8 0) firstL rfl rfl (by exact Arr.made w3 25 (List.replicate 8 0)) rfl rfl ?_)
      | (at_builtin; refine wpList_app rfl (.tmp 20) (.tmp 21) rfl w.heap.size v1 (0 + len0) ([] ++ bs) rfl (by exact O1.out) (some ⟨w1.heap.size, 0, none⟩) pl pl w2.heap.size (padL len0) rfl hpe.out (by intro h; cases h) (by exact O2.out) (by omega) (by exact B2.out.size) ?_; intro v2 w3 o3 g3))
    obtain ⟨A3, c3, rfl, hl3, hc3, hm3, hn3, hb3⟩ := own_open o3
    rw [List.nil_append] at hb3 hl3
    rw [Nat.zero_add] at hl3 hc3 ⊢
    have hb3w : Below w.heap.size w w3 := B2.out.grown g3 B2.out.size (fun k hk => by
      rcases O1.out.2 with ⟨h0, _⟩ | ⟨g', cap', cur, h0, hg', _⟩
      · rw [h0] at hk; cases hk
      · rw [h0] at hk; cases hk; exact hg')
    have hT3 : Tabs w3 := HT0.out.keep hb3w
    have HB3 := hideIt hb3w
    have hZ : (w3.alloc (.cells #[.int .u32 0, .int .u32 0, .int .u32 0, .int .u32 0, .int .u32 0, .int .u32 0, .int .u32 0, .int .u32 0] 25)) = w3.alloc (.cells (wordsC (List.replicate 8 0)) 25) := rfl
    rw [hZ]
    clear hZ
    generalize eX : (w3.alloc (.cells (wordsC (List.replicate 8 0)) 25)).setRow w3.heap.size (wordsC firstL) = X
    have aX : Arr X w3.heap.size 25 firstL := eX ▸ (Arr.made w3 _ _).row _
    have bX : Below w3.heap.size w3 X := eX ▸ below_setRow (below_one (Below.refl _ _) _) (Nat.le_refl _) _
    have hT' : (bs ++ padL len0).length = len0 + pl := by rw [List.length_append, HL.out, hpe.out]
    have hmod : Hid ((len0 + pl) % 64 = 0 ∧ 64 ≤ len0 + pl) := hideIt (by have := HPL.out; omega)
    obtain ⟨b, off, rfl, hblt, hcell⟩ := hb3 (by have := hmod.out; omega)
    have HBY : Hid (BytesAt w3 w3.heap.size (some ⟨b, off, none⟩) (bs ++ padL len0)) := hideIt hb3
    have HSUM : Hid (sumL bs = toldL (chainL firstL (bs ++ padL len0))) := hideIt (by rw [sumL, HL.out])
    have hCw := chainL_words _ (Nat.le_refl (bs ++ padL len0).length) firstL_words
    have HLL := hideIt hT'
    clear hb3 hcell hl3 hn3 hT' hT2 O1 O2 o3 g3 eX hb3w
    have hm3' : c3 ≤ 9223372036854775807 := hm3
    generalize hCe : chainL firstL (bs ++ padL len0) = C at *
    replace hCe := hideIt hCe
    generalize bs ++ padL len0 = l at *
    have hT400 : len0 + pl ≤ 400 := by omega
    generalize len0 + pl = T at *
    go_loopw [6] (fun i wr => ∃ k hx, i = .int .i64 ((64 * k : Nat) : Int) ∧ 64 * k ≤ T ∧ Words8 hx ∧ Arr wr w3.heap.size 25 hx ∧ chainL hx (l.drop (64 * k)) = C ∧ Below w3.heap.size w3 wr) (fun i _ => 500 - (intOf i).toNat)
    case atStart => exact ⟨0, firstL, rfl, by omega, firstL_words, aX, by rw [Nat.mul_zero, List.drop_zero]; exact hCe.out, bX⟩
    case round =>
      clear aX bX
      obtain ⟨k, hx, rfl, hkT, hxw, hA, hch, hbw⟩ := hrel
      by_cases hlt : 64 * k + 64 ≤ T
      · obtain ⟨A1, q1, q2, q4⟩ := slice_mid b off T c3 (64 * k) (64 * k + 64) (by omega) hlt hc3
        have hA1 := hideIt (q2 w3 w3.heap.size l HLL.out HBY.out)
        have hTw : Tabs wr := hT3.keep hbw
        have hlen1 : Hid (((l.drop (64 * k)).take (64 * k + 64 - 64 * k)).length = 64) := hideIt (by rw [List.length_take, List.length_drop, HLL.out]; omega)
        have hch2 : Hid (chainL (blockL hx ((l.drop (64 * k)).take (64 * k + 64 - 64 * k))) (l.drop (64 * (k + 1))) = C) := hideIt (by
          rw [← hch, chainL_ge (l := l.drop (64 * k)) (by rw [List.length_drop, HLL.out]; omega), List.drop_drop, show 64 * k + 64 - 64 * k = 64 by omega, show 64 * (k + 1) = 64 * k + 64 by omega])
        have h64 : 64 * k + 64 - 64 * k = 64 := by omega
        rw [h64] at q1 hA1 hlen1 hch2
        generalize (l.drop (64 * k)).take 64 = b1 at *
        generalize hi : 64 * k = i at *
        generalize hj : i + 64 = j at *
        have hij : (i : Int) + 64 = (j : Int) := by omega
        have w1' : IntKind.i64.wrap (j : Int) = (j : Int) := wrap_is (by omega) (by omega) (by omega)
        have hle : (j : Int) ≤ (T : Int) := by omega
        have EI := hideIt hi
        have EJ := hideIt hj
        clear hi hj
        have hxl := hxw.1
        have hxl' := (blockL_words hxw b1).1
        replace hch := hideIt hch
        replace hA := hideIt hA
        replace hbw := hideIt hbw
        clear q2 q4 h64
        go_wp2_with fail
        go_still_tail 6, (by kernel_rfl)
        refine wpStill_load8 rfl (.tmp 5) rfl w3.heap.size 25 hx rfl (by exact hA.out) hxl ?_
        repeat still_step
        refine wpStill_nil ?_
        change wpList _ _ _ _ _ wr.drew
        go_wp2_with fail
        refine (block_is hx A1 b1 (c3 - i) w3.heap.size wr.drew hxw hTw (hA1.out.keep fun p hp => hbw.out.cell hp) hbw.out.size hlen1.out (by omega) (by omega)).mono ?_
        rintro e w4 ⟨rfl, hb4⟩
        have a4 : Arr w4 w3.heap.size 25 hx := hA.out.drew.keep hb4
        generalize e3 : w4.setRow w3.heap.size (wordsC (blockL hx b1)) = Y
        have aY : Hid (Arr Y w3.heap.size 25 (blockL hx b1)) := hideIt (e3 ▸ a4.row _)
        have bY : Hid (Below w3.heap.size w3 Y) := hideIt (e3 ▸ below_setRow (below_then hbw.out.drew hb4) (Nat.le_refl _) _)
        have hY := hideIt (blockL_words hxw b1)
        generalize blockL hx b1 = hy at *
        replace e3 := hideIt e3
        clear hb4
        go_wp2_with (refine wpList_store8To rfl (.tmp 5) (.tmp 37) rfl w3.heap.size 25 hx hy rfl rfl (by exact a4) hxl hxl' (by exact e3.out) ?_)
        go_roundw
        case rel => exact ⟨k + 1, hy, by rw [show 64 * (k + 1) = j from by have := EI.out; have := EJ.out; omega], by have := EI.out; have := EJ.out; omega, hY.out, aY.out, hch2.out, bY.out⟩
        case measure => simp [intOf]; omega
      · have EC : hx = C := by
          rw [← hch]
          exact (chainL_lt (by rw [List.length_drop, HLL.out]; have := hmod.out; omega)).symm
        subst EC
        have hTw : Tabs wr := hT3.keep hbw
        have BW := hideIt (below_then HB3.out hbw)
        generalize hi : 64 * k = i at *
        have hle : ¬ (i : Int) + 64 ≤ (T : Int) := by omega
        replace hbw := hideIt hbw
        replace hA := hideIt hA
        go_wp2_with fail
        refine (sum_one a0 bs len0 cap0 wr _ hTw (HPC.out.keep BW.out) HL.out rfl).mono ?_
        rintro e w5 ⟨g, hg, rfl, o5, b5⟩
        rw [HSUM.out] at o5
        have a5 : Arr w5 w3.heap.size 25 hx := hA.out.keep b5
        have B5 := hideIt (below_then BW.out b5)
        have T5 := hideIt (hTw.keep b5)
        have O5 := hideIt o5
        have A5 := hideIt a5
        clear o5 b5 a5 hTw hA hbw BW hT3
        go_wp2_with fail
        go_loopw [8] (fun i ws => ∃ k : Nat, k ≤ 32 ∧ i = .int .i64 (k : Int) ∧ ws.ownsRow wr.heap.size 5 1 (.slice (some ⟨g, 0, none⟩) 32 32) 32 (cellsOf (toldL hx)) ∧ Arr ws w3.heap.size 25 hx ∧ Below w.heap.size w ws ∧ Tabs ws) (fun i _ => 32 - (intOf i).toNat)
        case atStart => exact ⟨0, by omega, rfl, O5.out, A5.out, B5.out, T5.out⟩
        case round =>
          clear O5 A5 B5 T5
          obtain ⟨n, hn, rfl, O5, A5, B5, T5⟩ := hrel
          replace O5 := hideIt O5
          replace A5 := hideIt A5
          replace B5 := hideIt B5
          replace T5 := hideIt T5
          by_cases hlt : n < 32
          · obtain ⟨q, j, hq, hj, rfl⟩ : ∃ q j, q < 8 ∧ j < 4 ∧ n = 4 * q + j := ⟨n / 4, n % 4, by omega, by omega, by omega⟩
            have hql : q < hx.length := by rw [hxw.1]; exact hq
            have cs := cell_told O5.out (4 * q + j) _ (toldL_at hx q hql j hj)
            have ch := A5.out.cell q hql
            have hxq := hxw.2 hx[q] (List.getElem_mem hql)
            generalize hx[q] = y at *
            generalize hin : 4 * q + j = n at *
            have hn32 : (n : Int) < 32 := by omega
            have hq8 : (q : Int) < 8 := by omega
            obtain ⟨s8, hs8⟩ : ∃ s8, s8 = 8 * j := ⟨_, rfl⟩
            obtain ⟨s, hs⟩ : ∃ s, s + s8 = 24 := ⟨24 - s8, by omega⟩
            have t1 : (n : Int).tdiv 4 = (q : Int) := by rw [Int.tdiv_eq_ediv_of_nonneg (by omega)]; omega
            have t2 : IntKind.i64.wrap (q : Int) = (q : Int) := wrap_is (by omega) (by omega) rfl
            have t3 : (n : Int).tmod 4 = (j : Int) := by rw [Int.tmod_eq_emod_of_nonneg (by omega)]; omega
            have t4 : IntKind.i64.wrap (j : Int) = (j : Int) := wrap_is (by omega) (by omega) rfl
            have t5 : IntKind.i64.wrap (8 * (j : Int)) = (s8 : Int) := wrap_is (by omega) (by omega) (by omega)
            have t6 : IntKind.i64.wrap (24 - (s8 : Int)) = (s : Int) := wrap_is (by omega) (by omega) (by omega)
            have t7 : IntKind.u64.wrap (s : Int) = (s : Int) := by rw [IntKind.wrap_u64]; omega
            have hs24 : s ≤ 24 := by omega
            have hfin : IntKind.u8.wrap ((y : Int) / 2 ^ s) = ((UInt8.ofNat (y / 256 ^ (3 - j))).toNat : Int) := by
              have e1 : (256 : Nat) ^ (3 - j) = 2 ^ s := by
                rw [show (256 : Nat) = 2 ^ 8 from rfl, ← Nat.pow_mul]; congr 1; omega
              have e2 : ((y : Int) / 2 ^ s) = ((y / 2 ^ s : Nat) : Int) := by rw [Int.natCast_ediv, Int.natCast_pow]; rfl
              rw [e1, e2, IntKind.wrap_u8, UInt8.toNat_ofNat']
              omega
            generalize (UInt8.ofNat (y / 256 ^ (3 - j))).toNat = u at *
            clear hin hs8 hs
            go_wp2_with fail
            go_quiet (fail)
            go_wp2_with fail
            go_roundw
            case rel => exact ⟨n + 1, by omega, by go_num, O5.out, A5.out.drewN _, below_drewN B5.out _, T5.out⟩
            case measure => simp [intOf]; omega
          · obtain rfl : n = 32 := by omega
            go_wp2_with fail
            refine (known_any _ T5.out).mono ?_
            rintro e w6 ⟨rfl, b6⟩
            have B6 := hideIt (below_then B5.out b6)
            clear b6
            go_wp2_with fail
            go_ret
            exact ⟨rfl, B6.out⟩
end Go.Proofs.YtcidkockjohdnaaDoor
