/- The walk of KdfMore. -/
import Derived.Test.YtflbdjlmkmmahaaDoorKdfKnown
import Derived.Test.YtflbdjlmkmmahaaDoorRight
import Derived.Test.YtflbdjlmkmmahaaDoorFacts5
import Derived.Test.YtflbdjlmkmmahaaDoorRefHash
namespace Go.Proofs.YtflbdjlmkmmahaaDoor
open Go.ChangeShapes Go.WideShapes Go.ChangeAt Go.RowKit
set_option linter.unusedVariables false
set_option linter.unusedSimpArgs false

theorem xorL_at (h u : List UInt8) (t : Nat) (hh : t < h.length) (hu : t < u.length) (ht : t < (xorL h u).length) : bits .xor .u8 ((h[t]).toNat : Int) ((u[t]).toNat : Int) = (((xorL h u)[t]).toNat : Int) := by
  have e : (xorL h u)[t] = h[t] ^^^ u[t] := by simp [xorL]
  rw [e, u8_xor_nat _ _ (h[t]).toNat_lt (u[t]).toNat_lt, UInt8.toNat_xor]
set_option maxHeartbeats 4000000 in
theorem kdfMore_walk (a0 : Option Addr) (len0 cap0 : Nat) (z0 : List Int) (a1 : Option Addr) (len1 cap1 : Nat) (z1 : List Int) (a2 : Int) (w : World) (w0 : IsRow .u8 w a0 len0 cap0 z0) (w1 : IsRow .u8 w a1 len1 cap1 z1) (w2 : (Lit.int .u8 a2).wf = true) (hT : Tabs w) (r0 : cap0 ≤ 140737488355328) (r1 : cap1 ≤ 140737488355328) :
    Calls Tryd.prog 4 #[.slice a0 len0 cap0, .slice a1 len1 cap1, .int .u8 a2] w fun e w' => e = .returned (.bool true) ∧ Below w.heap.size w w' := by
  obtain ⟨_, _, hlc0, hcm0, _⟩ := w0.bytes
  have l0 : len0 ≤ 140737488355328 := by omega
  obtain ⟨_, _, hlc1, hcm1, _⟩ := w1.bytes
  have l1 : len1 ≤ 140737488355328 := by omega
  have hi2 := bounds_u8 w2
  by_cases h200 : 200 < len0 + len1
  · have h200' : (200 : Int) < (len0 : Int) + (len1 : Int) := by omega
    have HK := hideIt (known4_any w hT)
    clear w0 w1 w2 hT hcm0 hcm1 r0 r1 h200
    go_enter Tryd.func4, Tryd.ntmps4
    go_wp2_with fail
    refine HK.out.mono ?_
    rintro e w1 ⟨rfl, b1⟩
    go_wp2_with fail
    go_ret
    exact ⟨rfl, b1⟩
  have h200' : ¬ (200 : Int) < (len0 : Int) + (len1 : Int) := by omega
  obtain ⟨bs0, hl0, _, hp0⟩ := row_piece w0 (by omega)
  obtain ⟨bs1, hl1, _, hp1⟩ := row_piece w1 (by omega)
  obtain ⟨k, hk, hk1, hk2⟩ : ∃ k : Nat, 1 + a2 % 10 = (k : Int) ∧ 1 ≤ k ∧ k ≤ 10 := ⟨(1 + a2 % 10).toNat, by omega, by omega, by omega⟩
  have hT0 := hideIt hT
  have HP0 := hideIt hp0
  have HP1 := hideIt hp1
  have HL0 := hideIt hl0
  have HL1 := hideIt hl1
  have hn0 : len0 ≤ 200 := by omega
  have hn1 : len1 ≤ 200 := by omega
  have FOUR : Hid (∀ W : World, PieceOk (W.alloc (.cells #[.int .u8 0, .int .u8 0, .int .u8 0, .int .u8 1] 5)) ⟨some ⟨W.heap.size, 0, none⟩, 4, [0, 0, 0, 1]⟩) := hideIt fun W => piece_lit _ W.heap.size _ _ _ 4 _ (heap_alloc_new W _) rfl (by simp) (by omega)
  clear w0 w1 w2 hT hp0 hp1 hl0 hl1 hcm0 hcm1 r0 r1 hlc0 hlc1 h200
  go_enter Tryd.func4, Tryd.ntmps4
  go_wp2_with (first
    | (at_builtin; refine wpList_app rfl (.tmp 26) (.tmp 27) rfl w.heap.size (.slice none 0 0) 0 [] rfl (own_none _ _ _) a1 len1 cap1 w.heap.size bs1 rfl HL1.out HP1.out.nil HP1.out.bytes (by omega) (Nat.le_refl _) ?_; intro v1 w1 o1 g1; have B1 := hideIt (below_made g1); rw [Nat.zero_add, List.nil_append] at o1; obtain ⟨A1, c1, rfl, hl1, hp1⟩ := own_pieceAny o1 (by omega); have O1 := hideIt o1; clear o1 g1 hl1 hp1)
    | (at_builtin; have t1 := own_stay O1.out (below_one (Below.refl _ w1) (.cells #[.int .u8 0, .int .u8 0, .int .u8 0, .int .u8 1] 5)); have t2 := (FOUR.out w1).bytes; have t3 : w.heap.size ≤ (w1.alloc (.cells #[.int .u8 0, .int .u8 0, .int .u8 0, .int .u8 1] 5)).heap.size := (by have := B1.out.size; rw [alloc_size]; omega); refine wpList_app rfl (.tmp 29) (.tmp 30) rfl w.heap.size (.slice A1 len1 c1) len1 bs1 rfl t1 (some ⟨w1.heap.size, 0, none⟩) 4 4 _ [0, 0, 0, 1] rfl rfl (fun h => by cases h) t2 (by omega) t3 ?_; intro v2 w2 o2 g2; have B2 := hideIt ((below_one B1.out _).grown g2 t3 (fun q hq => own_from t1 hq)); obtain ⟨A2, c2, rfl, hl2, hp2⟩ := own_pieceAny o2 (by omega); have P2 := hideIt hp2; have HL2 := hideIt hl2; clear o2 g2 hl2 hp2 O1 t1 t2 t3))
  refine (refcode_any a0 bs0 len0 cap0 A2 (bs1 ++ [0, 0, 0, 1]) (len1 + 4) c2 w2 (HP0.out.keep B2.out) HL0.out (by omega) P2.out HL2.out (by omega)).mono ?_
  rintro e w3 ⟨v3, rfl, o3, b3⟩
  obtain ⟨g3, c3, rfl, hg3, hc3, hm3⟩ := own_some o3 (by omega)
  have B3 := hideIt (below_then B2.out b3)
  have O3 : Hid (w3.ownsRow w.heap.size 5 1 (.slice (some ⟨g3, 0, none⟩) 32 c3) 32 (cellsOf (uL bs0 bs1 1))) := hideIt (own_base o3 (by have := B2.out.size; omega))
  clear o3 b3 P2 B2 B1 FOUR HL2 hg3 hc3 hm3
  go_wp2_with fail
  go_loopw [9, 10] (fun u i wr => ∃ (j g c : Nat), 1 ≤ j ∧ j ≤ k ∧ i = .int .i64 j ∧ u = .slice (some ⟨g, 0, none⟩) 32 c ∧ wr.ownsRow w.heap.size 5 1 (.slice (some ⟨g, 0, none⟩) 32 c) 32 (cellsOf (uL bs0 bs1 j)) ∧ Below w.heap.size w wr) (fun _ i _ => k - (intOf i).toNat)
  case atStart => exact ⟨1, g3, c3, by omega, by omega, rfl, rfl, O3.out, B3.out⟩
  case round =>
    clear O3 B3
    obtain ⟨j, gu, cu, hj1, hj, rfl, rfl, hu, hb⟩ := hrel
    by_cases hlt : j < k
    · have hji : (j : Int) < (k : Int) := by omega
      have hpu : PieceOk wr ⟨some ⟨gu, 0, none⟩, cu, uL bs0 bs1 j⟩ := by
        obtain ⟨A9, c9, e9, _, hp9⟩ := own_pieceAny hu (by omega)
        cases e9
        exact hp9
      have hul : (uL bs0 bs1 j).length = 32 := by have := hu.1; rwa [cellsOf_length] at this
      have HR := hideIt (round_any a0 bs0 len0 cap0 (some ⟨gu, 0, none⟩) (uL bs0 bs1 j) 32 cu wr (hT0.out.keep hb) (HP0.out.keep hb) HL0.out hpu hul)
      have HB := hideIt hb
      clear hu hb hpu hul
      go_wp2_with fail
      refine HR.out.mono ?_
      rintro e w4 ⟨v, rfl, ⟨g4, hg4, rfl, o4⟩, b4⟩
      have R4 : Hid (w4.ownsRow w.heap.size 5 1 (.slice (some ⟨g4, 0, none⟩) 32 32) 32 (cellsOf (uL bs0 bs1 (j + 1))) ∧ Below w.heap.size w w4) := hideIt ⟨own_base o4 (by have := HB.out.size; omega), below_then HB.out b4⟩
      clear o4 b4 hg4 HR HB
      go_wp2_with fail
      go_roundw
      case rel => exact ⟨j + 1, g4, 32, by omega, by omega, by go_num, rfl, R4.out.1, R4.out.2⟩
      case measure => simp [intOf]; omega
    · obtain rfl : j = k := by omega
      have HU0 := hideIt hu
      have HB0 := hideIt hb
      have HA0 := hideIt (hash_in a0 bs0 len0 cap0 a1 bs1 len1 cap1 j wr (hT0.out.keep hb) (HP0.out.keep hb) HL0.out (HP1.out.keep hb) HL1.out (by omega) hj1 (by omega))
      clear hu hb
      generalize wr = wz at *
      go_wp2_with fail
      refine HA0.out.mono ?_
      rintro e w4 ⟨v, rfl, ⟨ga, hga, rfl, o4⟩, b4⟩
      clear HA0
      have O4 := hideIt o4
      have B4 := hideIt (below_then HB0.out b4)
      have OU4 := hideIt (own_stay HU0.out b4)
      clear o4 b4 hga HU0 HB0
      by_cases hj2 : j = 1
      · subst hj2
        go_wp2_with fail
        refine (hash_out a0 len0 cap0 a1 len1 cap1 0 w4 (by omega)).mono ?_
        rintro e w6 ⟨rfl, rfl⟩
        obtain ⟨la, hla⟩ : ∃ la, hashL bs0 bs1 1 = la := ⟨_, rfl⟩
        obtain ⟨lu, hlu⟩ : ∃ lu, uL bs0 bs1 1 = lu := ⟨_, rfl⟩
        have HLA : Hid (la.length = 32) := hideIt (hla ▸ hashL_length _ _ _)
        have HLU : Hid (lu.length = 32) := hideIt (hlu ▸ uL_length _ _ _)
        have hx : la = xorL (List.replicate 32 0) lu := by rw [← hla, ← hlu]; rfl
        have HX : Hid (∀ t (h1 : t < la.length) (h2 : t < lu.length), bits .xor .u8 0 ((lu[t]).toNat : Int) = ((la[t]).toNat : Int)) := hideIt fun t h1 h2 => by
          subst hx
          have := xorL_at (List.replicate 32 0) lu t (by have := HLU.out; simp; omega) h2 h1
          rw [List.getElem_replicate] at this
          exact this
        have OA : Hid (w6.ownsRow _ 5 1 (.slice (some ⟨ga, 0, none⟩) 32 32) 32 (cellsOf la)) := hideIt (hla ▸ O4.out)
        have OU : Hid (w6.ownsRow _ 5 1 (.slice (some ⟨gu, 0, none⟩) 32 cu) 32 (cellsOf lu)) := hideIt (hlu ▸ OU4.out)
        have B6 := B4
        clear hx hla hlu O4 OU4 B4
        go_wp2_with fail
        go_loopw [13, 14] (fun i x wr => ∃ t : Nat, t ≤ 32 ∧ i = .int .i64 t ∧ Grew w6 wr) (fun i _ _ => 32 - (intOf i).toNat)
        case atStart => exact ⟨0, by omega, rfl, Grew.refl _⟩
        case round =>
          obtain ⟨t, ht, rfl, hgr⟩ := hrel
          by_cases ht32 : t < 32
          · have hca := (hgr.cell (p := ⟨ga, t, none⟩) (own_lt OA.out).2).trans (cell_told OA.out t (la[t]'(by have := HLA.out; omega)) (by simp [HLA.out, ht32]))
            have hcu := (hgr.cell (p := ⟨gu, t, none⟩) (own_lt OU.out).2).trans (cell_told OU.out t (lu[t]'(by have := HLU.out; omega)) (by simp [HLU.out, ht32]))
            have HV := HX.out t (by have := HLA.out; omega) (by have := HLU.out; omega)
            have LA : Hid (ga < wr.heap.size) := hideIt (Nat.lt_of_lt_of_le (own_lt OA.out).2 hgr.size)
            have LU : Hid (gu < wr.heap.size) := hideIt (Nat.lt_of_lt_of_le (own_lt OU.out).2 hgr.size)
            have HGR := hideIt hgr
            clear hgr
            generalize (la[t]'(by have := HLA.out; omega)).toNat = pa at *
            generalize (lu[t]'(by have := HLU.out; omega)).toNat = pu at *
            go_wp2_with fail
            refine region_inv [Fact.is (.slice (some ⟨ga, 0, none⟩) 32 32), Fact.is (.int .i64 (t : Int)), Fact.is (.pointer (some ⟨ga, 0 + t, none⟩)), Fact.is (.int .u8 (pa : Int)), Fact.is (.int .u8 (0 : Int)), Fact.is (.slice (some ⟨gu, 0, none⟩) 32 cu), Fact.is (.int .i64 (t : Int)), Fact.is (.pointer (some ⟨gu, 0 + t, none⟩)), Fact.is (.int .u8 (pu : Int)), Fact.is (.int .u8 (pa : Int)), Fact.is (.bool false)] (by kernel_rfl) (by kernel_rfl) ⟨fun a w1 m => ?_, fun a w1 m => ?_, fun a w1 m => ?_, fun a w1 m => ?_, fun a w1 m => ?_, fun a w1 m => ?_, fun a w1 m => ?_, fun a w1 m => ?_, fun a w1 m => ?_, fun a w1 m => ?_, fun a w1 m => ?_, trivial⟩ ?_
            · exact ok_move (wanted_none rfl) (.tmp 11) rfl (m.old 11 rfl)
            · exact ok_move (wanted_none rfl) (.tmp 13) rfl (m.old 13 rfl)
            · exact ok_index (wanted_none rfl) (.tmp 79) (.tmp 80) rfl _ _ _ _ t (m.has 0 79 rfl rfl) (m.has 1 80 rfl rfl) ht32
            · exact ok_loadb (wanted_none rfl) (.tmp 81) rfl _ _ (m.has 2 81 rfl rfl) (by rw [Nat.zero_add]; exact (m.grew.cell (p := ⟨ga, t, none⟩) LA.out).trans hca)
            · exact ok_move (wanted_none rfl) (.tmp 14) rfl (m.old 14 rfl)
            · exact ok_move (wanted_none rfl) (.tmp 9) rfl (m.old 9 rfl)
            · exact ok_move (wanted_none rfl) (.tmp 13) rfl (m.old 13 rfl)
            · exact ok_index (wanted_none rfl) (.tmp 84) (.tmp 85) rfl _ _ _ _ t (m.has 5 84 rfl rfl) (m.has 6 85 rfl rfl) ht32
            · exact ok_loadb (wanted_none rfl) (.tmp 86) rfl _ _ (m.has 7 86 rfl rfl) (by rw [Nat.zero_add]; exact (m.grew.cell (p := ⟨gu, t, none⟩) LU.out).trans hcu)
            · exact ok_u8xor (wanted_none rfl) (.tmp 83) (.tmp 87) _ rfl _ _ _ (m.has 4 83 rfl rfl) (m.has 8 87 rfl rfl) HV
            · exact ok_u8ne (wanted_none rfl) (.tmp 82) (.tmp 88) _ rfl _ _ (m.has 3 82 rfl rfl) (m.has 9 88 rfl rfl) false (by simp)
            · intro f w7 hg7 hf7
              have h10 : f 10 = .bool false := hf7 10 (by decide)
              have HG7 := hideIt (below_then HGR.out hg7)
              clear hg7 hf7 hca hcu LA LU HGR
              simp only [putAll, Act.put, List.setIfInBounds_toArray, List.set_cons_succ, List.set_cons_zero]
              rw [h10]
              go_wp2_with fail
              go_roundw
              case rel => exact ⟨t + 1, by omega, by go_num, HG7.out⟩
              case measure => simp [intOf]; omega
          · obtain rfl : t = 32 := by omega
            have HK := hideIt (known4_any wr (hT0.out.keep (below_then B6.out hgr)))
            have BR := hideIt (below_then B6.out hgr)
            clear hgr
            go_wp2_with fail
            refine HK.out.mono ?_
            rintro e w8 ⟨rfl, b8⟩
            have B8 := hideIt (below_then BR.out b8)
            clear b8
            go_wp2_with fail
            go_ret
            exact ⟨rfl, B8.out⟩
      · obtain ⟨i, rfl⟩ : ∃ i, j = i + 1 := ⟨j - 1, by omega⟩
        have hi1 : 1 ≤ i := by omega
        have hii : ((i + 1 : Nat) : Int) - 1 = (i : Int) := by omega
        have hgt1 : (1 : Int) < ((i + 1 : Nat) : Int) := by omega
        have HB5 := hideIt (hash_in a0 bs0 len0 cap0 a1 bs1 len1 cap1 i w4 (hT0.out.keep B4.out) (HP0.out.keep B4.out) HL0.out (HP1.out.keep B4.out) HL1.out (by omega) hi1 (by omega))
        go_wp2_with fail
        refine HB5.out.mono ?_
        rintro e w6 ⟨v, rfl, ⟨gb, hgb, rfl, o6⟩, b6⟩
        obtain ⟨la, hla⟩ : ∃ la, hashL bs0 bs1 (i + 1) = la := ⟨_, rfl⟩
        obtain ⟨lu, hlu⟩ : ∃ lu, uL bs0 bs1 (i + 1) = lu := ⟨_, rfl⟩
        obtain ⟨lb, hlb⟩ : ∃ lb, hashL bs0 bs1 i = lb := ⟨_, rfl⟩
        have HLA : Hid (la.length = 32) := hideIt (hla ▸ hashL_length _ _ _)
        have HLU : Hid (lu.length = 32) := hideIt (hlu ▸ uL_length _ _ _)
        have HLB : Hid (lb.length = 32) := hideIt (hlb ▸ hashL_length _ _ _)
        have hx : la = xorL lb lu := by rw [← hla, ← hlu, ← hlb]; rfl
        have HX : Hid (∀ t (h1 : t < la.length) (h2 : t < lu.length) (h3 : t < lb.length), bits .xor .u8 ((lb[t]).toNat : Int) ((lu[t]).toNat : Int) = ((la[t]).toNat : Int)) := hideIt fun t h1 h2 h3 => by
          subst hx
          exact xorL_at lb lu t h3 h2 h1
        have OA : Hid (w6.ownsRow _ 5 1 (.slice (some ⟨ga, 0, none⟩) 32 32) 32 (cellsOf la)) := hideIt (hla ▸ own_stay O4.out b6)
        have OU : Hid (w6.ownsRow _ 5 1 (.slice (some ⟨gu, 0, none⟩) 32 cu) 32 (cellsOf lu)) := hideIt (hlu ▸ own_stay OU4.out b6)
        have OB : Hid (w6.ownsRow _ 5 1 (.slice (some ⟨gb, 0, none⟩) 32 32) 32 (cellsOf lb)) := hideIt (hlb ▸ o6)
        have B6 := hideIt (below_then B4.out b6)
        clear hx hla hlu hlb O4 OU4 B4 o6 b6 hgb HB5
        go_wp2_with fail
        go_loopw [13, 14] (fun i x wr => ∃ t : Nat, t ≤ 32 ∧ i = .int .i64 t ∧ Grew w6 wr) (fun i _ _ => 32 - (intOf i).toNat)
        case atStart => exact ⟨0, by omega, rfl, Grew.refl _⟩
        case round =>
          obtain ⟨t, ht, rfl, hgr⟩ := hrel
          by_cases ht32 : t < 32
          · have hca := (hgr.cell (p := ⟨ga, t, none⟩) (own_lt OA.out).2).trans (cell_told OA.out t (la[t]'(by have := HLA.out; omega)) (by simp [HLA.out, ht32]))
            have hcu := (hgr.cell (p := ⟨gu, t, none⟩) (own_lt OU.out).2).trans (cell_told OU.out t (lu[t]'(by have := HLU.out; omega)) (by simp [HLU.out, ht32]))
            have HV := HX.out t (by have := HLA.out; omega) (by have := HLU.out; omega) (by have := HLB.out; omega)
            have hcb := (hgr.cell (p := ⟨gb, t, none⟩) (own_lt OB.out).2).trans (cell_told OB.out t (lb[t]'(by have := HLB.out; omega)) (by simp [HLB.out, ht32]))
            have LA : Hid (ga < wr.heap.size) := hideIt (Nat.lt_of_lt_of_le (own_lt OA.out).2 hgr.size)
            have LU : Hid (gu < wr.heap.size) := hideIt (Nat.lt_of_lt_of_le (own_lt OU.out).2 hgr.size)
            have HGR := hideIt hgr
            clear hgr
            generalize (la[t]'(by have := HLA.out; omega)).toNat = pa at *
            generalize (lu[t]'(by have := HLU.out; omega)).toNat = pu at *
            generalize (lb[t]'(by have := HLB.out; omega)).toNat = pb at *
            go_wp2_with fail
            refine region_inv [Fact.is (.slice (some ⟨ga, 0, none⟩) 32 32), Fact.is (.int .i64 (t : Int)), Fact.is (.pointer (some ⟨ga, 0 + t, none⟩)), Fact.is (.int .u8 (pa : Int)), Fact.is (.int .u8 (pb : Int)), Fact.is (.slice (some ⟨gu, 0, none⟩) 32 cu), Fact.is (.int .i64 (t : Int)), Fact.is (.pointer (some ⟨gu, 0 + t, none⟩)), Fact.is (.int .u8 (pu : Int)), Fact.is (.int .u8 (pa : Int)), Fact.is (.bool false)] (by kernel_rfl) (by kernel_rfl) ⟨fun a w1 m => ?_, fun a w1 m => ?_, fun a w1 m => ?_, fun a w1 m => ?_, fun a w1 m => ?_, fun a w1 m => ?_, fun a w1 m => ?_, fun a w1 m => ?_, fun a w1 m => ?_, fun a w1 m => ?_, fun a w1 m => ?_, trivial⟩ ?_
            · exact ok_move (wanted_none rfl) (.tmp 11) rfl (m.old 11 rfl)
            · exact ok_move (wanted_none rfl) (.tmp 13) rfl (m.old 13 rfl)
            · exact ok_index (wanted_none rfl) (.tmp 79) (.tmp 80) rfl _ _ _ _ t (m.has 0 79 rfl rfl) (m.has 1 80 rfl rfl) ht32
            · exact ok_loadb (wanted_none rfl) (.tmp 81) rfl _ _ (m.has 2 81 rfl rfl) (by rw [Nat.zero_add]; exact (m.grew.cell (p := ⟨ga, t, none⟩) LA.out).trans hca)
            · exact ok_move (wanted_none rfl) (.tmp 14) rfl (m.old 14 rfl)
            · exact ok_move (wanted_none rfl) (.tmp 9) rfl (m.old 9 rfl)
            · exact ok_move (wanted_none rfl) (.tmp 13) rfl (m.old 13 rfl)
            · exact ok_index (wanted_none rfl) (.tmp 84) (.tmp 85) rfl _ _ _ _ t (m.has 5 84 rfl rfl) (m.has 6 85 rfl rfl) ht32
            · exact ok_loadb (wanted_none rfl) (.tmp 86) rfl _ _ (m.has 7 86 rfl rfl) (by rw [Nat.zero_add]; exact (m.grew.cell (p := ⟨gu, t, none⟩) LU.out).trans hcu)
            · exact ok_u8xor (wanted_none rfl) (.tmp 83) (.tmp 87) _ rfl _ _ _ (m.has 4 83 rfl rfl) (m.has 8 87 rfl rfl) HV
            · exact ok_u8ne (wanted_none rfl) (.tmp 82) (.tmp 88) _ rfl _ _ (m.has 3 82 rfl rfl) (m.has 9 88 rfl rfl) false (by simp)
            · intro f w7 hg7 hf7
              have h10 : f 10 = .bool false := hf7 10 (by decide)
              have HG7 := hideIt (below_then HGR.out hg7)
              clear hg7 hf7 hca hcu LA LU HGR
              simp only [putAll, Act.put, List.setIfInBounds_toArray, List.set_cons_succ, List.set_cons_zero]
              rw [h10]
              go_wp2_with fail
              go_roundw
              case rel => exact ⟨t + 1, by omega, by go_num, HG7.out⟩
              case measure => simp [intOf]; omega
          · obtain rfl : t = 32 := by omega
            have HK := hideIt (known4_any wr (hT0.out.keep (below_then B6.out hgr)))
            have BR := hideIt (below_then B6.out hgr)
            clear hgr
            go_wp2_with fail
            refine HK.out.mono ?_
            rintro e w8 ⟨rfl, b8⟩
            have B8 := hideIt (below_then BR.out b8)
            clear b8
            go_wp2_with fail
            go_ret
            exact ⟨rfl, B8.out⟩
end Go.Proofs.YtflbdjlmkmmahaaDoor
