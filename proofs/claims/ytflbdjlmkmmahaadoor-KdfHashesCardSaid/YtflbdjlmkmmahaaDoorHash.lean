/- The contract of kdf.Hash. -/
import Derived.Test.YtflbdjlmkmmahaaDoorRounds1
import Derived.Test.YtflbdjlmkmmahaaDoorInvIn
import Derived.Test.YtflbdjlmkmmahaaDoorFacts5
namespace Go.Proofs.YtflbdjlmkmmahaaDoor
open Go.ChangeShapes Go.WideShapes Go.ChangeAt Go.RowKit
set_option linter.unusedVariables false
attribute [local go_sem] Oper.semAt_some

theorem hash_out (K : Option Addr) (kn kc : Nat) (A : Option Addr) (n c : Nat) (r : Int) (w : World) (h : r < 1 ∨ 1000 < r) :
    Calls Tryd.prog 10 #[.slice K kn kc, .slice A n c, .int .i64 r] w fun e w' => e = .returned (.slice none 0 0) ∧ w' = w := by
  by_cases h1 : r < 1
  · go_enter Tryd.func10, Tryd.ntmps10
    go_wp2
    go_ret
    exact ⟨rfl, rfl⟩
  · have h1' : 1 ≤ r := by omega
    have h2 : 1000 < r := by omega
    clear h h1
    go_enter Tryd.func10, Tryd.ntmps10
    go_wp2
    go_ret
    exact ⟨rfl, rfl⟩

theorem run_makeN (k : Nat) (hk : k ≤ 1000000) (w : World) : (Instr.makeSlice 22 (.int .i64 (k : Int)) (.int .i64 (k : Int))).run Tryd.prog w = .ok (.slice (some ⟨w.heap.size, 0, none⟩) k k) (w.alloc (.cells (arrC (List.replicate k 0)) 5)) := by
  obtain ⟨i0, hi, hz0, hz1, hz2⟩ := info_parts info_u8
  have := run_makeSlice (P := Tryd.prog) (w := w) 22 5 i0 (.int .u8 0) Tryd.underlying22 hi hz0 .i64 .i64 k k (by omega) (by omega) (by rw [hz1]; omega) (by rw [hz2]; omega) (by omega)
  rw [this, hz1]
  have e : madeCells (Value.int .u8 0).cells ((k : Int).toNat * 1) = arrC (List.replicate k 0) := by
    apply Array.ext'
    have e0 : (Value.int .u8 0).cells = #[Value.int .u8 0] := rfl
    rw [e0, toList_madeCells_one]
    simp [arrC, cellsOf]
  rw [e]
  simp
theorem own_new (w : World) (bs : List UInt8) (n : Nat) (hn : bs.length = n) (h : n ≤ maxLen) : (w.alloc (.cells (arrC bs) 5)).ownsRow w.heap.size 5 1 (.slice (some ⟨w.heap.size, 0, none⟩) n n) n (cellsOf bs) :=
  ⟨by simp [cellsOf_length, hn], .inr ⟨w.heap.size, n, arrC bs, rfl, Nat.le_refl _, heap_alloc_new w _, Nat.le_refl _, h, by simp [arrC_size, hn], by simp [arrC]; rw [List.take_of_length_le]; simp [cellsOf_length, hn]⟩⟩
set_option maxHeartbeats 1000000 in
theorem hash_in (K : Option Addr) (pass : List UInt8) (kn kc : Nat) (A : Option Addr) (salt : List UInt8) (n c : Nat) (k : Nat) (w : World) (hT : Tabs w) (hk : PieceOk w ⟨K, kc, pass⟩) (hkn : pass.length = kn) (hp : PieceOk w ⟨A, c, salt⟩) (hn : salt.length = n) (h1000 : n ≤ 1000) (hk1 : 1 ≤ k) (hk2 : k ≤ 1000) :
    Calls Tryd.prog 10 #[.slice K kn kc, .slice A n c, .int .i64 (k : Int)] w (Coded w (hashL pass salt k)) := by
  subst hkn
  have hkm := piece_of hk rfl
  have hmk : (Instr.makeSlice 22 (.int .i64 32) (.int .i64 32)).run Tryd.prog w = .ok (.slice (some ⟨w.heap.size, 0, none⟩) 32 32) (w.alloc (.cells (arrC (List.replicate 32 0)) 5)) := run_makeN 32 (by omega) w
  generalize e0 : w.alloc (.cells (arrC (List.replicate 32 0)) 5) = X0 at hmk
  have o0 : X0.ownsRow w.heap.size 5 1 (.slice (some ⟨w.heap.size, 0, none⟩) 32 32) 32 (cellsOf (hashL pass salt 0)) := by rw [← e0]; exact own_new w _ 32 rfl (by unfold maxLen; omega)
  have s0 : X0.heap.size = w.heap.size + 1 := by rw [← e0, alloc_size]
  have b0 : Below w.heap.size w X0 := e0 ▸ below_one (Below.refl _ _) _
  generalize e1 : X0.alloc (.cells #[.slice (some ⟨w.heap.size, 0, none⟩) 32 32] 22) = X1
  have s1 : X1.heap.size = w.heap.size + 2 := by rw [← e1, alloc_size, s0]
  have b1 : Below w.heap.size w X1 := below_then b0 (e1 ▸ below_one (Below.refl _ _) _)
  have hH : HashRow w.heap.size (hashL pass salt 0) X1 := ⟨own_keep o0 (by rw [← e1]; exact Below.heap_alloc _ _ _ (by omega)), by rw [← e1, ← s0]; exact heap_alloc_new X0 _⟩
  have hro := hideIt (roundsOf_any K pass.length kc A salt n c (k : Int) X1 hkm.2.1 hkm.2.2 (hp.keep b1) hn h1000)
  have hpm := piece_of hp hn
  have HT := hideIt hT
  have HK := hideIt hk
  have E1 := hideIt e1
  have S0 := hideIt s0
  have S1 := hideIt s1
  have B1 := hideIt b1
  have HH := hideIt hH
  clear hT hk hp e0 e1 s0 s1 b0 b1 o0 hH
  have hk1' : (1 : Int) ≤ (k : Int) := by omega
  have hk2' : (k : Int) ≤ 1000 := by omega
  refine (callsIn_wide (n := 5)).1 ?_
  refine callsIn_of_wp_marks Tryd.func10 rfl trivial ?_ rfl
  simp only [Tryd.ntmps10, List.size_toArray, List.length_cons, List.length_nil, Nat.reduceAdd, Nat.reduceSub, Array.replicate_succ, Array.replicate_zero, List.push_toArray, List.append_toArray, List.nil_append, List.cons_append]
  gi_wp2
  rw [E1.out]
  refine ⟨trivial, (callsIn_wide.2 hro.out).mono ?_⟩
  rintro e w2 ⟨bU, v, rfl, rat, A2, c2, rfl, p2⟩
  have RA := hideIt rat
  have P2 := hideIt p2
  clear rat p2 hro hmk
  have hc7 : w2.cell? ⟨w.heap.size + 1, 0, none⟩ = some (.slice (some ⟨w.heap.size, 0, none⟩) 32 32) := by
    rw [cell_of_row w2 _ _ _ _ _ ((RA.out.below.block _ (by have := S1.out; omega)).trans HH.out.box)]; rfl
  gi_wp2
  rw [S0.out]
  have sz2 : w.heap.size + 4 < w2.heap.size ∧ w.heap.size + 4 ≤ bU ∧ bU < w2.heap.size := by
    have h1 := RA.out.new; have h2 := S1.out; have h3 := (Array.getElem?_eq_some_iff.1 RA.out.hand).1
    omega
  refine wp_range_hash (n := 5) (by omega) (gf := 23) (lb := #[.pointer (some ⟨X1.heap.size + 1, 0, none⟩), .pointer (some ⟨X1.heap.size, 0, none⟩), .pointer (some ⟨bU, 0, none⟩)]) rfl (enters_of Tryd.func23 (by kernel_rfl) rfl) rfl w.heap.size (by omega)
    (fun x => { tmps := #[.slice K pass.length kc, .slice A n c, .int .i64 (k : Int), undef, undef, undef, .slice none 0 0, .pointer (some ⟨w.heap.size + 1, 0, none⟩), x, undef, .int .i64 (k : Int), .bool (decide ((k : Int) < 1)), .bool (decide ((k : Int) < 1)), .int .i64 (k : Int), .bool (decide (1000 < (k : Int))), .bool (decide ((k : Int) < 1) || decide (1000 < (k : Int))), .slice (some ⟨w.heap.size, 0, none⟩) 32 32, .slice K pass.length kc, .slice A n c, .int .i64 (k : Int), seqV X1 bU, x, undef, undef, undef, undef, undef, undef, undef, undef, undef, undef, undef, undef, undef, undef, undef, undef, undef], defers := [] }) ?assign ?body
    (fun W => ∃ lp, RoundSt ⟨w, w.heap.size, X1.heap.size, X1.heap.size + 1, bU, w2.heap.size + 1, w2.heap.size, lp, K, kc, pass, salt, k⟩ k W) ?call ?done
  case assign =>
    intro l x W K hK
    gi_wp2
    exact hK
  case body =>
    clear hc7 sz2 RA P2
    intro l h u gu W hH hU
    have hhl : h.length = 32 := by have := hH.own.1; rwa [cellsOf_length] at this
    have hul : u.length = 32 := by have := hU.1; rwa [cellsOf_length] at this
    have hgu := own_lt hU
    have hbx := (Array.getElem?_eq_some_iff.1 hH.box).1
    have hc7 : W.cell? ⟨w.heap.size + 1, 0, none⟩ = some (.slice (some ⟨w.heap.size, 0, none⟩) 32 32) := by rw [cell_of_row W _ _ _ _ _ hH.box]; rfl
    have HH2 := hideIt hH
    have HU := hideIt hU
    clear hH hU HH HK HT B1 S1 S0 E1 hpm hkm
    gi_wp2
    gi_loopw [24] (fun i wr => ∃ j : Nat, j ≤ 32 ∧ i = .int .i64 j ∧ wr.ownsRow w.heap.size 5 1 (.slice (some ⟨w.heap.size, 0, none⟩) 32 32) 32 (cellsOf (xoring h u j)) ∧ W.grownBy wr (some w.heap.size)) (fun i _ => 32 - (intOf i).toNat)
    case atStart => exact ⟨0, by omega, rfl, by rw [xoring_zero]; exact HH2.out.own, ⟨rfl, rfl, rfl, Nat.le_refl _, fun _ _ _ => rfl⟩⟩
    case round =>
      obtain ⟨j, hj, rfl, ho, hg⟩ := hrel
      by_cases hlt : j < 32
      · have hb7 := hg.block (w.heap.size + 1) hbx (by simp)
        have hbu := hg.block gu hgu.2 (by simp; omega)
        have hc7' : wr.cell? ⟨w.heap.size + 1, 0, none⟩ = some (.slice (some ⟨w.heap.size, 0, none⟩) 32 32) := (World.cell?_of_block hb7).trans hc7
        have hcH : wr.cell? ⟨w.heap.size, j, none⟩ = some (.int .u8 ((h[j]).toNat : Int)) := cell_told ho j _ (xoring_at h u j (by omega) (by omega))
        have hcU : wr.cell? ⟨gu, j, none⟩ = some (.int .u8 ((u[j]).toNat : Int)) := (World.cell?_of_block hbu).trans (cell_told HU.out j _ (by simp [hul, hlt]))
        have hst : ∀ W3 : World, W3.ownsRow w.heap.size 5 1 (.slice (some ⟨w.heap.size, 0, none⟩) 32 32) 32 (cellsOf (xoring h u j)) → (W3.setCell ⟨w.heap.size, j, none⟩ (.int .u8 ((h[j] ^^^ u[j]).toNat : Int))).ownsRow w.heap.size 5 1 (.slice (some ⟨w.heap.size, 0, none⟩) 32 32) 32 (cellsOf (xoring h u (j + 1))) ∧ W3.grownBy (W3.setCell ⟨w.heap.size, j, none⟩ (.int .u8 ((h[j] ^^^ u[j]).toNat : Int))) (some w.heap.size) := fun W3 ho3 => by
          have := ho3.stored j (.int .u8 ((h[j] ^^^ u[j]).toNat : Int))
          rw [cellsOf_set, xoring_set h u j (by omega) (by omega) (by omega)] at this
          exact this
        have u1 := (h[j]).toNat_lt
        have u2 := (u[j]).toNat_lt
        have HV : bits .xor .u8 ((h[j]).toNat : Int) ((u[j]).toNat : Int) = ((h[j] ^^^ u[j]).toNat : Int) := by
          rw [u8_xor_nat _ _ (by omega) (by omega), UInt8.toNat_xor]
        have HS := hideIt hst
        have HG := hideIt hg
        have HO := hideIt ho
        have L7 : Hid (w.heap.size + 1 < wr.heap.size) := hideIt (Nat.lt_of_lt_of_le hbx hg.size)
        have LU : Hid (gu < wr.heap.size) := hideIt (Nat.lt_of_lt_of_le hgu.2 hg.size)
        clear hst hg ho hb7 hbu
        generalize (h[j] ^^^ u[j]).toNat = x at *
        generalize (h[j]).toNat = p at *
        generalize (u[j]).toNat = q at *
        gi_wp2
        refine region_tail_in (Wide.round l) 10 [Fact.is (.slice (some ⟨w.heap.size, 0, none⟩) 32 32), Fact.is (.int .i64 (j : Int)), Fact.is (.pointer (some ⟨w.heap.size, 0 + j, none⟩)), Fact.is (.int .u8 (p : Int)), Fact.is (.slice (some ⟨gu, 0, none⟩) 32 32), Fact.is (.int .i64 (j : Int)), Fact.is (.pointer (some ⟨gu, 0 + j, none⟩)), Fact.is (.int .u8 (q : Int)), Fact.is (.int .u8 (x : Int)), Fact.is (.pointer (some ⟨w.heap.size, 0 + j, none⟩))] (by kernel_rfl) (by kernel_rfl) (by kernel_rfl) (by kernel_rfl) ⟨fun a w1 m => ?_, fun a w1 m => ?_, fun a w1 m => ?_, fun a w1 m => ?_, fun a w1 m => ?_, fun a w1 m => ?_, fun a w1 m => ?_, fun a w1 m => ?_, fun a w1 m => ?_, fun a w1 m => ?_, trivial⟩ ?_
        · exact ok_loadSl (wanted_none rfl) (.tmp 7) rfl _ _ (m.old 7 rfl) ((m.grew.cell (p := ⟨w.heap.size + 1, 0, none⟩) L7.out).trans hc7')
        · exact ok_move (wanted_none rfl) (.tmp 9) rfl (m.old 9 rfl)
        · exact ok_index (wanted_none rfl) (.tmp 27) (.tmp 28) rfl _ _ _ _ j (m.has 0 27 rfl rfl) (m.has 1 28 rfl rfl) hlt
        · exact ok_loadb (wanted_none rfl) (.tmp 29) rfl _ _ (m.has 2 29 rfl rfl) (by rw [Nat.zero_add]; exact (m.grew.cell (p := ⟨w.heap.size, j, none⟩) (Nat.lt_of_succ_lt L7.out)).trans hcH)
        · exact ok_move (wanted_none rfl) (.tmp 8) rfl (m.old 8 rfl)
        · exact ok_move (wanted_none rfl) (.tmp 9) rfl (m.old 9 rfl)
        · exact ok_index (wanted_none rfl) (.tmp 31) (.tmp 32) rfl _ _ _ _ j (m.has 4 31 rfl rfl) (m.has 5 32 rfl rfl) hlt
        · exact ok_loadb (wanted_none rfl) (.tmp 33) rfl _ _ (m.has 6 33 rfl rfl) (by rw [Nat.zero_add]; exact (m.grew.cell (p := ⟨gu, j, none⟩) LU.out).trans hcU)
        · exact ok_u8xor (wanted_none rfl) (.tmp 30) (.tmp 34) _ rfl _ _ _ (m.has 3 30 rfl rfl) (m.has 7 34 rfl rfl) HV
        · exact ok_index (wanted_none rfl) (.tmp 27) (.tmp 28) rfl _ _ _ _ j (m.has 0 27 rfl rfl) (m.has 1 28 rfl rfl) hlt
        · intro f w3 hg3 hf3
          have o3 := own_keep HO.out (hg3.block w.heap.size (Nat.lt_of_succ_lt L7.out))
          have hc3 : w3.cell? ⟨w.heap.size, j, none⟩ = some (.int .u8 (p : Int)) := (hg3.cell (p := ⟨w.heap.size, j, none⟩) (Nat.lt_of_succ_lt L7.out)).trans hcH
          have hf4 := o3.frozenAt j
          have R := HS.out w3 o3
          have RG : Hid (W.grownBy (w3.setCell ⟨w.heap.size, j, none⟩ (.int .u8 (x : Int))) (some w.heap.size)) := hideIt (by
            have g1 := HG.out
            refine ⟨R.2.os.trans (hg3.os.trans g1.os), R.2.tape.trans (hg3.tape.trans g1.tape), R.2.output.trans (hg3.output.trans g1.output), Nat.le_trans g1.size (Nat.le_trans hg3.size R.2.size), fun i hi hne => ?_⟩
            rw [R.2.block i (Nat.lt_of_lt_of_le hi (Nat.le_trans g1.size hg3.size)) hne, hg3.block i (Nat.lt_of_lt_of_le hi g1.size), g1.block i hi hne])
          have RO := hideIt R.1
          have h8 : f 8 = .int .u8 (x : Int) := hf3 8 (by decide)
          have h9 : f 9 = .pointer (some ⟨w.heap.size, j, none⟩) := by have h := hf3 9 (by decide); rwa [Nat.zero_add] at h
          clear o3 R HS HG HO hg3 hf3 hcH hcU hc7' L7 LU
          simp only [List.take, List.drop, putAll, Act.put, List.setIfInBounds_toArray, List.set_cons_succ, List.set_cons_zero]
          rw [h8, h9]
          gi_wp2
          go_roundw
          case rel => exact ⟨j + 1, by omega, by go_num, RO.out, RG.out⟩
          case measure => simp [intOf]; omega
      · obtain rfl : j = 32 := by omega
        rw [xoring_all h u 32 hhl hul] at ho
        have R : Hid (W.grownBy wr (some w.heap.size) ∧ HashRow w.heap.size (xorL h u) wr) := hideIt ⟨hg, ho, (hg.block _ hbx (by simp)).trans HH2.out.box⟩
        clear ho hg
        gi_wp2
        exact R.out
  case call =>
    intro l lp W1 hb hl hlp hdf hY
    have hs1 := S1.out
    have b2 := RA.out.below
    have hH2 : HashRow w.heap.size (hashL pass salt 0) w2 := HH.out.keep (b2.mono (by omega))
    have p3 := P2.out.keep hb
    have go : ∀ {q : Nat} {o : Obj}, w2.heap[q]? = some o → W1.heap[q]? = some o := fun {q o} h => (hb.block _ (Array.getElem?_eq_some_iff.1 h).1).trans h
    refine (rounds1_in 4 (by omega) ⟨w, w.heap.size, X1.heap.size, X1.heap.size + 1, bU, l, w2.heap.size, lp, K, kc, pass, salt, k⟩
      ⟨rfl, HT.out, HK.out, by show w.heap.size + 2 ≤ X1.heap.size; omega, by show w.heap.size + 2 ≤ X1.heap.size + 1; omega, by show w.heap.size + 2 ≤ bU; omega, by show w.heap.size + 2 ≤ l; omega, by show w.heap.size + 2 ≤ w2.heap.size; omega,
        by show bU ≠ X1.heap.size; omega, by show bU ≠ X1.heap.size + 1; omega, by show bU ≠ l; omega, by show bU ≠ w2.heap.size; omega⟩ W1
      ⟨(below_then B1.out b2).trans (hb.mono (by omega)), hH2.keep (hb.mono (by omega)), go RA.out.pass, go RA.out.rounds, ⟨A2, c2, go RA.out.hand, p3⟩, hlp, hdf⟩ hk2 hY).mono ?_
    rintro e W2 ⟨hv, st⟩
    exact ⟨hv, st.loop, st.defers, lp, by subst hl; exact st⟩
  case done =>
    rintro D l W2 o rfl hl ⟨lp, st⟩ hdf
    have hlt : w2.heap.size + 1 < W2.heap.size := (Array.getElem?_eq_some_iff.1 st.loop).1
    have hs1 := S1.out
    have hH := (st.row.other o (by show w.heap.size + 2 ≤ l; omega)).other (.deferred none) (show w.heap.size + 2 ≤ w2.heap.size by omega)
    have hb : Below w.heap.size w ((W2.putObj l o).putObj w2.heap.size (.deferred none)) := by
      have h0 := st.below
      refine ⟨h0.os, h0.tape, h0.output, by simp only [World.putObj_size]; exact h0.size, fun i hi => ?_⟩
      rw [World.putObj_heap_other (by omega), World.putObj_heap_other (by omega)]
      exact h0.block i hi
    have hc8 : (W2.putObj l o).cell? ⟨w.heap.size + 1, 0, none⟩ = some (.slice (some ⟨w.heap.size, 0, none⟩) 32 32) := by
      rw [cell_of_row _ _ _ _ _ _ (st.row.other o (by show w.heap.size + 2 ≤ l; omega)).box]; rfl
    have R : Hid (HashRow w.heap.size (hashL pass salt k) ((W2.putObj l o).putObj w2.heap.size (.deferred none)) ∧ Below w.heap.size w ((W2.putObj l o).putObj w2.heap.size (.deferred none))) := hideIt ⟨hH, hb⟩
    clear hH hb st hc7
    generalize W2.putObj l o = W4 at *
    gi_wp2
    refine ⟨by simp, .inl ⟨_, _, rfl, run_takeDeferred hdf, ?_⟩⟩
    exact ⟨_, results_tmp rfl _ _ _, _, rfl, ⟨w.heap.size, Nat.le_refl _, rfl, R.out.1.own⟩, R.out.2⟩
end Go.Proofs.YtflbdjlmkmmahaaDoor
