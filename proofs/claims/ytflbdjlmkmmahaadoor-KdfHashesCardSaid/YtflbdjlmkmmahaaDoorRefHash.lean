/- The contracts of the reference's Round, Hash and Right. -/
import Derived.Test.YtflbdjlmkmmahaaDoorRefMac
import Derived.Test.YtflbdjlmkmmahaaDoorHash
namespace Go.Proofs.YtflbdjlmkmmahaaDoor
open Go.ChangeShapes Go.WideShapes Go.ChangeAt Go.RowKit
set_option linter.unusedVariables false

theorem refround_any (K : Option Addr) (key : List UInt8) (kn kc : Nat) (A : Option Addr) (msg : List UInt8) (n c : Nat) (w : World) (hk : PieceOk w ⟨K, kc, key⟩) (hkn : key.length = kn) (hk4 : kn ≤ 400) (hp : PieceOk w ⟨A, c, msg⟩) (hn : msg.length = n) (hn3 : n ≤ 300) :
    Calls Tryd.prog 12 #[.slice K kn kc, .slice A n c] w fun e w' => ∃ v, e = .returned v ∧ w'.ownsRow w.heap.size 5 1 v 32 (cellsOf (codeL key msg)) ∧ Below w.heap.size w w' := by
  have hm := piece_of hp hn
  have hm' := piece_of hk hkn
  have H := hideIt (refcode_any K key kn kc A msg n c w hk hkn hk4 hp hn hn3)
  clear hk hp
  go_enter Tryd.func12, Tryd.ntmps12
  go_wp2_with fail
  refine H.out.mono ?_
  rintro e w2 ⟨v, rfl, h2, b2⟩
  obtain ⟨A2, c2, rfl, hl2, hp2⟩ := own_pieceAny h2 (by omega)
  have H2 : Hid (_ ∧ _) := hideIt ⟨h2, b2⟩
  clear h2 b2 H hl2 hp2
  go_wp2_with fail
  go_ret
  exact ⟨_, rfl, H2.out.1, H2.out.2⟩

theorem refhash_out (K : Option Addr) (kn kc : Nat) (A : Option Addr) (n c : Nat) (r : Int) (w : World) (h : r < 1 ∨ 1000 < r) :
    Calls Tryd.prog 9 #[.slice K kn kc, .slice A n c, .int .i64 r] w fun e w' => e = .returned (.slice none 0 0) ∧ w' = w := by
  by_cases h1 : r < 1
  · go_enter Tryd.func9, Tryd.ntmps9
    go_wp2
    go_ret
    exact ⟨rfl, rfl⟩
  · have h1' : 1 ≤ r := by omega
    have h2 : 1000 < r := by omega
    clear h h1
    go_enter Tryd.func9, Tryd.ntmps9
    go_wp2
    go_ret
    exact ⟨rfl, rfl⟩

def zero32 : List UInt8 := List.replicate 32 0
/-- how all stands behind j rounds: the hash's row is block g -/
structure RefSt (w : World) (g : Nat) (pass salt : List UInt8) (j : Nat) (A : Option Addr) (c : Nat) (W : World) : Prop where
  below : Below w.heap.size w W
  row : W.ownsRow w.heap.size 5 1 (.slice (some ⟨g, 0, none⟩) 32 32) 32 (cellsOf (hashL pass salt j))
  hand : PieceOk W ⟨A, c, uL pass salt j⟩
set_option maxHeartbeats 2000000 in
theorem refhash_in (K : Option Addr) (pass : List UInt8) (kn kc : Nat) (A : Option Addr) (salt : List UInt8) (n c : Nat) (k : Nat) (w : World) (hk : PieceOk w ⟨K, kc, pass⟩) (hkn : pass.length = kn) (hk4 : kn ≤ 400) (hp : PieceOk w ⟨A, c, salt⟩) (hn : salt.length = n) (h1000 : n ≤ 290) (hk1 : 1 ≤ k) (hk2 : k ≤ 1000) :
    Calls Tryd.prog 9 #[.slice K kn kc, .slice A n c, .int .i64 (k : Int)] w (Coded w (hashL pass salt k)) := by
  have hkm := piece_of hk hkn
  have hpm := piece_of hp hn
  have HK := hideIt hk
  have HP := hideIt hp
  have HKN := hideIt hkn
  have HN := hideIt hn
  have hmk : ∀ W : World, (Instr.makeSlice 22 (.int .i64 32) (.int .i64 32)).run Tryd.prog W = .ok (.slice (some ⟨W.heap.size, 0, none⟩) 32 32) (W.alloc (.cells (arrC zero32) 5)) := fun W => run_makeN 32 (by omega) W
  clear hk hp hkn hn
  have hk1' : (1 : Int) ≤ (k : Int) := by omega
  have hk2' : (k : Int) ≤ 1000 := by omega
  go_enter Tryd.func9, Tryd.ntmps9
  have four : ∀ W : World, PieceOk (W.alloc (.cells #[.int .u8 0, .int .u8 0, .int .u8 0, .int .u8 1] 5)) ⟨some ⟨W.heap.size, 0, none⟩, 4, [0, 0, 0, 1]⟩ := fun W => piece_lit _ W.heap.size _ _ _ 4 _ (heap_alloc_new W _) rfl (by simp) (by omega)
  have FOUR := hideIt four
  clear four
  go_wp2_with (first
    | (at_builtin; refine wpList_app rfl (.tmp 17) (.tmp 18) rfl w.heap.size (.slice none 0 0) 0 [] rfl (own_none _ _ _) A n c w.heap.size salt rfl HN.out HP.out.nil HP.out.bytes (by omega) (Nat.le_refl _) ?_; intro v1 w1 o1 g1; have B1 := hideIt (below_made g1); rw [Nat.zero_add, List.nil_append] at o1; obtain ⟨A1, c1, rfl, hl1, hp1⟩ := own_pieceAny o1 (by omega); have O1 := hideIt o1; clear o1 g1 hl1 hp1)
    | (at_builtin; have t1 := own_stay O1.out (below_one (Below.refl _ w1) (.cells #[.int .u8 0, .int .u8 0, .int .u8 0, .int .u8 1] 5)); have t2 := (FOUR.out w1).bytes; have t3 : w.heap.size ≤ (w1.alloc (.cells #[.int .u8 0, .int .u8 0, .int .u8 0, .int .u8 1] 5)).heap.size := (by have := B1.out.size; rw [alloc_size]; omega); refine wpList_app rfl (.tmp 20) (.tmp 21) rfl w.heap.size (.slice A1 n c1) n salt rfl t1 (some ⟨w1.heap.size, 0, none⟩) 4 4 _ [0, 0, 0, 1] rfl rfl (fun h => by cases h) t2 (by omega) t3 ?_; intro v2 w2 o2 g2; have B2 := hideIt ((below_one B1.out _).grown g2 t3 (fun q hq => own_from t1 hq)); obtain ⟨A2, c2, rfl, hl2, hp2⟩ := own_pieceAny o2 (by omega); have P2 := hideIt hp2; clear o2 g2 hl2 hp2 O1 t1 t2 t3))
  generalize e3 : w2.alloc (.cells (arrC zero32) 5) = w3
  have ST : Hid (RefSt w w2.heap.size pass salt 0 A2 c2 w3) := hideIt (by
    rw [← e3]
    have hs := B2.out.size
    exact ⟨below_one B2.out _, own_base (own_new w2 zero32 32 rfl (by unfold maxLen; omega)) hs, P2.out.keep (below_one (Below.refl _ _) _)⟩)
  have HG0 : w.heap.size ≤ w2.heap.size := B2.out.size
  have HL0 : Hid ((uL pass salt 0).length = n + 4) := hideIt (by rw [uL, List.length_append, HN.out]; rfl)
  clear e3 P2 B2 B1 FOUR hmk
  generalize w2.heap.size = g at *
  go_loopw [7, 9] (fun u i wr => ∃ (j : Nat) (A : Option Addr) (c : Nat), j ≤ k ∧ i = .int .i64 j ∧ u = .slice A (uL pass salt j).length c ∧ RefSt w g pass salt j A c wr) (fun _ i _ => k - (intOf i).toNat)
  case atStart => exact ⟨0, A2, c2, by omega, rfl, by rw [HL0.out], ST.out⟩
  case round =>
    clear ST HL0
    obtain ⟨j, A3, c3, hj, rfl, rfl, st⟩ := hrel
    by_cases hlt : j < k
    · have hji : (j : Int) < (k : Int) := by omega
      have hul : (uL pass salt j).length ≤ 300 := by
        cases j with
        | zero => rw [uL, List.length_append, HN.out]; simp; omega
        | succ j => rw [uL_length]; omega
      have hR := hideIt (refround_any K pass kn kc A3 (uL pass salt j) (uL pass salt j).length c3 wr (HK.out.keep st.below) HKN.out hk4 st.hand rfl hul)
      have hm3 := piece_of st.hand rfl
      have ST := hideIt st
      clear st
      generalize (uL pass salt j).length = un at *
      go_wp2_with fail
      refine hR.out.mono ?_
      rintro e w4 ⟨v4, rfl, o4, b4⟩
      obtain ⟨gu, cu, rfl, hgu, hcu1, hcu2⟩ := own_some o4 (by omega)
      have hgl := own_lt ST.out.row
      have hul2 := own_lt o4
      have R4 := own_keep ST.out.row (b4.block g hgl.2)
      have HB4 := hideIt (below_then ST.out.below b4)
      have HU := hideIt o4
      have HR4 := hideIt R4
      have hhl := hashL_length pass salt j
      have hul3 : (codeL pass (uL pass salt j)).length = 32 := codeL_length _ _
      have HE : Hid (hashL pass salt (j + 1) = xorL (hashL pass salt j) (codeL pass (uL pass salt j)) ∧ uL pass salt (j + 1) = codeL pass (uL pass salt j)) := hideIt ⟨rfl, rfl⟩
      have hne : gu ≠ g := by omega
      have hgl4 : g < w4.heap.size := by have := b4.size; omega
      have hul4 : gu < w4.heap.size := hul2.2
      clear o4 b4 R4 hR ST hgl hul2
      generalize hashL pass salt j = h at *
      generalize codeL pass (uL pass salt j) = u at *
      generalize wr = wz at *
      go_wp2_with fail
      go_loopw [10] (fun i wr => ∃ t : Nat, t ≤ 32 ∧ i = .int .i64 t ∧ wr.ownsRow w.heap.size 5 1 (.slice (some ⟨g, 0, none⟩) 32 32) 32 (cellsOf (xoring h u t)) ∧ w4.grownBy wr (some g)) (fun i _ => 32 - (intOf i).toNat)
      case atStart => exact ⟨0, by omega, rfl, by rw [xoring_zero]; exact HR4.out, ⟨rfl, rfl, rfl, Nat.le_refl _, fun _ _ _ => rfl⟩⟩
      case round =>
        obtain ⟨t, ht, rfl, ho, hg⟩ := hrel
        by_cases hlt2 : t < 32
        · have hbu := hg.block gu hul4 (by simp; exact hne)
          have hcH : wr.cell? ⟨g, t, none⟩ = some (.int .u8 ((h[t]).toNat : Int)) := cell_told ho t _ (xoring_at h u t (by omega) (by omega))
          have hcU : wr.cell? ⟨gu, t, none⟩ = some (.int .u8 ((u[t]).toNat : Int)) := (World.cell?_of_block hbu).trans (cell_told HU.out t _ (by simp [hul3, hlt2]))
          have hst : ∀ W3 : World, W3.ownsRow w.heap.size 5 1 (.slice (some ⟨g, 0, none⟩) 32 32) 32 (cellsOf (xoring h u t)) → (W3.setCell ⟨g, t, none⟩ (.int .u8 ((h[t] ^^^ u[t]).toNat : Int))).ownsRow w.heap.size 5 1 (.slice (some ⟨g, 0, none⟩) 32 32) 32 (cellsOf (xoring h u (t + 1))) ∧ W3.grownBy (W3.setCell ⟨g, t, none⟩ (.int .u8 ((h[t] ^^^ u[t]).toNat : Int))) (some g) := fun W3 ho3 => by
            have := ho3.stored t (.int .u8 ((h[t] ^^^ u[t]).toNat : Int))
            rw [cellsOf_set, xoring_set h u t (by omega) (by omega) (by omega)] at this
            exact this
          have u1 := (h[t]).toNat_lt
          have u2 := (u[t]).toNat_lt
          have HV : bits .xor .u8 ((h[t]).toNat : Int) ((u[t]).toNat : Int) = ((h[t] ^^^ u[t]).toNat : Int) := by
            rw [u8_xor_nat _ _ (by omega) (by omega), UInt8.toNat_xor]
          have HS := hideIt hst
          have HG := hideIt hg
          have HO := hideIt ho
          have LG : Hid (g < wr.heap.size) := hideIt (Nat.lt_of_lt_of_le hgl4 hg.size)
          have LU : Hid (gu < wr.heap.size) := hideIt (Nat.lt_of_lt_of_le hul4 hg.size)
          clear hst hg ho hbu
          generalize (h[t] ^^^ u[t]).toNat = x at *
          generalize (h[t]).toNat = p at *
          generalize (u[t]).toNat = q at *
          go_wp2_with fail
          refine region_tail 12 [Fact.is (.slice (some ⟨g, 0, none⟩) 32 32), Fact.is (.int .i64 (t : Int)), Fact.is (.slice (some ⟨g, 0, none⟩) 32 32), Fact.is (.int .i64 (t : Int)), Fact.is (.pointer (some ⟨g, 0 + t, none⟩)), Fact.is (.int .u8 (p : Int)), Fact.is (.slice (some ⟨gu, 0, none⟩) 32 cu), Fact.is (.int .i64 (t : Int)), Fact.is (.pointer (some ⟨gu, 0 + t, none⟩)), Fact.is (.int .u8 (q : Int)), Fact.is (.int .u8 (x : Int)), Fact.is (.pointer (some ⟨g, 0 + t, none⟩))] (by kernel_rfl) (by kernel_rfl) (by kernel_rfl) ⟨fun a w1 m => ?_, fun a w1 m => ?_, fun a w1 m => ?_, fun a w1 m => ?_, fun a w1 m => ?_, fun a w1 m => ?_, fun a w1 m => ?_, fun a w1 m => ?_, fun a w1 m => ?_, fun a w1 m => ?_, fun a w1 m => ?_, fun a w1 m => ?_, trivial⟩ ?_
          · exact ok_move (wanted_none rfl) (.tmp 8) rfl (m.old 8 rfl)
          · exact ok_move (wanted_none rfl) (.tmp 10) rfl (m.old 10 rfl)
          · exact ok_move (wanted_none rfl) (.tmp 8) rfl (m.old 8 rfl)
          · exact ok_move (wanted_none rfl) (.tmp 10) rfl (m.old 10 rfl)
          · exact ok_index (wanted_none rfl) (.tmp 38) (.tmp 39) rfl _ _ _ _ t (m.has 2 38 rfl rfl) (m.has 3 39 rfl rfl) hlt2
          · exact ok_loadb (wanted_none rfl) (.tmp 40) rfl _ _ (m.has 4 40 rfl rfl) (by rw [Nat.zero_add]; exact (m.grew.cell (p := ⟨g, t, none⟩) LG.out).trans hcH)
          · exact ok_move (wanted_none rfl) (.tmp 7) rfl (m.old 7 rfl)
          · exact ok_move (wanted_none rfl) (.tmp 10) rfl (m.old 10 rfl)
          · exact ok_index (wanted_none rfl) (.tmp 42) (.tmp 43) rfl _ _ _ _ t (m.has 6 42 rfl rfl) (m.has 7 43 rfl rfl) hlt2
          · exact ok_loadb (wanted_none rfl) (.tmp 44) rfl _ _ (m.has 8 44 rfl rfl) (by rw [Nat.zero_add]; exact (m.grew.cell (p := ⟨gu, t, none⟩) LU.out).trans hcU)
          · exact ok_u8xor (wanted_none rfl) (.tmp 41) (.tmp 45) _ rfl _ _ _ (m.has 5 41 rfl rfl) (m.has 9 45 rfl rfl) HV
          · exact ok_index (wanted_none rfl) (.tmp 36) (.tmp 37) rfl _ _ _ _ t (m.has 0 36 rfl rfl) (m.has 1 37 rfl rfl) hlt2
          · intro f w6 hg3 hf3
            have o3 := own_keep HO.out (hg3.block g LG.out)
            have hc3 : w6.cell? ⟨g, t, none⟩ = some (.int .u8 (p : Int)) := (hg3.cell (p := ⟨g, t, none⟩) LG.out).trans hcH
            have hf4 := o3.frozenAt t
            have R := HS.out w6 o3
            have RG : Hid (w4.grownBy (w6.setCell ⟨g, t, none⟩ (.int .u8 (x : Int))) (some g)) := hideIt (by
              have g1 := HG.out
              refine ⟨R.2.os.trans (hg3.os.trans g1.os), R.2.tape.trans (hg3.tape.trans g1.tape), R.2.output.trans (hg3.output.trans g1.output), Nat.le_trans g1.size (Nat.le_trans hg3.size R.2.size), fun i hi hne => ?_⟩
              rw [R.2.block i (Nat.lt_of_lt_of_le hi (Nat.le_trans g1.size hg3.size)) hne, hg3.block i (Nat.lt_of_lt_of_le hi g1.size), g1.block i hi hne])
            have RO := hideIt R.1
            have h8 : f 10 = .int .u8 (x : Int) := hf3 10 (by decide)
            have h9 : f 11 = .pointer (some ⟨g, t, none⟩) := by have h := hf3 11 (by decide); rwa [Nat.zero_add] at h
            clear o3 R HS HG HO hg3 hf3 hcH hcU LG LU
            simp only [List.take, List.drop, putAll, Act.put, List.setIfInBounds_toArray, List.set_cons_succ, List.set_cons_zero]
            rw [h8, h9]
            go_wp2_with fail
            go_roundw
            case rel => exact ⟨t + 1, by omega, by go_num, RO.out, RG.out⟩
            case measure => simp [intOf]; omega
        · obtain rfl : t = 32 := by omega
          rw [xoring_all h u 32 hhl hul3] at ho
          have R : Hid (RefSt w g pass salt (j + 1) (some ⟨gu, 0, none⟩) cu wr) := hideIt ⟨HB4.out.grown hg HB4.out.size (by intro x hx; cases hx; exact HG0), by rw [HE.out.1]; exact ho, by
            rw [HE.out.2]
            obtain ⟨A9, c9, e9, _, hp9⟩ := own_pieceAny (own_keep HU.out (hg.block gu hul4 (by simp; exact hne))) (by omega)
            cases e9
            exact hp9⟩
          have HL : Hid ((uL pass salt (j + 1)).length = 32) := hideIt (uL_length _ _ _)
          clear ho hg
          go_wp2_with fail
          go_roundw
          case rel => exact ⟨j + 1, some ⟨gu, 0, none⟩, cu, by omega, by go_num, by rw [HL.out], R.out⟩
          case measure => simp [intOf]; omega
    · obtain rfl : j = k := by omega
      have R : Hid (_ ∧ _) := hideIt ⟨st.row, st.below⟩
      clear st
      go_wp2_with fail
      go_ret
      exact ⟨_, rfl, ⟨g, HG0, rfl, R.out.1⟩, R.out.2⟩
end Go.Proofs.YtflbdjlmkmmahaaDoor
