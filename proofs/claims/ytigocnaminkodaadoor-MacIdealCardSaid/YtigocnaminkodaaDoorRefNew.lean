/- The contract of the reference's Make: a message that was not made, walked. -/
import Derived.Test.YtigocnaminkodaaDoorRefNewA
namespace Go.Proofs.YtigocnaminkodaaDoor
open Go.ChangeShapes Go.WideShapes Go.ChangeAt Go.RowKit
set_option linter.unusedVariables false
set_option linter.unusedSimpArgs false


/-- what Make of a new message leaves -/
def MadeT (w : World) (B : Nat) (made : List (List UInt8)) (cs : List Piece) (msg : List UInt8) (e : Ending) (w' : World) : Prop :=
  ∃ Am cm Ac cc, ∃ p : Piece, e = .returned (.tuple #[tV Am cm Ac cc (made.length + 1), p.val]) ∧ p.bs = idealL made.length msg ∧ PieceOk w' p ∧ PieceFrom B p ∧ TOk w' B Am cm Ac cc (made ++ [msg]) (cs ++ [p]) ∧ Below w.heap.size w w'
set_option maxRecDepth 100000 in
set_option maxHeartbeats 4000000 in
theorem refmake_new (Am : Option Addr) (cm : Nat) (Ac : Option Addr) (cc : Nat) (made : List (List UInt8)) (cs : List Piece) (B : Nat) (A : Option Addr) (msg : List UInt8) (n c : Nat) (w : World) (hT0 : TOk w B Am cm Ac cc made cs) (hfew : made.length ≤ 900) (hBw : B ≤ w.heap.size) (hp0 : PieceOk w ⟨A, c, msg⟩) (hn : msg.length = n) (hn4 : n ≤ 400) (hk : posL msg made 0 = none) :
    Calls Tryd.prog 27 #[tV Am cm Ac cc made.length, .slice A n c] w (MadeT w B made cs msg) := by
  have hkn := pos_none hk
  generalize eX1 : w.alloc (.cells #[.slice none 0 0, .bool true, .slice Am made.length cm, .slice Ac made.length cc] 47) = X1
  have bX1 : Grew w X1 := eX1 ▸ below_one (Below.refl _ _) _
  have s1 : X1.heap.size = w.heap.size + 1 := by rw [← eX1, alloc_size]
  have kX1 : X1.heap[w.heap.size]? = some (.cells #[.slice none 0 0, .bool true, .slice Am made.length cm, .slice Ac made.length cc] 47 (0, 0)) := eX1 ▸ heap_alloc_new w _
  generalize eX : X1.alloc (.cells #[.slice none 0 0, .bool false, .slice none 0 0, .slice none 0 0] 47) = X
  have bX : Grew w X := below_then bX1 (eX ▸ below_one (Below.refl _ _) _)
  have kX : X.heap[w.heap.size]? = some (.cells #[.slice none 0 0, .bool true, .slice Am made.length cm, .slice Ac made.length cc] 47 (0, 0)) := by rw [← eX, Below.heap_alloc X1 _ _ (by omega)]; exact kX1
  have kR : X.heap[w.heap.size + 1]? = some (.cells #[.slice none 0 0, .bool false, .slice none 0 0, .slice none 0 0] 47 (0, 0)) := by rw [← eX, ← s1]; exact heap_alloc_new X1 _
  have hlt := (Array.getElem?_eq_some_iff.1 kX).1
  have c1 : X.cell? ⟨w.heap.size, 1, none⟩ = some (.bool true) := by rw [cell_of_row X _ _ _ _ _ kX]; rfl
  have HX : Hid (CellAt X ⟨w.heap.size, 2, none⟩ (.slice Am made.length cm) ∧ CellAt X ⟨w.heap.size, 3, none⟩ (.slice Ac made.length cc)) := hideIt ⟨⟨by rw [cell_of_row X _ _ _ _ _ kX]; rfl, hlt⟩, ⟨by rw [cell_of_row X _ _ _ _ _ kX]; rfl, hlt⟩⟩
  have HT0 := hideIt hT0
  have HT := hideIt (hT0.keep bX)
  have HP := hideIt (hp0.keep bX)
  have HB := hideIt bX
  have EX1 := hideIt eX1
  have EX := hideIt eX
  have KX := hideIt kX
  have KR := hideIt kR
  have S1 := hideIt s1
  have hfew' : (made.length : Int) ≤ 900 := by omega
  clear eX eX1 bX bX1 kX kX1 kR hlt hT0 hp0 s1
  rw [← EX.out, ← EX1.out] at c1
  show Calls Tryd.prog 27 #[.agg #[.slice none 0 0, .bool true, .slice Am made.length cm, .slice Ac made.length cc], .slice A n c] w _
  go_enter Tryd.func27, Tryd.ntmps27
  go_wp2_with fail
  rw [EX1.out, EX.out]
  go_loopw [6] (fun i wr => ∃ j : Nat, j ≤ made.length ∧ i = .int .i64 j ∧ Grew X wr) (fun i _ => made.length - (intOf i).toNat)
  case atStart => exact ⟨0, by omega, rfl, Grew.refl _⟩
  case round =>
    obtain ⟨j, hj, rfl, hgr⟩ := hrel
    have k2' := (HX.out.1.keep hgr).val
    by_cases hlt : j < made.length
    · have hlt' : (j : Int) < (made.length : Int) := by omega
      have hT := HT.out.keep hgr
      obtain ⟨qm, om, rfl, _, hqm, hcm⟩ := hT.strs (by simp; omega)
      obtain ⟨mj, hmj⟩ : ∃ mj, made[j] = mj := ⟨_, rfl⟩
      have km : CellAt wr ⟨qm, om + j, none⟩ (.string (strOf mj)) := ⟨by rw [hcm j (by simp; omega)]; simp [hmj], hqm⟩
      have k2 := HX.out.1.keep hgr
      have hp := HP.out.keep hgr
      go_wp2_with fail
      have hm1 : mj ≠ msg := hmj ▸ hkn j hlt
      refine region_inv [Fact.is (.pointer (some ⟨w.heap.size, 2, none⟩)), Fact.is (.slice (some ⟨qm, om, none⟩) made.length cm), Fact.is (.int .i64 (j : Int)), Fact.is (.pointer (some ⟨qm, om + j, none⟩)), Fact.str (mj), Fact.is (.slice A n c), Fact.str (msg), Fact.is (.bool false)] (by kernel_rfl) (by kernel_rfl) ⟨fun a w1 m => ?_, fun a w1 m => ?_, fun a w1 m => ?_, fun a w1 m => ?_, fun a w1 m => ?_, fun a w1 m => ?_, fun a w1 m => ?_, fun a w1 m => ?_, trivial⟩ ?_
      · exact ok_tfield (wanted_none rfl) (.tmp 2) 2 (by simp) rfl _ (m.old 2 rfl)
      · exact ok_loadStrs (wanted_none rfl) (.tmp 27) rfl _ _ (m.has 0 27 rfl rfl) (k2.keep m.grew).val
      · exact ok_move (wanted_none rfl) (.tmp 6) rfl (m.old 6 rfl)
      · exact ok_indexStrs (wanted_none rfl) (.tmp 28) (.tmp 29) rfl _ _ _ _ j (m.has 1 28 rfl rfl) (m.has 2 29 rfl rfl) hlt
      · exact ok_loadStr (wanted_none rfl) (.tmp 30) rfl _ _ (m.has 3 30 rfl rfl) (km.keep m.grew).val
      · exact ok_move (wanted_none rfl) (.tmp 1) rfl (m.old 1 rfl)
      · exact ok_str (wanted_none rfl) (.tmp 32) rfl _ (by rw [show a.eval (.tmp 32) = _ from m.has 5 32 rfl rfl, ← hn]; exact ⟨_, _, rfl, hp.keep m.grew⟩)
      · exact ok_streq (wanted_none rfl) (.tmp 31) (.tmp 33) _ rfl _ _ (m.has 4 31 rfl rfl) (m.has 6 33 rfl rfl) _ (decide_eq_false (fun e => hm1 (strOf_inj e)))
      intro f w2 hg hf
      have h7 : f 7 = .bool false := hf 7 (by decide)
      have HG := hideIt (below_then hgr hg)
      clear hf hg
      simp only [putAll, Nat.zero_add, Nat.reduceAdd, Act.put, List.setIfInBounds_toArray, List.set_cons_succ, List.set_cons_zero]
      rw [h7]
      clear hgr k2 km hT hp
      go_wp2_with fail
      go_roundw
      case rel => exact ⟨j + 1, by omega, by go_num, HG.out⟩
      case measure => simp [intOf]; omega
    · obtain rfl : j = made.length := by omega
      have c1' : (convert 22 22 (.slice (some ⟨wr.heap.size, 0, none⟩) 5 5)).run Tryd.prog (wr.alloc (.cells #[.int .u8 105, .int .u8 100, .int .u8 101, .int .u8 97, .int .u8 108] 5)) = .ok (.slice (some ⟨wr.heap.size, 0, none⟩) 5 5) (wr.alloc (.cells #[.int .u8 105, .int .u8 100, .int .u8 101, .int .u8 97, .int .u8 108] 5 (5, 6))) := Joins.run_convert_bytes_const_at (P := Tryd.prog) wr 22 5 #[.int .u8 105, .int .u8 100, .int .u8 101, .int .u8 97, .int .u8 108] 5 5 wr.heap.size rfl Tryd.underlying22 Tryd.underlying5
      generalize e1 : wr.alloc (.cells #[.int .u8 105, .int .u8 100, .int .u8 101, .int .u8 97, .int .u8 108] 5 (5, 6)) = Y1 at *
      have k1 : Y1.heap[wr.heap.size]? = some (.cells #[.int .u8 105, .int .u8 100, .int .u8 101, .int .u8 97, .int .u8 108] 5 (5, 6)) := e1 ▸ heap_alloc_new wr _
      have b1 : Grew X Y1 := below_then hgr (e1 ▸ below_one (Below.refl _ _) _)
      have p1 : PieceOk Y1 ⟨some ⟨wr.heap.size, 0, none⟩, 5, [105, 100, 101, 97, 108]⟩ := piece_lit Y1 _ _ _ _ _ _ k1 rfl (by decide) (by decide)
      have hput := hideIt (refput8 made.length Y1 (by omega))
      have k2n := (HX.out.1.keep b1).val
      have B1 := hideIt b1
      have P1 := hideIt p1
      clear k1 b1 p1 e1 hgr
      go_wp2_with fail
      refine hput.out.mono ?_
      rintro e w2 ⟨v2, rfl, o2, b2⟩
      obtain ⟨A2, c2, rfl, hl2, hp2⟩ := own_pieceAny o2 (by omega)
      have P2 := hideIt hp2
      have L2 := hideIt hl2
      have P1' := hideIt (P1.out.keep b2)
      have B2 := hideIt (below_then B1.out b2)
      clear o2 b2 hp2 hl2 hput c1' k2n k2' c1
      go_wp2_with (first
        | (at_builtin; refine wpList_appFull rfl (.tmp 48) (.tmp 49) rfl (some ⟨wr.heap.size, 0, none⟩) [105, 100, 101, 97, 108] 5 rfl (by exact P1'.out) rfl A2 8 c2 (putL made.length 8) rfl (by exact P2.out) L2.out (by omega) (by omega) ?_; intro v3 w3 o3 g3; have O3 := hideIt o3; have G3 := hideIt (below_made g3); clear o3 g3)
        | (at_builtin; refine wpList_app rfl (.tmp 51) (.tmp 52) rfl w2.heap.size v3 13 ([105, 100, 101, 97, 108] ++ putL made.length 8) rfl (by exact O3.out) A n c w3.heap.size msg rfl hn (by exact HP.out.nil) (by exact (HP.out.keep (below_then B2.out G3.out)).bytes) (by omega) (by exact G3.out.size) ?_; intro v4 w4 o4 g4; have O4 := hideIt o4; have G4 := hideIt (G3.out.grown g4 G3.out.size (fun k hk => (O3.out.lt k hk).1)); clear o4 g4))
      obtain ⟨A4, c4, rfl, hl4, hp4⟩ := own_pieceAny O4.out (by omega)
      have hm4 := piece_of' hp4 hl4
      refine (refsum_420 A4 _ _ c4 w4 hl4 hm4.1 hm4.2 hp4.nil hp4.bytes (by omega)).mono ?_
      rintro e w5 ⟨v5, rfl, o5, b5⟩
      obtain ⟨g5, c5, rfl, hg5, h5c, h5m⟩ := own_some o5 (by omega)
      have BX : Hid (Below X.heap.size X w5) := hideIt (below_then (below_then B2.out G4.out) b5)
      rw [List.append_assoc] at o5
      obtain ⟨A5, c5', e5, hl5, hp5⟩ := own_pieceAny o5 (by omega)
      cases e5
      have P5 : Hid (PieceOk w5 ⟨some ⟨g5, 0, none⟩, c5, idealL made.length msg⟩) := hideIt hp5
      have hxs : X.heap.size ≤ g5 := Nat.le_trans (below_then B2.out G4.out).size hg5
      clear o5 b5 hp5 hl5 hp4 hm4 hl4 O4 O3 G3 G4 P1 P1' P2 B1 B2 L2
      have k2n := (HX.out.1.keep BX.out).val
      go_wp2_with (first
        | (at_builtin; refine wpList_appV rfl (.tmp 56) (.tmp 58) 45 9 _ 16 rfl Tryd.underlying45 info_str rfl (by omega) w5.heap.size (.slice none 0 0) 0 [] rfl (World.ownsRow_nil _ _ _ _) Am made.length cm B (made.map fun m => .string (strOf m)) rfl (by simp) (by exact HT.out.nilm) (by exact (HT.out.keep BX.out).strs) (by exact one_strs made) (by omega) (Nat.le_refl _) made.length (by omega) _ (List.nil_append _) ?_; intro v6 w6 o6 g6; have O6 := hideIt o6; have G6 := hideIt (below_made g6); have c15 := conv_bytes A msg n c w6.heap.size w6 ((HP.out.keep (below_then BX.out G6.out)).bytes) hn; clear o6 g6 k2n)
        | (at_builtin; refine wpList_appV (w := w6.alloc (.cells #[.string (strOf msg)] 9)) rfl (.tmp 60) (.tmp 63) 45 9 _ 16 rfl Tryd.underlying45 info_str rfl (by omega) w5.heap.size v6 made.length _ rfl (by exact own_stay O6.out (below_one (Below.refl _ _) _)) (some ⟨w6.heap.size, 0, none⟩) 1 1 0 [.string (strOf msg)] rfl rfl (by simp) (by exact row_one w6 _ _) (by simp [Value.oneCell']) (by omega) (by exact (below_one G6.out _).size) (made.length + 1) rfl _ rfl ?_; intro v7 w7 o7 g7; obtain ⟨A7, c7, rfl, hl7, hc7, hn7, hr7⟩ := own_row o7; have R7 := hideIt hr7; have N7 := hideIt hn7; have G7 := hideIt ((below_one G6.out _).grown g7 (below_one G6.out _).size (fun k hk => (O6.out.lt k hk).1)); have k3n := (HX.out.2.keep (below_then BX.out G7.out)).val; clear o7 g7 hr7 hn7 hl7 c15)
        | (at_builtin; refine wpList_appV rfl (.tmp 65) (.tmp 67) 41 22 _ 24 rfl Tryd.underlying41 info_row rfl (by omega) w7.heap.size (.slice none 0 0) 0 [] rfl (World.ownsRow_nil _ _ _ _) Ac made.length cc B (cs.map Piece.val) rfl (by rw [List.length_map]; exact HT.out.len) (by exact HT.out.nilc) (by exact (HT.out.keep (below_then BX.out G7.out)).rows) (by exact one_rows cs) (by omega) (Nat.le_refl _) made.length (by omega) _ (List.nil_append _) ?_; intro v8 w8 o8 g8; have O8 := hideIt o8; have G8 := hideIt (below_made g8); clear o8 g8 k3n)
        | (at_builtin; refine wpList_appV (w := w8.alloc (.cells #[.slice (some ⟨g5, 0, none⟩) 32 c5] 22)) rfl (.tmp 69) (.tmp 71) 41 22 _ 24 rfl Tryd.underlying41 info_row rfl (by omega) w7.heap.size v8 made.length _ rfl (by exact own_stay O8.out (below_one (Below.refl _ _) _)) (some ⟨w8.heap.size, 0, none⟩) 1 1 0 [.slice (some ⟨g5, 0, none⟩) 32 c5] rfl rfl (by simp) (by exact row_one w8 _ _) (by simp [Value.oneCell']) (by omega) (by exact (below_one G8.out _).size) (made.length + 1) rfl _ rfl ?_; intro v9 w9 o9 g9; obtain ⟨A9, c9, rfl, hl9, hc9, hn9, hr9⟩ := own_row o9; have R9 := hideIt hr9; have N9 := hideIt hn9; have G9 := hideIt ((below_one G8.out _).grown g9 (below_one G8.out _).size (fun k hk => (O8.out.lt k hk).1)); have BX9 := hideIt (below_then (below_then BX.out G7.out) G9.out); have kR9 := (BX9.out.block _ (Array.getElem?_eq_some_iff.1 KR.out).1).trans KR.out; have KR9 := hideIt kR9; have e0 : w9.cell? ⟨w.heap.size + 1, 0, none⟩ = some (.slice none 0 0) := (by rw [cell_of_row w9 _ _ _ _ _ kR9]; rfl); have e1 : w9.cell? ⟨w.heap.size + 1, 1, none⟩ = some (.bool false) := (by rw [cell_of_row w9 _ _ _ _ _ kR9]; rfl); have e2 : w9.cell? ⟨w.heap.size + 1, 2, none⟩ = some (.slice none 0 0) := (by rw [cell_of_row w9 _ _ _ _ _ kR9]; rfl); have e3 : w9.cell? ⟨w.heap.size + 1, 3, none⟩ = some (.slice none 0 0) := (by rw [cell_of_row w9 _ _ _ _ _ kR9]; rfl); have z0 := frozen_of_row w9 _ 0 _ _ kR9; have z1 := frozen_of_row w9 _ 1 _ _ kR9; have z2 := frozen_of_row w9 _ 2 _ _ kR9; have z3 := frozen_of_row w9 _ 3 _ _ kR9; clear o9 g9 hr9 hn9 hl9 kR9))
      (try simp only [Exit.inBlock, Exit.then])
      have KZ := row_setT KR9.out (.slice none 0 0) (.bool true) (.slice A7 (made.length + 1) c7) (.slice A9 (made.length + 1) c9)
      refine bodyPost_ret (results_T Tryd.results27 _ _ (w.heap.size + 1) _ _ _ _ _ rfl rfl (by exact KZ)) rfl ?_
      have hM := made_setT w9 (w.heap.size + 1) (.slice none 0 0) (.bool true) (.slice A7 (made.length + 1) c7) (.slice A9 (made.length + 1) c9)
      have hW := below_setT (below_then HB.out BX9.out) (Nat.le_succ w.heap.size) (.slice none 0 0) (.bool true) (.slice A7 (made.length + 1) c7) (.slice A9 (made.length + 1) c9)
      have hX2 := (Array.getElem?_eq_some_iff.1 KR.out).1
      have h5 := BX.out.size
      have h7 := G7.out.size
      have hbs := idealL_length made.length msg
      have hp : PieceOk ((((w9.setCell ⟨w.heap.size + 1, 0, none⟩ (.slice none 0 0)).setCell ⟨w.heap.size + 1, 1, none⟩ (.bool true)).setCell ⟨w.heap.size + 1, 2, none⟩ (.slice A7 (made.length + 1) c7)).setCell ⟨w.heap.size + 1, 3, none⟩ (.slice A9 (made.length + 1) c9)) ⟨some ⟨g5, 0, none⟩, c5, idealL made.length msg⟩ := (P5.out.keep (below_then G7.out G9.out)).made hM (fun q off e _ => by simp only at e; cases e; omega)
      have hf : PieceFrom B ⟨some ⟨g5, 0, none⟩, c5, idealL made.length msg⟩ := fun q off e _ => by simp only at e; cases e; omega
      refine ⟨A7, c7, A9, c9, ⟨some ⟨g5, 0, none⟩, c5, idealL made.length msg⟩, by simp only [tV, Piece.val, hbs]; rfl, rfl, hp, hf, ⟨?_, ?_, ?_, ?_, ?_, ?_, ?_, N7.out, N9.out, ?_⟩, hW⟩
      · rw [List.map_append]
        exact ((R7.out.keep G9.out).made hM (by omega)).more (by omega)
      · rw [List.map_append]
        have := (R9.out.made hM (by omega)).more (C := B) (by omega)
        simpa only [List.map_cons, List.map_nil, Piece.val, hbs] using this
      · rw [List.map_append, codesL_app, HT0.out.codes, Nat.zero_add]; rfl
      · intro p hp'
        rcases List.mem_append.1 hp' with h | h
        · exact (HT0.out.ok p h).keep hW
        · rw [List.mem_singleton.1 h]; exact hp
      · intro p hp'
        rcases List.mem_append.1 hp' with h | h
        · exact HT0.out.from_ p h
        · rw [List.mem_singleton.1 h]; exact hf
      · simpa using hc7
      · simpa using hc9
      · simp; omega
end Go.Proofs.YtigocnaminkodaaDoor
