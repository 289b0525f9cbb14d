/- The contract of the statements' own 'known': the chapter's example, and an ideal Maker that has made one message. -/
import Derived.Test.YtigocnaminkodaaDoorMacWant
import Derived.Test.YtigocnaminkodaaDoorMacMade
import Derived.Handy
namespace Go.Proofs.YtigocnaminkodaaDoor
open Go.ChangeShapes Go.WideShapes Go.ChangeAt Go.RowKit
set_option linter.unusedVariables false

/-- []byte("..."): a new row, shut behind its length -/
theorem conv_lit (w : World) (cs : Array Value) (n : Nat) (hn : cs.size = n) : (convert 22 22 (.slice (some ⟨w.heap.size, 0, none⟩) n n)).run Tryd.prog (w.alloc (.cells cs 5)) = .ok (.slice (some ⟨w.heap.size, 0, none⟩) n n) (w.alloc (.cells cs 5 (n, n + 1))) := by
  subst hn
  exact Joins.run_convert_bytes_const_at (P := Tryd.prog) w 22 5 cs cs.size cs.size w.heap.size rfl Tryd.underlying22 Tryd.underlying5
/-- .. as a piece -/
theorem lit_piece (w : World) (cs : Array Value) (bs : List UInt8) (n : Nat) (hc : cs.toList = cellsOf bs) (hn : bs.length = n) (hm : n ≤ 1000) : PieceOk (w.alloc (.cells cs 5 (n, n + 1))) ⟨some ⟨w.heap.size, 0, none⟩, n, bs⟩ :=
  piece_lit _ _ cs 5 bs n (n, n + 1) (heap_alloc_new w _) (by rw [hc, List.take_of_length_le (by rw [cellsOf_length]; omega)]) (by omega) (by omega)
theorem lit_grew (w : World) (cs : Array Value) (e : TypeId) (fr : Nat × Nat) : Grew w (w.alloc (.cells cs e fr)) := below_one (Below.refl _ _) _

theorem any_made : ((posL [97] [[97]] 0).any fun j => decide (idealL j [97] = idealL 0 [97])) = true := by
  rw [show posL [97] [[97]] 0 = some 0 from rfl, Option.any_some]
  exact decide_eq_true rfl
theorem any_other (x : List UInt8) : ((posL [98] [[97]] 0).any fun j => decide (idealL j [98] = x)) = false := by
  rw [show posL [98] [[97]] 0 = none from rfl]
  rfl
set_option maxHeartbeats 2000000 in
theorem known3_any (w : World) (hT : Tabs w) : Calls Tryd.prog 19 #[] w fun e w' => e = .returned (.bool true) ∧ Below w.heap.size w w' := by
  have c1 := conv_lit w #[.int .u8 74, .int .u8 101, .int .u8 102, .int .u8 101] 4 rfl
  have p1 := lit_piece w #[.int .u8 74, .int .u8 101, .int .u8 102, .int .u8 101] jefeL 4 rfl rfl (by omega)
  have b1 := lit_grew w #[.int .u8 74, .int .u8 101, .int .u8 102, .int .u8 101] 5 (4, 4 + 1)
  generalize e1 : w.alloc (.cells #[.int .u8 74, .int .u8 101, .int .u8 102, .int .u8 101] 5 (4, 4 + 1)) = X1 at *
  have s1 : X1.heap.size = w.heap.size + 1 := by rw [← e1, alloc_size]
  have c2 := conv_lit X1 #[.int .u8 119, .int .u8 104, .int .u8 97, .int .u8 116, .int .u8 32, .int .u8 100, .int .u8 111, .int .u8 32, .int .u8 121, .int .u8 97, .int .u8 32, .int .u8 119, .int .u8 97, .int .u8 110, .int .u8 116, .int .u8 32, .int .u8 102, .int .u8 111, .int .u8 114, .int .u8 32, .int .u8 110, .int .u8 111, .int .u8 116, .int .u8 104, .int .u8 105, .int .u8 110, .int .u8 103, .int .u8 63] 28 rfl
  have p2 := lit_piece X1 #[.int .u8 119, .int .u8 104, .int .u8 97, .int .u8 116, .int .u8 32, .int .u8 100, .int .u8 111, .int .u8 32, .int .u8 121, .int .u8 97, .int .u8 32, .int .u8 119, .int .u8 97, .int .u8 110, .int .u8 116, .int .u8 32, .int .u8 102, .int .u8 111, .int .u8 114, .int .u8 32, .int .u8 110, .int .u8 111, .int .u8 116, .int .u8 104, .int .u8 105, .int .u8 110, .int .u8 103, .int .u8 63] wantL 28 rfl rfl (by omega)
  have b2 := lit_grew X1 #[.int .u8 119, .int .u8 104, .int .u8 97, .int .u8 116, .int .u8 32, .int .u8 100, .int .u8 111, .int .u8 32, .int .u8 121, .int .u8 97, .int .u8 32, .int .u8 119, .int .u8 97, .int .u8 110, .int .u8 116, .int .u8 32, .int .u8 102, .int .u8 111, .int .u8 114, .int .u8 32, .int .u8 110, .int .u8 111, .int .u8 116, .int .u8 104, .int .u8 105, .int .u8 110, .int .u8 103, .int .u8 63] 5 (28, 28 + 1)
  generalize e2 : X1.alloc (.cells #[.int .u8 119, .int .u8 104, .int .u8 97, .int .u8 116, .int .u8 32, .int .u8 100, .int .u8 111, .int .u8 32, .int .u8 121, .int .u8 97, .int .u8 32, .int .u8 119, .int .u8 97, .int .u8 110, .int .u8 116, .int .u8 32, .int .u8 102, .int .u8 111, .int .u8 114, .int .u8 32, .int .u8 110, .int .u8 111, .int .u8 116, .int .u8 104, .int .u8 105, .int .u8 110, .int .u8 103, .int .u8 63] 5 (28, 28 + 1)) = X2 at *
  have HC := hideIt (code_any _ jefeL 4 4 _ wantL 28 28 X2 (hT.keep (below_then b1 b2)) (p1.keep b2) rfl p2 rfl)
  rw [want_code] at HC
  have B2 := hideIt (below_then b1 b2)
  have HT := hideIt hT
  clear p1 p2 b1 b2 hT e1 e2
  rw [s1] at c2 HC
  go_enter Tryd.func19, Tryd.ntmps19
  go_wp2_with fail
  refine HC.out.mono ?_
  rintro e w3 ⟨v, rfl, ⟨g, hg, rfl, o3⟩, b3⟩
  have B3 := hideIt (below_then B2.out b3)
  have O3 := hideIt o3
  clear HC o3 b3 c1 c2 s1 B2
  go_wp2_with fail
  refine (ideal_any w3).mono ?_
  rintro e w4 ⟨rfl, hI, b4⟩
  unfold idealV
  have hsz := HT.out.size
  have hs3 := B3.out.size
  have hs4 := b4.size
  have c5 := conv_lit w4 #[.int .u8 97] 1 rfl
  have p5 := lit_piece w4 #[.int .u8 97] [97] 1 rfl rfl (by omega)
  have b5 := lit_grew w4 #[.int .u8 97] 5 (1, 1 + 1)
  generalize w4.alloc (.cells #[.int .u8 97] 5 (1, 1 + 1)) = X5 at *
  have t5 : Tabs X5 := HT.out.keep (below_then (below_then B3.out b4) b5)
  have HM := hideIt (idealNew_any (w3.heap.size + 1) w3.heap.size [] _ [97] 1 1 X5 (hI.keep b5) rfl (by simp) t5 (by omega) p5 (by intro q off hp _; cases hp; have := (Array.getElem?_eq_some_iff.1 hI.cell).1; omega) rfl)
  simp only [List.length_nil, List.nil_append] at HM
  have HL : Hid ((idealL 0 [97]).length = 32) := hideIt (idealL_length _ _)
  have HA := hideIt any_made
  generalize idealL 0 [97] = xl at *
  have O5 : Hid (X5.ownsRow _ 5 1 (.slice (some ⟨g, 0, none⟩) 32 32) 32 _) := hideIt (own_keep (own_keep O3.out (b4.block g (own_lt O3.out).2)) (b5.block g (Nat.lt_of_lt_of_le (own_lt O3.out).2 hs4)))
  have B5 := hideIt (below_then (below_then B3.out b4) b5)
  have hgl : Hid (g < w3.heap.size) := hideIt (own_lt O3.out).2
  have hs5 := hideIt b5.size
  replace hsz := hideIt hsz
  replace hs3 := hideIt hs3
  replace hs4 := hideIt hs4
  clear hI b4 p5 b5 t5 O3
  go_wp2_with fail
  refine HM.out.mono ?_
  rintro e w6 ⟨v, rfl, ⟨g6, hg6, rfl, o6⟩, hI6, m6⟩
  have B6 : Hid (Below w.heap.size w w6) := hideIt (B5.out.trans (m6.below hs3.out (by have := hs3.out; have := hs4.out; have := hs5.out; omega)))
  have O6 := own_keep O5.out (m6.block g (by have := hgl.out; have := hs4.out; have := hs5.out; omega) (by have := hgl.out; omega))
  have f0 : w6.cell? ⟨g, 0, none⟩ = some (.int .u8 91) := cell_told O6 0 0x5b (by decide)
  have f1 : w6.cell? ⟨g, 1, none⟩ = some (.int .u8 220) := cell_told O6 1 0xdc (by decide)
  have f31 : w6.cell? ⟨g, 31, none⟩ = some (.int .u8 67) := cell_told O6 31 0x43 (by decide)
  have c7 := conv_lit w6 #[.int .u8 97] 1 rfl
  have p7 := lit_piece w6 #[.int .u8 97] [97] 1 rfl rfl (by omega)
  have b7 := lit_grew w6 #[.int .u8 97] 5 (1, 1 + 1)
  generalize w6.alloc (.cells #[.int .u8 97] 5 (1, 1 + 1)) = X7 at *
  have q6 := own_piece o6 (by omega)
  have t7 : Tabs X7 := HT.out.keep (below_then B6.out b7)
  have HP := hideIt (idealProve_any (w3.heap.size + 1) w3.heap.size [[97]] _ _ [97] xl 1 1 32 32 X7 (hI6.keep b7) (by simp) t7 p7 rfl (q6.keep b7) HL.out true HA.out)
  have B7 := hideIt (below_then B6.out b7)
  have HI7 := hideIt (hI6.keep b7)
  have Q7 := hideIt (q6.keep b7)
  clear O6 o6 hI6 m6 hg6 B5 O5 HM p7 b7 q6 t7 c5
  go_wp2_with fail
  refine HP.out.mono ?_
  rintro e w8 ⟨rfl, b8⟩
  have c9 := conv_lit w8 #[.int .u8 98] 1 rfl
  have p9 := lit_piece w8 #[.int .u8 98] [98] 1 rfl rfl (by omega)
  have b9 := lit_grew w8 #[.int .u8 98] 5 (1, 1 + 1)
  generalize w8.alloc (.cells #[.int .u8 98] 5 (1, 1 + 1)) = X9 at *
  have HP9 := hideIt (idealProve_any (w3.heap.size + 1) w3.heap.size [[97]] _ _ [98] xl 1 1 32 32 X9 (HI7.out.keep (below_then b8 b9)) (by simp) (HT.out.keep (below_then (below_then B7.out b8) b9)) p9 rfl (Q7.out.keep (below_then b8 b9)) HL.out false (any_other xl))
  have B9 := hideIt (below_then (below_then B7.out b8) b9)
  clear p9 b9 b8 HP HI7 Q7 c7 f0 f1 f31
  go_wp2_with fail
  refine HP9.out.mono ?_
  rintro e w10 ⟨rfl, b10⟩
  have B10 := hideIt (below_then B9.out b10)
  clear HP9 b10 c9
  go_wp2_with fail
  go_ret
  exact ⟨rfl, B10.out⟩
theorem go_known3 : goFn Tryd.prog 19 = true := by kernel_rfl
end Go.Proofs.YtigocnaminkodaaDoor
