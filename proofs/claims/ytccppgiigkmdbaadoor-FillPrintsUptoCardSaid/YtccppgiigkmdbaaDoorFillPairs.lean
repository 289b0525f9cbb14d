/- wicketmanlaw07.Pairs: the pairs that choices say. -/
import Derived.Test.YtccppgiigkmdbaaDoorPairFacts
import Derived.Test.YtccppgiigkmdbaaDoorPickText
import Derived.Test.YtccppgiigkmdbaaDoorCmp
import Derived.Test.YtccppgiigkmdbaaDoorStrRun
import Derived.Deep.Cut
import Derived.Handy
namespace Go.Proofs.YtccppgiigkmdbaaDoor
open Go.ChangeShapes Go.WideShapes Go.ChangeAt Go.RowKit
set_option linter.unusedVariables false
set_option linter.unusedSimpArgs false

theorem getD_at (l : List UInt8) (i : Nat) (h : i < l.length) : l.getD i 0 = l[i] := by simp [List.getD, h]
def pairC (bs : List UInt8) (i : Nat) : PairL := (110 :: textL [bs.getD (2 * i) 0], textL [bs.getD (2 * i + 1) 0, bs.getD (2 * i) 0])
def pairsN (bs : List UInt8) (j : Nat) : List PairL := (List.range j).map (pairC bs)
def pairsL (bs : List UInt8) : List PairL := pairsN bs (min 10 (bs.length / 2))
theorem pairsN_succ (bs : List UInt8) (j : Nat) : pairsN bs (j + 1) = pairsN bs j ++ [pairC bs j] := by unfold pairsN; rw [List.range_succ, List.map_append]; rfl
theorem pairsN_len (bs : List UInt8) (j : Nat) : (pairsN bs j).length = j := by simp [pairsN]
theorem pairsL_len (bs : List UInt8) : (pairsL bs).length ≤ 10 := by unfold pairsL; rw [pairsN_len]; omega
theorem text_len1 (b : UInt8) : (textL [b]).length ≤ 4 := by
  have := flat_len [b]
  unfold textL; simpa using this
theorem text_len2 (b d : UInt8) : (textL [b, d]).length ≤ 8 := by
  have := flat_len [b, d]
  unfold textL; simpa using this
theorem pairsL_mem (bs : List UInt8) : ∀ x ∈ pairsL bs, x.1 ≠ [] ∧ x.1.length ≤ 5 ∧ x.2.length ≤ 8 := by
  intro x hx
  obtain ⟨i, _, rfl⟩ := List.mem_map.1 hx
  exact ⟨by simp [pairC], by have := text_len1 (bs.getD (2 * i) 0); simp only [pairC, List.length_cons]; omega, text_len2 _ _⟩
set_option maxHeartbeats 4000000 in
set_option maxRecDepth 8000 in
theorem pairs_any (A : Option Addr) (bs : List UInt8) (n c : Nat) (w : World) (hp : PieceOk w ⟨A, c, bs⟩) (hn : bs.length = n) (hm : n ≤ 140737488355328) :
    Calls Tryd.prog 16 #[.slice A n c] w fun e w' => ∃ v, e = .returned v ∧ POwn w.heap.size v (pairsL bs) w' ∧ Below w.heap.size w w' := by
  have HP := hideIt hp
  have HN := hideIt hn
  clear hp hn
  go_enter Tryd.func16, Tryd.ntmps16
  go_wp2
  go_loopw [3, 4] (fun v i wr => ∃ j : Nat, 2 * j ≤ n ∧ j ≤ 10 ∧ i = .int .i64 ((2 * j : Nat) : Int) ∧ POwn w.heap.size v (pairsN bs j) wr ∧ Below w.heap.size w wr) (fun _ i _ => n - (intOf i).toNat)
  case atStart => exact ⟨0, by omega, by omega, rfl, POwn.nil _ _, Below.refl _ _⟩
  case round =>
    obtain ⟨j, hj, hj10, rfl, ho, hb⟩ := hrel
    have HO := hideIt ho
    have HB := hideIt hb
    clear ho hb
    have HE : Hid (2 * j = 2 * j) := hideIt rfl
    obtain ⟨i, hi2⟩ : ∃ i, 2 * j = i := ⟨_, rfl⟩
    have HI := hideIt hi2
    rw [hi2] at hj ⊢
    have hi20 : i ≤ 20 := by omega
    clear hi2 HE
    have hw1 : IntKind.i64.wrap ((i : Int) + 1) = (i : Int) + 1 := IntWalk.i64_in _ (by omega)
    by_cases hlt : i + 1 < n
    · have hlt' : (i : Int) + 1 < (n : Int) := by omega
      by_cases h20 : i < 20
      · have h20' : (i : Int) < 20 := by omega
        have hib : i + 1 < bs.length := by have := HN.out; omega
        obtain ⟨b, off, rfl, hbl, hcells⟩ := HP.out.bytes (by show 0 < bs.length; omega)
        obtain ⟨c0, hc0⟩ : ∃ x, bs.getD i 0 = x := ⟨_, rfl⟩
        obtain ⟨c1, hc1⟩ : ∃ x, bs.getD (i + 1) 0 = x := ⟨_, rfl⟩
        have k0 : wr.cell? ⟨b, off + i, none⟩ = some (.int .u8 (c0.toNat : Int)) := by
          rw [← hc0, getD_at _ _ (by omega)]; exact (HB.out.cell hbl).trans (hcells i (by show i < bs.length; omega))
        have k1 : wr.cell? ⟨b, off + (i + 1), none⟩ = some (.int .u8 (c1.toNat : Int)) := by
          rw [← hc1, getD_at _ _ hib]; exact (HB.out.cell hbl).trans (hcells (i + 1) hib)
        have EP : Hid (pairC bs j = (110 :: textL [c0], textL [c1, c0])) := hideIt (by rw [pairC, HI.out, hc0, hc1])
        have HT1 : Hid (∀ W, Calls Tryd.prog 14 #[.slice (some ⟨W.heap.size, 0, none⟩) 1 1] (W.alloc (.cells #[.int .u8 (c0.toNat : Int)] 5)) fun e w' => e = .returned (.string (strOf (textL [c0]))) ∧ Below W.heap.size W w') := hideIt fun W =>
          (pick_any (some ⟨W.heap.size, 0, none⟩) [c0] 1 1 _ (piece_lit _ W.heap.size #[.int .u8 (c0.toNat : Int)] 5 [c0] 1 (0, 0) (heap_alloc_new W _) rfl (by simp) (by simp)) rfl (by omega)).mono fun e w' h => ⟨h.1, below_then (below_one (Below.refl _ _) _) h.2⟩
        have HT2 : Hid (∀ A' c' W, PieceOk W ⟨A', c', [c1, c0]⟩ → Calls Tryd.prog 14 #[.slice A' 2 c'] W fun e w' => e = .returned (.string (strOf (textL [c1, c0]))) ∧ Below W.heap.size W w') := hideIt fun A' c' W h => pick_any A' [c1, c0] 2 c' W h rfl (by omega)
        have z0 : (strOf (textL [c0])).size ≤ 4 := by rw [strOf_size]; exact text_len1 c0
        have ES : Hid (⟨#[110]⟩ ++ strOf (textL [c0]) = strOf (110 :: textL [c0])) := hideIt (by rw [show (⟨#[110]⟩ : ByteArray) = strOf [110] from rfl, strOf_append]; rfl)
        have hbr : b < wr.heap.size := Nat.lt_of_lt_of_le hbl HB.out.size
        have HBL := hideIt hbr
        have K0 := hideIt k0
        have K1 := hideIt k1
        clear hcells hbl hc0 hc1 hib k1 hbr
        generalize strOf (textL [c0]) = S0 at *
        go_wp2_with fail
        refine (HT1.out _).mono ?_
        rintro e w2 ⟨rfl, b2⟩
        have HB2 := hideIt (below_then HB.out b2)
        have HO2 := hideIt (HO.out.keep b2)
        have HBR : Hid (b < w2.heap.size) := hideIt (Nat.lt_of_lt_of_le HBL.out b2.size)
        have HC0 : Hid (w2.cell? ⟨b, off + i, none⟩ = some (.int .u8 (c0.toNat : Int))) := hideIt ((b2.cell (p := ⟨b, off + i, none⟩) HBL.out).trans K0.out)
        have HC1 : Hid (w2.cell? ⟨b, off + (i + 1), none⟩ = some (.int .u8 (c1.toNat : Int))) := hideIt ((b2.cell (p := ⟨b, off + (i + 1), none⟩) HBL.out).trans K1.out)
        clear b2 k0 K0 K1
        go_upto_region 6 with fail
        rw [ES.out]
        clear ES HT1 z0
        generalize 110 :: textL [c0] = nm at *
        generalize textL [c1, c0] = vl at *
        refine region_tail 15 [Fact.is (u3), Fact.str (nm), Fact.is (.slice (some ⟨b, off, none⟩) n c), Fact.is (.int .i64 ((i : Nat) : Int)), Fact.is (.int .i64 ((i + 1 : Nat) : Int)), Fact.is (.pointer (some ⟨b, off + (i + 1), none⟩)), Fact.is (.int .u8 (c1.toNat : Int)), Fact.is (.slice (some ⟨b, off, none⟩) n c), Fact.is (.int .i64 ((i : Nat) : Int)), Fact.is (.pointer (some ⟨b, off + i, none⟩)), Fact.is (.int .u8 (c0.toNat : Int)), Fact.piece ([c1, c0]), Fact.str (vl), Fact.is (.agg #[.string (strOf nm), .string (strOf vl)]), Fact.prs [(nm, vl)]] (by kernel_rfl) (by kernel_rfl) (by kernel_rfl) ⟨fun a w1 m => ?_, fun a w1 m => ?_, fun a w1 m => ?_, fun a w1 m => ?_, fun a w1 m => ?_, fun a w1 m => ?_, fun a w1 m => ?_, fun a w1 m => ?_, fun a w1 m => ?_, fun a w1 m => ?_, fun a w1 m => ?_, fun a w1 m => ?_, fun a w1 m => ?_, fun a w1 m => ?_, fun a w1 m => ?_, trivial⟩ ?_
        · exact ok_move (wanted_none rfl) (.tmp 3) rfl (m.old 3 rfl)
        · exact ok_move (wanted_none rfl) (.tmp 5) rfl (m.old 5 rfl)
        · exact ok_move (wanted_none rfl) (.tmp 0) rfl (m.old 0 rfl)
        · exact ok_move (wanted_none rfl) (.tmp 4) rfl (m.old 4 rfl)
        · exact ok_bin (wanted_none rfl) _ _ _ (.tmp 27) _ rfl _ _ _ (m.has 3 27 rfl rfl) (rfl) rfl (run_add64 i 1 (by omega))
        · exact ok_index (wanted_none rfl) (.tmp 26) (.tmp 28) rfl b off n c (i + 1) (m.has 2 26 rfl rfl) (m.has 4 28 rfl rfl) hlt
        · exact ok_loadb (wanted_none rfl) (.tmp 29) rfl _ _ (m.has 5 29 rfl rfl) ((m.grew.cell (p := ⟨b, off + (i + 1), none⟩) HBR.out).trans HC1.out)
        · exact ok_move (wanted_none rfl) (.tmp 0) rfl (m.old 0 rfl)
        · exact ok_move (wanted_none rfl) (.tmp 4) rfl (m.old 4 rfl)
        · exact ok_index (wanted_none rfl) (.tmp 31) (.tmp 32) rfl b off n c i (m.has 7 31 rfl rfl) (m.has 8 32 rfl rfl) (by omega)
        · exact ok_loadb (wanted_none rfl) (.tmp 33) rfl _ _ (m.has 9 33 rfl rfl) ((m.grew.cell (p := ⟨b, off + i, none⟩) HBR.out).trans HC0.out)
        · exact ok_buildB2 (wanted_none rfl) (.tmp 30) (.tmp 34) rfl _ _ (m.has 6 30 rfl rfl) (m.has 10 34 rfl rfl)
        · obtain ⟨A', c', h1', h2'⟩ := m.has 11 35 rfl rfl; exact ok_fn (wanted_none rfl) _ _ _ rfl _ (map1 h1') go_pick (HT2.out A' c' w1 h2') (fun e w' ⟨h1, h2⟩ => ⟨_, h1, rfl, h2⟩)
        · exact ok_structP (wanted_none rfl) (.tmp 25) (.tmp 36) rfl (strOf nm) (strOf vl) (m.has 1 25 rfl rfl) (m.has 12 36 rfl rfl)
        · exact ok_rowPair (wanted_none rfl) (.tmp 37) rfl (nm, vl) (m.has 13 37 rfl rfl)
        intro f w6 hg6 hf
        have f0 : f 0 = u3 := hf 0 (by decide)
        obtain ⟨A7, c7, h7, l7, m7, n7, p7⟩ := (show PairsV (f 14) [(nm, vl)] w6 from hf 14 (by decide)).form
        have o6 := HO2.out.keep hg6
        have b6 := below_then HB2.out hg6
        simp only [List.take, List.drop, putAll, Act.put, List.setIfInBounds_toArray, List.set_cons_succ, List.set_cons_zero]
        refine wpList_appP rfl (.tmp 24) (.tmp 38) rfl w.heap.size u3 (pairsN bs j) f0 o6 A7 c7 [(nm, vl)] h7 n7 p7 (by rw [pairsN_len]; simp; omega) b6.size ?_
        intro v7 w7 o7 g7
        have O7 : Hid (POwn w.heap.size v7 (pairsN bs (j + 1)) w7) := hideIt (by rw [pairsN_succ, EP.out]; exact o7)
        have B7 : Hid (Below w.heap.size w w7) := hideIt (b6.grown g7 b6.size (fun k hk => (o6.lt k hk).1))
        have hw2 : IntKind.i64.wrap ((i : Int) + 2) = (i : Int) + 2 := IntWalk.i64_in _ (by omega)
        clear o7 g7 b6 o6 p7 hf hg6
        go_wp2_with fail
        go_roundw
        case rel => exact ⟨j + 1, by have := HI.out; omega, by have := HI.out; omega, by have := HI.out; congr 1; omega, O7.out, B7.out⟩
        case measure => simp [intOf]; omega
      · obtain rfl : i = 20 := by omega
        have h20' : ¬ (20 : Int) < 20 := by omega
        have E : Hid (pairsN bs j = pairsL bs) := hideIt (by unfold pairsL; congr 1; have := HI.out; have := HN.out; omega)
        go_wp2_with fail
        go_ret
        exact ⟨_, rfl, by rw [← E.out]; exact HO.out, HB.out⟩
    · have hlt' : ¬ (i : Int) + 1 < (n : Int) := by omega
      have E : Hid (pairsN bs j = pairsL bs) := hideIt (by unfold pairsL; congr 1; have := HI.out; have := HN.out; omega)
      go_wp2_with fail
      go_ret
      exact ⟨_, rfl, by rw [← E.out]; exact HO.out, HB.out⟩
theorem go_pairs : goFn Tryd.prog 16 = true := by kernel_rfl
end Go.Proofs.YtccppgiigkmdbaaDoor
