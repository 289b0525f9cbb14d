/- The contract of the reference's Text. -/
import Derived.Test.YtmhiclangfhhcaaRefHex
namespace Go.Proofs.Ytmhiclangfhhcaa
open Go.ChangeShapes Go.WideShapes Go.ChangeAt Go.RowKit
set_option linter.unusedVariables false
set_option linter.unusedSimpArgs false

theorem digit_cut (n : Nat) (h : n < 16) : (hexDigits.drop n).take (n + 1 - n) = [hexD n] := by
  have : ∀ k : Fin 16, (hexDigits.drop k.val).take (k.val + 1 - k.val) = [hexD k.val] := by decide
  exact this ⟨n, h⟩
theorem run_quo16 (x : Nat) (hx : x < 256) (w : World) : (binOp .quo 5 (.int .u8 (x : Int)) (.int .u8 16)).run Try.prog w = .ok (.int .u8 ((x / 16 : Nat) : Int)) w := by
  have h1 : Int.tdiv (x : Int) 16 = ((x / 16 : Nat) : Int) := by rw [Int.tdiv_eq_ediv_of_nonneg (by omega)]; omega
  have h2 : IntKind.u8.wrap ((x / 16 : Nat) : Int) = ((x / 16 : Nat) : Int) := by rw [IntKind.wrap_u8']; omega
  generalize x / 16 = y at *
  go_simp
theorem run_rem16 (x : Nat) (hx : x < 256) (w : World) : (binOp .rem 5 (.int .u8 (x : Int)) (.int .u8 16)).run Try.prog w = .ok (.int .u8 ((x % 16 : Nat) : Int)) w := by
  have h1 : Int.tmod (x : Int) 16 = ((x % 16 : Nat) : Int) := by rw [Int.tmod_eq_emod_of_nonneg (by omega)]; omega
  have h2 : IntKind.u8.wrap ((x % 16 : Nat) : Int) = ((x % 16 : Nat) : Int) := by rw [IntKind.wrap_u8']; omega
  generalize x % 16 = y at *
  go_simp
theorem run_add1 (x : Nat) (hx : x < 255) (w : World) : (binOp .add 5 (.int .u8 (x : Int)) (.int .u8 1)).run Try.prog w = .ok (.int .u8 ((x + 1 : Nat) : Int)) w := by
  have h2 : IntKind.u8.wrap ((x : Int) + 1) = (x : Int) + 1 := by rw [IntKind.wrap_u8']; omega
  go_simp
set_option maxHeartbeats 1000000 in
theorem reftext_any (A : Option Addr) (bs : List UInt8) (n c : Nat) (w : World) (hp : PieceOk w ⟨A, c, bs⟩) (hn : bs.length = n) (hm : n ≤ 10000) :
    Calls Try.prog 10 #[.slice A n c] w fun e w' => e = .returned (.string (strOf (hexL bs))) ∧ Below w.heap.size w w' := by
  have HP := hideIt hp
  have HN := hideIt hn
  clear hp hn
  go_enter Try.func10, Try.ntmps10
  go_wp2
  go_loopw [3, 4] (fun s i wr => ∃ j : Nat, j ≤ n ∧ i = .int .i64 (j : Int) ∧ s = .string (strOf (hexL (bs.take j))) ∧ Below w.heap.size w wr) (fun _ i _ => n - (intOf i).toNat)
  case atStart => exact ⟨0, by omega, rfl, rfl, Below.refl _ _⟩
  case round =>
    obtain ⟨j, hj, rfl, rfl, hb⟩ := hrel
    by_cases hlt : j < n
    · have hjb : j < bs.length := by have := HN.out; omega
      obtain ⟨b, off, rfl, hbl, hcells⟩ := HP.out.bytes (by show 0 < bs.length; omega)
      have hcell : wr.cell? ⟨b, off + j, none⟩ = some (.int .u8 ((bs[j]).toNat : Int)) := (hb.cell hbl).trans (hcells j hjb)
      have hbr : b < wr.heap.size := Nat.lt_of_lt_of_le hbl hb.size
      have hx : (bs[j]).toNat < 256 := (bs[j]).toNat_lt
      have HT := hideIt (hexL_take bs j hjb)
      have HL : Hid ((hexL (bs.take j)).length = 2 * j) := hideIt (by rw [hexL_length, List.length_take]; omega)
      have HB := hideIt hb
      have hlt' : (j : Int) < (n : Int) := by omega
      generalize (bs[j]).toNat = x at *
      clear hcells hbl hb hjb
      go_wp2_with fail
      refine region_inv [Fact.str (hexL (bs.take j)), Fact.is (.slice (some ⟨b, off, none⟩) n c), Fact.is (.int .i64 (j : Int)), Fact.is (.pointer (some ⟨b, off + j, none⟩)), Fact.is (.int .u8 (x : Int)), Fact.is (.int .u8 ((x / 16 : Nat) : Int)), Fact.is (.slice (some ⟨b, off, none⟩) n c), Fact.is (.int .i64 (j : Int)), Fact.is (.pointer (some ⟨b, off + j, none⟩)), Fact.is (.int .u8 (x : Int)), Fact.is (.int .u8 ((x / 16 : Nat) : Int)), Fact.is (.int .u8 ((x / 16 + 1 : Nat) : Int)), Fact.str ([hexD (x / 16)]), Fact.str (hexL (bs.take j) ++ [hexD (x / 16)]), Fact.is (.slice (some ⟨b, off, none⟩) n c), Fact.is (.int .i64 (j : Int)), Fact.is (.pointer (some ⟨b, off + j, none⟩)), Fact.is (.int .u8 (x : Int)), Fact.is (.int .u8 ((x % 16 : Nat) : Int)), Fact.is (.slice (some ⟨b, off, none⟩) n c), Fact.is (.int .i64 (j : Int)), Fact.is (.pointer (some ⟨b, off + j, none⟩)), Fact.is (.int .u8 (x : Int)), Fact.is (.int .u8 ((x % 16 : Nat) : Int)), Fact.is (.int .u8 ((x % 16 + 1 : Nat) : Int)), Fact.str ([hexD (x % 16)]), Fact.str (hexL (bs.take (j + 1))), Fact.str (hexL (bs.take (j + 1)))] (by kernel_rfl) (by kernel_rfl) ⟨fun a w1 m => ?_, fun a w1 m => ?_, fun a w1 m => ?_, fun a w1 m => ?_, fun a w1 m => ?_, fun a w1 m => ?_, fun a w1 m => ?_, fun a w1 m => ?_, fun a w1 m => ?_, fun a w1 m => ?_, fun a w1 m => ?_, fun a w1 m => ?_, fun a w1 m => ?_, fun a w1 m => ?_, fun a w1 m => ?_, fun a w1 m => ?_, fun a w1 m => ?_, fun a w1 m => ?_, fun a w1 m => ?_, fun a w1 m => ?_, fun a w1 m => ?_, fun a w1 m => ?_, fun a w1 m => ?_, fun a w1 m => ?_, fun a w1 m => ?_, fun a w1 m => ?_, fun a w1 m => ?_, fun a w1 m => ?_, trivial⟩ ?_
      · exact ok_move (wanted_none rfl) (.tmp 3) rfl (m.old 3 rfl)
      · exact ok_move (wanted_none rfl) (.tmp 0) rfl (m.old 0 rfl)
      · exact ok_move (wanted_none rfl) (.tmp 4) rfl (m.old 4 rfl)
      · exact ok_index (wanted_none rfl) (.tmp 12) (.tmp 13) rfl b off n c j (m.has 1 12 rfl rfl) (m.has 2 13 rfl rfl) hlt
      · exact ok_loadb (wanted_none rfl) (.tmp 14) rfl _ _ (m.has 3 14 rfl rfl) ((m.grew.cell (p := ⟨b, off + j, none⟩) hbr).trans hcell)
      · exact ok_bin (wanted_none rfl) _ _ _ (.tmp 15) _ rfl _ _ _ (m.has 4 15 rfl rfl) rfl rfl (run_quo16 x hx)
      · exact ok_move (wanted_none rfl) (.tmp 0) rfl (m.old 0 rfl)
      · exact ok_move (wanted_none rfl) (.tmp 4) rfl (m.old 4 rfl)
      · exact ok_index (wanted_none rfl) (.tmp 17) (.tmp 18) rfl b off n c j (m.has 6 17 rfl rfl) (m.has 7 18 rfl rfl) hlt
      · exact ok_loadb (wanted_none rfl) (.tmp 19) rfl _ _ (m.has 8 19 rfl rfl) ((m.grew.cell (p := ⟨b, off + j, none⟩) hbr).trans hcell)
      · exact ok_bin (wanted_none rfl) _ _ _ (.tmp 20) _ rfl _ _ _ (m.has 9 20 rfl rfl) rfl rfl (run_quo16 x hx)
      · exact ok_bin (wanted_none rfl) _ _ _ (.tmp 21) _ rfl _ _ _ (m.has 10 21 rfl rfl) rfl rfl (run_add1 (x / 16) (by omega))
      · exact ok_strMid (wanted_none rfl) _ (.tmp 16) (.tmp 22) rfl hexDigits .u8 .u8 (x / 16) (x / 16 + 1) rfl (m.has 5 16 rfl rfl) (m.has 11 22 rfl rfl) (by omega) (by show _ ≤ 16; omega) _ (digit_cut _ (by omega))
      · exact ok_strcat (wanted_none rfl) (.tmp 11) (.tmp 23) _ rfl _ _ _ (m.has 0 11 rfl rfl) (m.has 12 23 rfl rfl) (by rw [HL.out]; simp; omega) rfl
      · exact ok_move (wanted_none rfl) (.tmp 0) rfl (m.old 0 rfl)
      · exact ok_move (wanted_none rfl) (.tmp 4) rfl (m.old 4 rfl)
      · exact ok_index (wanted_none rfl) (.tmp 25) (.tmp 26) rfl b off n c j (m.has 14 25 rfl rfl) (m.has 15 26 rfl rfl) hlt
      · exact ok_loadb (wanted_none rfl) (.tmp 27) rfl _ _ (m.has 16 27 rfl rfl) ((m.grew.cell (p := ⟨b, off + j, none⟩) hbr).trans hcell)
      · exact ok_bin (wanted_none rfl) _ _ _ (.tmp 28) _ rfl _ _ _ (m.has 17 28 rfl rfl) rfl rfl (run_rem16 x hx)
      · exact ok_move (wanted_none rfl) (.tmp 0) rfl (m.old 0 rfl)
      · exact ok_move (wanted_none rfl) (.tmp 4) rfl (m.old 4 rfl)
      · exact ok_index (wanted_none rfl) (.tmp 30) (.tmp 31) rfl b off n c j (m.has 19 30 rfl rfl) (m.has 20 31 rfl rfl) hlt
      · exact ok_loadb (wanted_none rfl) (.tmp 32) rfl _ _ (m.has 21 32 rfl rfl) ((m.grew.cell (p := ⟨b, off + j, none⟩) hbr).trans hcell)
      · exact ok_bin (wanted_none rfl) _ _ _ (.tmp 33) _ rfl _ _ _ (m.has 22 33 rfl rfl) rfl rfl (run_rem16 x hx)
      · exact ok_bin (wanted_none rfl) _ _ _ (.tmp 34) _ rfl _ _ _ (m.has 23 34 rfl rfl) rfl rfl (run_add1 (x % 16) (by omega))
      · exact ok_strMid (wanted_none rfl) _ (.tmp 29) (.tmp 35) rfl hexDigits .u8 .u8 (x % 16) (x % 16 + 1) rfl (m.has 18 29 rfl rfl) (m.has 24 35 rfl rfl) (by omega) (by show _ ≤ 16; omega) _ (digit_cut _ (by omega))
      · exact ok_strcat (wanted_none rfl) (.tmp 24) (.tmp 36) _ rfl _ _ _ (m.has 13 24 rfl rfl) (m.has 25 36 rfl rfl) (by rw [List.length_append, HL.out]; simp; omega) (by rw [HT.out]; simp)
      · exact ok_assign (wanted_none rfl) (.tmp 37) rfl (m.has 26 37 rfl rfl)
      · intro f w6 hg6 hf
        have h27 : f 27 = .string (strOf (hexL (bs.take (j + 1)))) := hf 27 (by decide)
        have B6 := hideIt (below_then HB.out hg6)
        clear hf hg6 HB HL HT
        simp only [List.take, List.drop, putAll, Act.put, List.setIfInBounds_toArray, List.set_cons_succ, List.set_cons_zero]
        rw [h27]
        go_wp2_with fail
        go_roundw
        case rel => exact ⟨j + 1, by omega, by go_num, rfl, B6.out⟩
        case measure => simp [intOf]; omega
    · obtain rfl : j = n := by omega
      have ht : bs.take j = bs := List.take_of_length_le (by have := HN.out; omega)
      rw [ht]
      have HB := hideIt hb
      have hlt' : ¬ (j : Int) < (j : Int) := by omega
      clear hb ht
      go_wp2_with fail
      go_ret
      exact ⟨rfl, HB.out⟩
theorem go_reftext : goFn Try.prog 10 = true := by kernel_rfl
end Go.Proofs.Ytmhiclangfhhcaa
