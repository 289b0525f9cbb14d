/- The contract of hexa.Text: bytes as digits. -/
import Derived.Test.YtmhiclangfhhcaaStrFacts
import Derived.Test.YtmhiclangfhhcaaHexPlain
import Derived.Laws.BitsAllLaws
namespace Go.Proofs.Ytmhiclangfhhcaa
open Go.ChangeShapes Go.WideShapes Go.ChangeAt Go.RowKit
set_option linter.unusedVariables false
set_option linter.unusedSimpArgs false

def hexDigits : List UInt8 := [48, 49, 50, 51, 52, 53, 54, 55, 56, 57, 97, 98, 99, 100, 101, 102]
theorem digit_at (n : Nat) (h : n < 16) : hexDigits[n]? = some (hexD n) := by
  have : ∀ k : Fin 16, hexDigits[k.val]? = some (hexD k.val) := by decide
  exact this ⟨n, h⟩
theorem run_shr4 (x : Nat) (w : World) : (binOp .shr 5 (.int .u8 (x : Int)) (.int .u64 4)).run Try.prog w = .ok (.int .u8 ((x / 16 : Nat) : Int)) w := by
  go_simp
theorem run_and15 (x : Nat) (hx : x < 256) (w : World) : (binOp .and 5 (.int .u8 (x : Int)) (.int .u8 15)).run Try.prog w = .ok (.int .u8 ((x % 16 : Nat) : Int)) w := by
  have e : bits .and .u8 (x : Int) 15 = ((x % 16 : Nat) : Int) := by
    have := u8_and_nat x 15 hx (by omega)
    rw [show ((15 : Nat) : Int) = 15 from rfl] at this
    rw [this, show (15 : Nat) = 2 ^ 4 - 1 from rfl, Nat.and_two_pow_sub_one_eq_mod]
  go_simp
set_option maxHeartbeats 1000000 in
theorem text_any (A : Option Addr) (bs : List UInt8) (n c : Nat) (w : World) (hp : PieceOk w ⟨A, c, bs⟩) (hn : bs.length = n) (hm : n ≤ 1000000) :
    Calls Try.prog 13 #[.slice A n c] w fun e w' => e = .returned (.string (strOf (hexL bs))) ∧ Below w.heap.size w w' := by
  have h2 : IntKind.i64.wrap (2 * (n : Int)) = 2 * (n : Int) := IntWalk.i64_in _ (by omega)
  have HP := hideIt hp
  have HN := hideIt hn
  clear hp hn
  go_enter Try.func13, Try.ntmps13
  go_wp2_with (at_make; refine wpList_makeCap rfl (.const (.int .i64 0)) (.tmp 8) rfl 0 (2 * n) 0 (2 * n) rfl rfl rfl (by omega) (by omega) (by omega) ?_; intro w1 hown hg)
  have hb1 := below_made hg
  have ho0 : w1.ownsRow w.heap.size 5 1 (.slice (some ⟨w.heap.size, 0, none⟩) (2 * 0) (2 * n)) (2 * 0) (cellsOf (hexL (bs.take 0))) := hown
  clear hown hg
  go_loopw [3, 12] (fun s i wr => ∃ j : Nat, j ≤ n ∧ i = .int .i64 (j : Int) ∧ s = .slice (some ⟨w.heap.size, 0, none⟩) (2 * j) (2 * n) ∧ wr.ownsRow w.heap.size 5 1 (.slice (some ⟨w.heap.size, 0, none⟩) (2 * j) (2 * n)) (2 * j) (cellsOf (hexL (bs.take j))) ∧ Below w.heap.size w wr) (fun _ i _ => n - (intOf i).toNat)
  case atStart => exact ⟨0, by omega, rfl, rfl, ho0, hb1⟩
  case round =>
    clear ho0 hb1
    obtain ⟨j, hj, rfl, rfl, ho, hb⟩ := hrel
    by_cases hlt : j < n
    · have hjb : j < bs.length := by have := HN.out; omega
      obtain ⟨b, off, rfl, hbl, hcells⟩ := HP.out.bytes (by show 0 < bs.length; omega)
      have hcell : wr.cell? ⟨b, off + j, none⟩ = some (.int .u8 ((bs[j]).toNat : Int)) := (hb.cell hbl).trans (hcells j hjb)
      have hx := (bs[j]).toNat_lt
      have HT := hideIt (hexL_take bs j hjb)
      have HO := hideIt ho
      have HB := hideIt hb
      have hlt' : (j : Int) < (n : Int) := by omega
      generalize (bs[j]).toNat = x at *
      clear hcells hbl ho hb hjb
      go_wp2_with fail
      refine region_tail 8 [Fact.is (.slice (some ⟨w.heap.size, 0, none⟩) (2 * j) (2 * n)), Fact.is (.int .u8 (x : Int)), Fact.is (.int .u8 ((x / 16 : Nat) : Int)), Fact.is (.int .u8 ((hexD (x / 16)).toNat : Int)), Fact.is (.int .u8 (x : Int)), Fact.is (.int .u8 ((x % 16 : Nat) : Int)), Fact.is (.int .u8 ((hexD (x % 16)).toNat : Int)), Fact.piece [hexD (x / 16), hexD (x % 16)]] (by kernel_rfl) (by kernel_rfl) (by kernel_rfl) ⟨fun a w1 m => ?_, fun a w1 m => ?_, fun a w1 m => ?_, fun a w1 m => ?_, fun a w1 m => ?_, fun a w1 m => ?_, fun a w1 m => ?_, fun a w1 m => ?_, trivial⟩ ?_
      · exact ok_move (wanted_none rfl) (.tmp 3) rfl (m.old 3 rfl)
      · exact ok_move (wanted_none rfl) (.tmp 5) rfl (m.old 5 rfl)
      · exact ok_bin (wanted_none rfl) _ _ _ (.tmp 17) _ rfl _ _ _ (m.has 1 17 rfl rfl) rfl rfl (run_shr4 x)
      · exact ok_strindex (wanted_none rfl) _ (.tmp 18) rfl hexDigits .u8 (x / 16) rfl (m.has 2 18 rfl rfl) _ (digit_at _ (by omega))
      · exact ok_move (wanted_none rfl) (.tmp 5) rfl (m.old 5 rfl)
      · exact ok_bin (wanted_none rfl) _ _ _ (.tmp 20) _ rfl _ _ _ (m.has 4 20 rfl rfl) rfl rfl (run_and15 x (by omega))
      · exact ok_strindex (wanted_none rfl) _ (.tmp 21) rfl hexDigits .u8 (x % 16) rfl (m.has 5 21 rfl rfl) _ (digit_at _ (by omega))
      · exact ok_buildB2 (wanted_none rfl) (.tmp 19) (.tmp 22) rfl _ _ (m.has 3 19 rfl rfl) (m.has 6 22 rfl rfl)
      intro f w6 hg6 hf
      have h0 : f 0 = .slice (some ⟨w.heap.size, 0, none⟩) (2 * j) (2 * n) := hf 0 (by decide)
      obtain ⟨A7, c7, h7, p7⟩ := hf 7 (by decide)
      have o6 := own_keep HO.out (hg6.block w.heap.size (own_lt HO.out).2)
      have b6 := below_then HB.out hg6
      simp only [List.take, List.drop, putAll, Act.put, List.setIfInBounds_toArray, List.set_cons_succ, List.set_cons_zero]
      refine wpList_fit rfl (.tmp 16) (.tmp 23) rfl w.heap.size w.heap.size (2 * j) (2 * n) (hexL (bs.take j)) h0 o6 A7 2 c7 w6.heap.size _ h7 rfl p7.nil p7.bytes (by omega) ?_
      intro w7 o7 g7
      have O7 : Hid (w7.ownsRow w.heap.size 5 1 (.slice (some ⟨w.heap.size, 0, none⟩) (2 * (j + 1)) (2 * n)) (2 * (j + 1)) (cellsOf (hexL (bs.take (j + 1))))) := hideIt (by rw [HT.out]; exact o7)
      have B7 : Hid (Below w.heap.size w w7) := hideIt (b6.grown g7 b6.size (by intro k hk; cases hk; exact Nat.le_refl _))
      clear o7 g7 b6 o6 p7 hf hg6
      go_wp2_with fail
      go_roundw
      case rel => exact ⟨j + 1, by omega, by go_num, by rw [Nat.mul_add], O7.out, B7.out⟩
      case measure => simp [intOf]; omega
    · obtain rfl : j = n := by omega
      have ht : bs.take j = bs := List.take_of_length_le (by have := HN.out; omega)
      rw [ht] at ho
      obtain ⟨_, _, e, _, hpo⟩ := own_pieceAny ho (by omega)
      cases e
      have hcv := conv_bytes _ (hexL bs) (2 * j) (2 * j) _ wr hpo.bytes (by rw [hexL_length, HN.out])
      have HB := hideIt hb
      clear hpo ho hb ht
      have hlt' : ¬ (j : Int) < (j : Int) := by omega
      go_wp2_with fail
      go_ret
      exact ⟨rfl, HB.out⟩
theorem go_text : goFn Try.prog 13 = true := by kernel_rfl
end Go.Proofs.Ytmhiclangfhhcaa
