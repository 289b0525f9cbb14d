/- Contract of wicketmanlaw09.Raw: some bytes, not many. -/
import Derived.Test.YtbojigimldfghaaDoorStrBytes
import Derived.Test.YtbojigimldfghaaDoorCmp
import Derived.Test.YtbojigimldfghaaDoorStrFacts
import Derived.Deep.Cut
namespace Go.Proofs.YtbojigimldfghaaDoor
open Go.ChangeShapes Go.WideShapes Go.ChangeAt Go.RowKit
set_option linter.unusedVariables false
set_option linter.unusedSimpArgs false

def rawA : List (List UInt8) := [[71, 69, 84, 32, 47, 32, 72, 84, 84, 80, 47, 49, 46, 49], [80, 79, 83, 84, 32, 47, 108, 111, 103, 105, 110, 32, 72, 84, 84, 80, 47, 49, 46, 49], [71, 69, 84, 32, 32, 47, 32, 72, 84, 84, 80, 47, 49, 46, 49], [71, 69, 84, 32, 47, 97, 32, 72, 84, 84, 80, 47, 49, 46, 48], [71, 32, 84, 32, 47, 32, 72, 84, 84, 80, 47, 49, 46, 49], [71, 69, 84, 32, 120, 32, 72, 84, 84, 80, 47, 49, 46, 49], [80, 85, 84, 32, 47, 128, 32, 72, 84, 84, 80, 47, 49, 46, 49], []]
def rawB : List (List UInt8) := [[72, 111, 115, 116, 58, 32, 97], [72, 111, 115, 116, 58, 98], [67, 111, 110, 116, 101, 110, 116, 45, 76, 101, 110, 103, 116, 104, 58, 32, 51], [67, 111, 110, 116, 101, 110, 116, 45, 76, 101, 110, 103, 116, 104, 58, 32, 48], [67, 111, 110, 116, 101, 110, 116, 45, 76, 101, 110, 103, 116, 104, 58, 32, 43, 51], [67, 111, 110, 116, 101, 110, 116, 45, 76, 101, 110, 103, 116, 104, 58, 32, 52, 48, 48, 49], [84, 114, 97, 110, 115, 102, 101, 114, 45, 69, 110, 99, 111, 100, 105, 110, 103, 58, 32, 99, 104, 117, 110, 107, 101, 100], [67, 111, 111, 107, 105, 101, 58, 32, 97, 61, 49], [32, 120, 58, 32, 49], [88, 32, 58, 32, 49], [88, 58], [99, 111, 110, 116, 101, 110, 116, 45, 108, 101, 110, 103, 116, 104, 58, 32, 48, 51]]
def rawAV : Array Value := (rawA.map fun p => Value.string (strOf p)).toArray
def rawBV : Array Value := (rawB.map fun p => Value.string (strOf p)).toArray
theorem rawA_at (q : Nat) (h : q < 8) : rawAV[q]? = some (.string (strOf (rawA.getD q []))) := by
  have : ∀ q : Fin 8, rawA[q.val]? = some (rawA.getD q.val []) := by decide
  have t : rawA[q]? = some (rawA.getD q []) := this ⟨q, h⟩
  rw [rawAV, List.getElem?_toArray, List.getElem?_map, t]
  rfl
theorem rawB_at (q : Nat) (h : q < 12) : rawBV[q]? = some (.string (strOf (rawB.getD q []))) := by
  have : ∀ q : Fin 12, rawB[q.val]? = some (rawB.getD q.val []) := by decide
  have t : rawB[q]? = some (rawB.getD q []) := this ⟨q, h⟩
  rw [rawBV, List.getElem?_toArray, List.getElem?_map, t]
  rfl
theorem rawA_len (q : Nat) (h : q < 8) : (rawA.getD q []).length ≤ 30 := by
  have : ∀ q : Fin 8, (rawA.getD q.val []).length ≤ 30 := by decide
  exact this ⟨q, h⟩
theorem rawB_len (q : Nat) (h : q < 12) : (rawB.getD q []).length ≤ 30 := by
  have : ∀ q : Fin 12, (rawB.getD q.val []).length ≤ 30 := by decide
  exact this ⟨q, h⟩
theorem raw_cat (l : List UInt8) (m : List UInt8) : ∃ r, strOf l ++ strOf m ++ ⟨#[13, 10]⟩ = strOf r ∧ r.length = l.length + m.length + 2 := by
  refine ⟨l ++ m ++ [13, 10], ?_, by simp; omega⟩
  rw [show (⟨#[13, 10]⟩ : ByteArray) = strOf [13, 10] from rfl, strOf_append, strOf_append]
theorem raw_end (l : List UInt8) : ∃ r, strOf l ++ ⟨#[13, 10]⟩ = strOf r ∧ r.length = l.length + 2 := by
  refine ⟨l ++ [13, 10], ?_, by simp⟩
  rw [show (⟨#[13, 10]⟩ : ByteArray) = strOf [13, 10] from rfl, strOf_append]
theorem raw_host (l : List UInt8) : ∃ r, strOf l ++ ⟨#[13, 10]⟩ ++ ⟨#[72, 111, 115, 116, 58, 32, 97, 13, 10]⟩ = strOf r ∧ r.length = l.length + 11 := by
  refine ⟨l ++ [13, 10] ++ [72, 111, 115, 116, 58, 32, 97, 13, 10], ?_, by simp⟩
  rw [show (⟨#[13, 10]⟩ : ByteArray) = strOf [13, 10] from rfl, show (⟨#[72, 111, 115, 116, 58, 32, 97, 13, 10]⟩ : ByteArray) = strOf [72, 111, 115, 116, 58, 32, 97, 13, 10] from rfl, strOf_append, strOf_append]
/-- what Raw answers -/
def RawPost (w : World) (e : Ending) (w' : World) : Prop :=
  ∃ g d l, e = .returned (.slice (some ⟨g, 0, none⟩) (l : List UInt8).length d) ∧ PieceOk w' ⟨some ⟨g, 0, none⟩, d, l⟩ ∧ 2 ≤ l.length ∧ l.length ≤ 500 ∧ Below w.heap.size w w'
set_option maxRecDepth 8000 in
set_option maxHeartbeats 4000000 in
theorem raw_any (A : Option Addr) (bs : List UInt8) (n c k : Nat) (w : World) (hp : PieceOk w ⟨A, c, bs⟩) (hn : bs.length = n) (hk : k < 256) :
    Calls Tryd.prog 12 #[.slice A n c, .int .u8 (k : Int)] w (RawPost w) := by
  have HP := hideIt hp
  have HN := hideIt hn
  clear hp hn
  obtain ⟨X1, hX1⟩ : ∃ X, w.alloc (.cells rawAV 9) = X := ⟨_, rfl⟩
  have s1 : X1.heap.size = w.heap.size + 1 := by rw [← hX1, alloc_size]
  have b1 : Below w.heap.size w X1 := by rw [← hX1]; exact below_new w _
  obtain ⟨X2, hX2⟩ : ∃ X, X1.alloc (.cells rawBV 9) = X := ⟨_, rfl⟩
  have b2 : Below X1.heap.size X1 X2 := by rw [← hX2]; exact below_new X1 _
  have HTA : Hid (∀ q, q < 8 → X2.cell? ⟨w.heap.size, q, none⟩ = some (.string (strOf (rawA.getD q [])))) := hideIt fun q hq => by
    refine (b2.cell (p := ⟨w.heap.size, q, none⟩) (show w.heap.size < _ by omega)).trans ?_
    rw [← hX1, World.cell?_alloc_at _ _ _ _ rfl]; exact rawA_at q hq
  have HTB : Hid (∀ q, q < 12 → X2.cell? ⟨w.heap.size + 1, q, none⟩ = some (.string (strOf (rawB.getD q [])))) := hideIt fun q hq => by
    rw [← hX2, ← s1, World.cell?_alloc_at _ _ _ _ rfl]; exact rawB_at q hq
  have HB := hideIt (below_then b1 b2)
  have HX : Hid ((w.alloc (.cells #[.string ⟨#[71, 69, 84, 32, 47, 32, 72, 84, 84, 80, 47, 49, 46, 49]⟩, .string ⟨#[80, 79, 83, 84, 32, 47, 108, 111, 103, 105, 110, 32, 72, 84, 84, 80, 47, 49, 46, 49]⟩, .string ⟨#[71, 69, 84, 32, 32, 47, 32, 72, 84, 84, 80, 47, 49, 46, 49]⟩, .string ⟨#[71, 69, 84, 32, 47, 97, 32, 72, 84, 84, 80, 47, 49, 46, 48]⟩, .string ⟨#[71, 32, 84, 32, 47, 32, 72, 84, 84, 80, 47, 49, 46, 49]⟩, .string ⟨#[71, 69, 84, 32, 120, 32, 72, 84, 84, 80, 47, 49, 46, 49]⟩, .string ⟨#[80, 85, 84, 32, 47, 128, 32, 72, 84, 84, 80, 47, 49, 46, 49]⟩, .string ⟨#[]⟩] 9)).alloc (.cells #[.string ⟨#[72, 111, 115, 116, 58, 32, 97]⟩, .string ⟨#[72, 111, 115, 116, 58, 98]⟩, .string ⟨#[67, 111, 110, 116, 101, 110, 116, 45, 76, 101, 110, 103, 116, 104, 58, 32, 51]⟩, .string ⟨#[67, 111, 110, 116, 101, 110, 116, 45, 76, 101, 110, 103, 116, 104, 58, 32, 48]⟩, .string ⟨#[67, 111, 110, 116, 101, 110, 116, 45, 76, 101, 110, 103, 116, 104, 58, 32, 43, 51]⟩, .string ⟨#[67, 111, 110, 116, 101, 110, 116, 45, 76, 101, 110, 103, 116, 104, 58, 32, 52, 48, 48, 49]⟩, .string ⟨#[84, 114, 97, 110, 115, 102, 101, 114, 45, 69, 110, 99, 111, 100, 105, 110, 103, 58, 32, 99, 104, 117, 110, 107, 101, 100]⟩, .string ⟨#[67, 111, 111, 107, 105, 101, 58, 32, 97, 61, 49]⟩, .string ⟨#[32, 120, 58, 32, 49]⟩, .string ⟨#[88, 32, 58, 32, 49]⟩, .string ⟨#[88, 58]⟩, .string ⟨#[99, 111, 110, 116, 101, 110, 116, 45, 108, 101, 110, 103, 116, 104, 58, 32, 48, 51]⟩] 9) = X2) := hideIt (show _ = _ from (by rw [hX1]; exact hX2 : (w.alloc (.cells rawAV 9)).alloc (.cells rawBV 9) = X2))
  have hq8 : k % 8 < 8 := Nat.mod_lt _ (by decide)
  have hq2 : k % 2 < 2 := Nat.mod_lt _ (by decide)
  have hq4 : k / 8 % 4 < 4 := Nat.mod_lt _ (by decide)
  have m8 : Int.tmod (k : Int) 8 = ((k % 8 : Nat) : Int) := by rw [Int.tmod_eq_emod_of_nonneg (by omega)]; omega
  have m2 : Int.tmod (k : Int) 2 = ((k % 2 : Nat) : Int) := by rw [Int.tmod_eq_emod_of_nonneg (by omega)]; omega
  have d8 : Int.tdiv (k : Int) 8 = ((k / 8 : Nat) : Int) := by rw [Int.tdiv_eq_ediv_of_nonneg (by omega)]; omega
  have m4 : Int.tmod ((k / 8 : Nat) : Int) 4 = ((k / 8 % 4 : Nat) : Int) := by rw [Int.tmod_eq_emod_of_nonneg (by omega)]; omega
  have w8 : IntKind.u8.wrap ((k % 8 : Nat) : Int) = ((k % 8 : Nat) : Int) := by rw [IntKind.wrap_u8]; omega
  have w2 : IntKind.u8.wrap ((k % 2 : Nat) : Int) = ((k % 2 : Nat) : Int) := by rw [IntKind.wrap_u8]; omega
  have v8 : IntKind.u8.wrap ((k / 8 : Nat) : Int) = ((k / 8 : Nat) : Int) := by rw [IntKind.wrap_u8]; omega
  have w4 : IntKind.u8.wrap ((k / 8 % 4 : Nat) : Int) = ((k / 8 % 4 : Nat) : Int) := by rw [IntKind.wrap_u8]; omega
  have hsl : ∀ w', (Instr.slice 9 (.string ⟨#[97, 98, 99]⟩) none (some (.int .u8 ((k / 8 % 4 : Nat) : Int))) none).run Tryd.prog w' = .ok (.string (strOf (([97, 98, 99] : List UInt8).take (k / 8 % 4)))) w' := fun w' => by
    have := run_slice_str w' [97, 98, 99] none (some (.int .u8 ((k / 8 % 4 : Nat) : Int))) .u8 .u8 0 (k / 8 % 4) (.inl ⟨rfl, rfl⟩) (.inr rfl) (by omega) (by simp; omega)
    rw [List.drop_zero, Nat.sub_zero] at this
    exact this
  have z4 : (strOf (([97, 98, 99] : List UInt8).take (k / 8 % 4))).size ≤ 3 := by rw [strOf_size]; simp; omega
  have ka := HTA.out _ hq8
  have kb := HTA.out (k % 2) (by omega)
  have la := rawA_len _ hq8
  have lb := rawA_len (k % 2) (by omega)
  clear s1 b1 b2 hX1 hX2 HTA
  generalize rawA.getD (k % 8) [] = fa at *
  generalize rawA.getD (k % 2) [] = fb at *
  obtain ⟨ra, ea, lra⟩ := raw_end fa
  obtain ⟨rb, eb, lrb⟩ := raw_host fb
  have EA := hideIt ea
  have EB := hideIt eb
  have HA3 : Hid ((([97, 98, 99] : List UInt8).take (k / 8 % 4)).length ≤ 3) := hideIt (by simp; omega)
  have zfa : (strOf fa).size ≤ 40 := by rw [strOf_size]; omega
  have zfb : (strOf fb).size ≤ 40 := by rw [strOf_size]; omega
  have LRA : Hid (ra.length ≤ 60) := hideIt (by omega)
  have LRB : Hid (rb.length ≤ 60) := hideIt (by omega)
  clear ea eb lra lrb la lb
  generalize (([97, 98, 99] : List UInt8).take (k / 8 % 4)) = abc at *
  generalize k / 8 % 4 = q4 at *
  generalize k / 8 = k8 at *
  generalize k % 8 = q8 at *
  generalize k % 2 = q2 at *
  go_enter Tryd.func12, Tryd.ntmps12
  go_upto_region 3 with fail
  rw [HX.out]
  by_cases h128 : 128 ≤ k
  case' pos => have hge : (128 : Int) ≤ (k : Int) := by omega
  case' neg => have hge : ¬ (128 : Int) ≤ (k : Int) := by omega
  all_goals
    go_wp2_with fail
    go_loopw [7, 8] (fun sv iv wr => ∃ (i : Nat) (l : List UInt8), i ≤ 8 ∧ i ≤ n ∧ iv = .int .i64 (i : Int) ∧ sv = .string (strOf l) ∧ l.length ≤ 60 + 40 * i ∧ wr = X2) (fun sv iv wr => 8 - (intOf iv).toNat)
    case atStart => first | exact ⟨0, rb, by omega, by omega, rfl, congrArg Value.string EB.out, by have := LRB.out; omega, rfl⟩ | exact ⟨0, ra, by omega, by omega, rfl, congrArg Value.string EA.out, by have := LRA.out; omega, rfl⟩
    case round =>
      obtain ⟨i, l, hi8, hin, rfl, rfl, hll, rfl⟩ := hrel
      have hwi : IntKind.i64.wrap ((i : Int) + 1) = (i : Int) + 1 := IntWalk.i64_in _ (by omega)
      have zl : (strOf l).size ≤ 400 := by rw [strOf_size]; omega
      by_cases hgo : i < n ∧ i < 8
      · obtain ⟨g1, g2⟩ := hgo
        have g1' : (i : Int) < (n : Int) := by omega
        have g2' : (i : Int) < 8 := by omega
        have hib : i < bs.length := by have := HN.out; omega
        obtain ⟨b, off, rfl, hbl, hcells⟩ := HP.out.bytes (by show 0 < bs.length; omega)
        have hcell : wr.cell? ⟨b, off + i, none⟩ = some (.int .u8 ((bs[i]).toNat : Int)) := (HB.out.cell hbl).trans (hcells i hib)
        have hx : (bs[i]).toNat < 256 := (bs[i]).toNat_lt
        have hq : (bs[i]).toNat % 12 < 12 := Nat.mod_lt _ (by decide)
        have hcs := HTB.out _ hq
        have hpl := rawB_len _ hq
        have hmod : Int.tmod ((bs[i]).toNat : Int) 12 = (((bs[i]).toNat % 12 : Nat) : Int) := by rw [Int.tmod_eq_emod_of_nonneg (by omega)]; omega
        have hwr : IntKind.i64.wrap ((bs[i]).toNat : Int) = ((bs[i]).toNat : Int) := IntWalk.i64_in _ (by omega)
        have hwq : IntKind.i64.wrap (((bs[i]).toNat % 12 : Nat) : Int) = (((bs[i]).toNat % 12 : Nat) : Int) := IntWalk.i64_in _ (by omega)
        clear hcells hbl
        generalize rawB.getD ((bs[i]).toNat % 12) [] = fl at *
        generalize (bs[i]).toNat % 12 = q at *
        generalize (bs[i]).toNat = x at *
        obtain ⟨r, er, lr⟩ := raw_cat l fl
        have ER := hideIt er
        have LR : Hid (r.length ≤ 60 + 40 * (i + 1)) := hideIt (by omega)
        have zfl : (strOf fl).size ≤ 40 := by rw [strOf_size]; omega
        clear er lr hib
        go_wp2_with fail
        go_roundw
        case rel => exact ⟨i + 1, r, by omega, by omega, by go_num, by rw [ER.out], LR.out, by first | rfl | trivial⟩
        case measure => simp [intOf]; omega
      · have hgo2 : ((i : Int) < (n : Int)) ∧ ¬ ((i : Int) < 8) ∨ ¬ ((i : Int) < (n : Int)) := by omega
        obtain ⟨r, er, lr⟩ := raw_end l
        have ER := hideIt er
        have hle : (strOf l ++ (⟨#[13, 10]⟩ : ByteArray)).size ≤ 402 := by rw [er, strOf_size]; omega
        have e2 : strOf l ++ ⟨#[13, 10]⟩ ++ strOf abc = strOf (r ++ abc) := by rw [er, strOf_append]
        obtain ⟨d1, u1, hc1, hp1, hb1⟩ := conv_str wr r (by omega)
        rw [← er] at hc1
        obtain ⟨d2, u2, hc2, hp2, hb2⟩ := conv_str wr (r ++ abc) (by have := HA3.out; simp; omega)
        rw [← e2] at hc2
        have R1 : Hid (RawPost w (.returned (.slice (some ⟨wr.heap.size, 0, none⟩) r.length d1)) u1) := hideIt ⟨_, d1, r, rfl, hp1, by omega, by omega, below_then HB.out hb1⟩
        have R2 : Hid (RawPost w (.returned (.slice (some ⟨wr.heap.size, 0, none⟩) (r ++ abc).length d2)) u2) := hideIt ⟨_, d2, r ++ abc, rfl, hp2, by simp; omega, by have := HA3.out; simp; omega, below_then HB.out hb2⟩
        clear er lr e2 hp1 hb1 hp2 hb2 hgo hll
        generalize (r ++ abc).length = n2 at *
        generalize r.length = n1 at *
        by_cases h4 : q4 = 0
        · subst h4
          rcases hgo2 with ⟨k1, k2⟩ | k1
          all_goals
            go_wp2_with fail
            go_ret
            exact R1.out
        · have h4' : (0 : Int) < (q4 : Int) := by omega
          rcases hgo2 with ⟨k1, k2⟩ | k1
          all_goals
            go_wp2_with fail
            go_ret
            exact R2.out
theorem go_raw : goFn Tryd.prog 12 = true := by kernel_rfl
end Go.Proofs.YtbojigimldfghaaDoor
