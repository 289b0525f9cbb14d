/- strings.Cut, strings.Index, strings.CutPrefix, strings.CutSuffix: the library's own, laid at this program; their answers in lists of bytes. -/
import Derived.Test.YtjfmlfakdijfjaaDoorStrFacts
import Derived.Test.YtjfmlfakdijfjaaDoorMaxOk
import Derived.Test.YtjfmlfakdijfjaaDoorCookiePlain
import Derived.Shelf.Strings.Cut
import Derived.Shelf.Strings.Search3
import Derived.Shelf.Small.Wraps
namespace Go.Proofs.YtjfmlfakdijfjaaDoor
open Go.ChangeShapes Go.WideShapes Go.ChangeAt Go.RowKit Go.Shelf
set_option linter.unusedVariables false
set_option linter.unusedSimpArgs false

def renK : Go.Shelf.Ren := ⟨fun | 145 => 36 | 217 => 72 | 219 => 58 | 220 => 50 | 224 => 74 | 225 => 73 | 266 => 86 | 267 => 75 | 314 => 87 | 143 => 62 | 103 => 63 | 206 => 88 | 210 => 77 | 104 => 64 | 207 => 89 | 211 => 78 | n => n, fun | 3 => 3 | 4 => 4 | 5 => 5 | 9 => 9 | 46 => 64 | 51 => 31 | 59 => 59 | 146 => 97 | 24 => 44 | n => n, fun | 1 => 0 | n => n⟩
theorem laysK145 : Go.Proofs.Lays.n145 Tryd.prog renK := {
  mixed := by kernel_rfl
  f145 := Tryd.func36.trans (congrArg some (by kernel_rfl))
  f217 := Tryd.func72.trans (congrArg some (by kernel_rfl))
  f219 := Tryd.func58.trans (congrArg some (by kernel_rfl))
  f220 := Tryd.func50.trans (congrArg some (by kernel_rfl))
  f224 := Tryd.func74.trans (congrArg some (by kernel_rfl))
  f225 := Tryd.func73.trans (congrArg some (by kernel_rfl))
  f266 := Tryd.func86.trans (congrArg some (by kernel_rfl))
  f267 := Tryd.func75.trans (congrArg some (by kernel_rfl))
  f314 := Tryd.func87.trans (congrArg some (by kernel_rfl))
  t3 := Tryd.underlying3
  a3 := Tryd.isAgg3
  z3 := Tryd.sizeOf3
  v3 := Tryd.zeroValue3
  t4 := Tryd.underlying4
  a4 := Tryd.isAgg4
  z4 := Tryd.sizeOf4
  v4 := Tryd.zeroValue4
  t5 := Tryd.underlying5
  a5 := Tryd.isAgg5
  z5 := Tryd.sizeOf5
  v5 := Tryd.zeroValue5
  t9 := Tryd.underlying9
  a9 := Tryd.isAgg9
  z9 := Tryd.sizeOf9
  v9 := Tryd.zeroValue9
  t46 := Tryd.underlying64
  a46 := Tryd.isAgg64
  z46 := Tryd.sizeOf64
  v46 := Tryd.zeroValue64
  t51 := Tryd.underlying31
  a51 := Tryd.isAgg31
  z51 := Tryd.sizeOf31
  v51 := Tryd.zeroValue31
  t59 := Tryd.underlying59
  a59 := Tryd.isAgg59
  z59 := Tryd.sizeOf59
  v59 := Tryd.zeroValue59
  t146 := Tryd.underlying97
  a146 := Tryd.isAgg97
  z146 := Tryd.sizeOf97
  v146 := Tryd.zeroValue97
  g1 := by kernel_rfl }
theorem laysK143 : Go.Proofs.Lays.n143 Tryd.prog renK := {
  mixed := by kernel_rfl
  f143 := Tryd.func62.trans (congrArg some (by kernel_rfl))
  f217 := Tryd.func72.trans (congrArg some (by kernel_rfl))
  f219 := Tryd.func58.trans (congrArg some (by kernel_rfl))
  f224 := Tryd.func74.trans (congrArg some (by kernel_rfl))
  f225 := Tryd.func73.trans (congrArg some (by kernel_rfl))
  f266 := Tryd.func86.trans (congrArg some (by kernel_rfl))
  f267 := Tryd.func75.trans (congrArg some (by kernel_rfl))
  f314 := Tryd.func87.trans (congrArg some (by kernel_rfl))
  t3 := Tryd.underlying3
  a3 := Tryd.isAgg3
  z3 := Tryd.sizeOf3
  v3 := Tryd.zeroValue3
  t4 := Tryd.underlying4
  a4 := Tryd.isAgg4
  z4 := Tryd.sizeOf4
  v4 := Tryd.zeroValue4
  t5 := Tryd.underlying5
  a5 := Tryd.isAgg5
  z5 := Tryd.sizeOf5
  v5 := Tryd.zeroValue5
  t9 := Tryd.underlying9
  a9 := Tryd.isAgg9
  z9 := Tryd.sizeOf9
  v9 := Tryd.zeroValue9
  t46 := Tryd.underlying64
  a46 := Tryd.isAgg64
  z46 := Tryd.sizeOf64
  v46 := Tryd.zeroValue64
  t51 := Tryd.underlying31
  a51 := Tryd.isAgg31
  z51 := Tryd.sizeOf31
  v51 := Tryd.zeroValue31
  t146 := Tryd.underlying97
  a146 := Tryd.isAgg97
  z146 := Tryd.sizeOf97
  v146 := Tryd.zeroValue97
  g1 := by kernel_rfl }
theorem laysK103 : Go.Proofs.Lays.n103 Tryd.prog renK := {
  mixed := by kernel_rfl
  f103 := Tryd.func63.trans (congrArg some (by kernel_rfl))
  f206 := Tryd.func88.trans (congrArg some (by kernel_rfl))
  f210 := Tryd.func77.trans (congrArg some (by kernel_rfl))
  t3 := Tryd.underlying3
  a3 := Tryd.isAgg3
  z3 := Tryd.sizeOf3
  v3 := Tryd.zeroValue3
  t4 := Tryd.underlying4
  a4 := Tryd.isAgg4
  z4 := Tryd.sizeOf4
  v4 := Tryd.zeroValue4
  t9 := Tryd.underlying9
  a9 := Tryd.isAgg9
  z9 := Tryd.sizeOf9
  v9 := Tryd.zeroValue9
  t24 := Tryd.underlying44
  a24 := Tryd.isAgg44
  z24 := Tryd.sizeOf44
  v24 := Tryd.zeroValue44 }
theorem laysK104 : Go.Proofs.Lays.n104 Tryd.prog renK := {
  mixed := by kernel_rfl
  f104 := Tryd.func64.trans (congrArg some (by kernel_rfl))
  f207 := Tryd.func89.trans (congrArg some (by kernel_rfl))
  f211 := Tryd.func78.trans (congrArg some (by kernel_rfl))
  t3 := Tryd.underlying3
  a3 := Tryd.isAgg3
  z3 := Tryd.sizeOf3
  v3 := Tryd.zeroValue3
  t4 := Tryd.underlying4
  a4 := Tryd.isAgg4
  z4 := Tryd.sizeOf4
  v4 := Tryd.zeroValue4
  t9 := Tryd.underlying9
  a9 := Tryd.isAgg9
  z9 := Tryd.sizeOf9
  v9 := Tryd.zeroValue9
  t24 := Tryd.underlying44
  a24 := Tryd.isAgg44
  z24 := Tryd.sizeOf44
  v24 := Tryd.zeroValue44 }

/-- what stands ahead of the first such end and behind it; all, and nothing, if there is none -/
def cutP (sep l : List UInt8) : PairL := match cutS sep l with | none => (l, []) | some x => x
theorem cutP_lib (sep l : List UInt8) (hs : sep ≠ []) : Lib.cut l sep = ((cutP sep l).1, (cutP sep l).2, (cutS sep l).isSome) := by
  unfold Lib.cut cutP
  rw [cut_index sep hs l]
  cases h : cutS sep l with
  | none => rfl
  | some x =>
    obtain ⟨h1, h2⟩ := cut_take (x := x.1) (y := x.2) h
    simp only [Option.isSome_some]
    rw [if_pos (by omega), Int.toNat_natCast, h1, h2]
theorem cutP_len (sep l : List UInt8) : (cutP sep l).1.length ≤ l.length ∧ (cutP sep l).2.length ≤ l.length := by
  unfold cutP
  cases h : cutS sep l with
  | none => exact ⟨Nat.le_refl _, by simp⟩
  | some x => have := cut_len (x := x.1) (y := x.2) h; simp only; omega
theorem cutstr_any (l sep : List UInt8) (w : World) (hs : sep ≠ []) (hl : l.length ≤ 1000000) (hm : MaxOk w) :
    Calls Tryd.prog 36 #[.string (strOf l), .string (strOf sep)] w fun e w' => e = .returned (.tuple #[.string (strOf (cutP sep l).1), .string (strOf (cutP sep l).2), .bool (cutS sep l).isSome]) ∧ Below w.heap.size w w' := by
  obtain ⟨m, hm⟩ := hm
  refine (Any.strings_Cut laysK145 (strOf l) (strOf sep) m w (by rw [strOf_size]; omega) hm).mono ?_
  rintro e w' ⟨rfl, n, rfl⟩
  rw [show (strOf l).data.toList = l by simp [strOf], show (strOf sep).data.toList = sep by simp [strOf], cutP_lib sep l hs]
  exact ⟨rfl, rfl, rfl, rfl, Nat.le_refl _, fun _ _ => rfl⟩
theorem go_cutstr : goFn Tryd.prog 36 = true := by kernel_rfl
/-- where '; ' stands first -/
def scAt (l : List UInt8) : Int := match cutS scL l with | none => -1 | some x => (x.1.length : Int)
theorem scAt_cases (l : List UInt8) : (scAt l = -1 ∧ pcsL l = [l]) ∨ ∃ i : Nat, scAt l = (i : Int) ∧ i + 2 ≤ l.length ∧ pcsL l = l.take i :: pcsL (l.drop (i + 2)) := by
  unfold scAt
  cases h : cutS scL l with
  | none => exact .inl ⟨rfl, pcs_last h⟩
  | some x =>
    obtain ⟨h1, h2⟩ := cut_take (x := x.1) (y := x.2) h
    have h3 := cut_len (x := x.1) (y := x.2) h
    rw [show scL.length = 2 from rfl] at h2 h3
    exact .inr ⟨x.1.length, rfl, by omega, by rw [pcs_step (x := x.1) (y := x.2) h, h1, h2]⟩
theorem index_sc (l : List UInt8) (w : World) (hl : l.length ≤ 1000000) (hm : MaxOk w) :
    Calls Tryd.prog 62 #[.string (strOf l), .string ⟨#[59, 32]⟩] w fun e w' => e = .returned (.int .i64 (scAt l)) ∧ w' = w := by
  obtain ⟨m, hm⟩ := hm
  have h := Any.strings_Index laysK143 (strOf l) ⟨#[59, 32]⟩ m w (by rw [strOf_size]; omega) hm
  rw [show (strOf l).data.toList = l by simp [strOf], show ((⟨#[59, 32]⟩ : ByteArray).data.toList) = scL from rfl, cut_index scL (by simp [scL]) l] at h
  exact h
/-- without a quote at its front, at its end -/
def preQ (l : List UInt8) : List UInt8 := Lib.trimPrefix l [34]
def sufQ (l : List UInt8) : List UInt8 := Lib.trimSuffix l [34]
def hasPQ (l : List UInt8) : Bool := Lib.hasPrefix l [34]
def hasSQ (l : List UInt8) : Bool := Lib.hasSuffix l [34]
theorem cutpre_any (l : List UInt8) (w : World) : Calls Tryd.prog 63 #[.string (strOf l), .string ⟨#[34]⟩] w fun e w' => e = .returned (.tuple #[.string (strOf (preQ l)), .bool (hasPQ l)]) ∧ w' = w := by
  have h := Any.strings_CutPrefix laysK103 (strOf l) ⟨#[34]⟩ w
  rw [show (strOf l).data.toList = l by simp [strOf]] at h
  exact h
theorem cutsuf_any (l : List UInt8) (w : World) (hl : l.length ≤ 1000000) : Calls Tryd.prog 64 #[.string (strOf l), .string ⟨#[34]⟩] w fun e w' => e = .returned (.tuple #[.string (strOf (sufQ l)), .bool (hasSQ l)]) ∧ w' = w := by
  have h := Any.strings_CutSuffix laysK104 (strOf l) ⟨#[34]⟩ w (by rw [strOf_size]; omega)
  rw [show (strOf l).data.toList = l by simp [strOf]] at h
  exact h
theorem unq_is (l : List UInt8) : unqL l = if (hasPQ l && hasSQ (preQ l)) = true then sufQ (preQ l) else l := by
  unfold unqL hasPQ hasSQ preQ sufQ Lib.trimPrefix Lib.trimSuffix Lib.hasPrefix Lib.hasSuffix
  cases l with
  | nil => rfl
  | cons a r =>
    by_cases ha : a = 34
    · subst ha
      have h1 : ([34] : List UInt8).isPrefixOf (34 :: r) = true := by simp [List.isPrefixOf]
      rw [h1]
      simp only [if_true, Bool.true_and, List.length_cons, List.length_nil, List.drop_succ_cons, List.drop_zero, List.head?_cons]
      cases hs : ([34] : List UInt8).isSuffixOf r
      · rw [if_neg, if_neg (by simp)]
        rintro ⟨h2, _, h3⟩
        have hr : r ≠ [] := by rintro rfl; simp at h2
        rw [List.getLast?_cons_of_ne_nil hr] at h3
        have : ([34] : List UInt8) <:+ r := by
          obtain ⟨z, hz⟩ := List.getLast?_eq_some_iff.1 h3
          exact ⟨z, hz.symm⟩
        rw [List.isSuffixOf_iff_suffix.2 this] at hs
        cases hs
      · obtain ⟨z, hz⟩ := List.isSuffixOf_iff_suffix.1 hs
        subst hz
        rw [if_pos ⟨by simp, trivial, by rw [← List.cons_append]; exact List.getLast?_concat⟩, if_pos rfl]
        simp
    · have h1 : ([34] : List UInt8).isPrefixOf (a :: r) = false := by simp [List.isPrefixOf, Ne.symm ha]
      rw [h1, if_neg, if_neg (by simp)]
      rintro ⟨_, h2, _⟩
      simp at h2; exact ha h2
end Go.Proofs.YtjfmlfakdijfjaaDoor
