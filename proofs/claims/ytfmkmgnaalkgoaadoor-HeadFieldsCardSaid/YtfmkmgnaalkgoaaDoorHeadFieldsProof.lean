/-
  PROVED: for every input the call of 'wicketmanlaw08.HeadFields' returns true, and each argument reads afterwards as it read before; the two package-level tables start as the program's text lays them (the card ties them to it); no condition beyond the form's own. The tie holds for the pruned copy of the project that the seat bears.
  (The frame is the kit's shell program's text at this function's number and types, turned to the listed row; the walk is this seat's own: YtfmkmgnaalkgoaaDoorWHFields.)
-/
import Derived.Test.YtfmkmgnaalkgoaaDoorRows
import Derived.Test.YtfmkmgnaalkgoaaDoorUtfLaid
import Derived.Test.YtfmkmgnaalkgoaaDoorWHFields
import Derived.SizedLaws
import Derived.WalkKit
import Derived.ProofKit
import Derived.OpenShut
import Derived.ShutString
import Derived.ChangeOld
import Derived.Below
import Derived.Test.YtfmkmgnaalkgoaaDoorOpenPair
namespace Go.Proofs.YtfmkmgnaalkgoaaDoor.headFields
open Go.ChangeShapes Go.WideShapes Go.ChangeAt Go.RowKit
open Go.ChangeMaps (open_string shut_string)
set_option linter.unusedVariables false

theorem walk (a0 : ByteArray) (a1 : ByteArray) (x2 : PairL) (a3 : Option Addr) (len3 cap3 : Nat) (z3 : List Int) (a4 : Option Addr) (len4 cap4 : Nat) (z4 : List Int) (w : World) (w0 : a0.size ≤ maxLen) (w1 : a1.size ≤ maxLen) (w2 : x2.1.length ≤ 140737488355328 ∧ x2.2.length ≤ 140737488355328) (w3 : IsRow .u8 w a3 len3 cap3 z3) (w4 : IsRow .u8 w a4 len4 cap4 z4) (hT : Tabs w) (r0 : a0.size ≤ 140737488355328) (r1 : a1.size ≤ 140737488355328) (r3 : cap3 ≤ 140737488355328) (r4 : cap4 ≤ 140737488355328) :
    Calls Tryd.prog 3 #[.string a0, .string a1, pairV x2, .slice a3 len3 cap3, .slice a4 len4 cap4] w fun e w' => e = .returned (.bool true) ∧ Below w.heap.size w w' :=
  headFields_walk a0 a1 x2 a3 len3 cap3 z3 a4 len4 cap4 z4 w w0 w1 w2 w3 w4 hT r0 r1 r3 r4


theorem reads (os : Os) {H : Type} (enc : TypeId × Value → H) : ∃ places, DataW.whole enc Tryd.prog ((laidWorld os).forCall (fun _ _ => 0) ⟨#[], #[.string ByteArray.empty, .string ByteArray.empty, .agg #[.string ByteArray.empty, .string ByteArray.empty], .slice none 0 0, .slice none 0 0], []⟩).memory Tryd.f3.params.toList Rows.headFieldsSpec.vars false (#[.string ByteArray.empty, .string ByteArray.empty, .agg #[.string ByteArray.empty, .string ByteArray.empty], .slice none 0 0, .slice none 0 0] : Array Value).toList 8 = some ([.lit (.string []), .lit (.string []), .agg [.lit (.string []), .lit (.string [])], .nil, .nil], [], places) :=
  ⟨[], by kernel_rfl⟩

set_option maxRecDepth 100000 in
set_option maxHeartbeats 1000000 in
theorem lifted (os : Os) (started : os.Started) (H : Type) (enc : TypeId × Value → H) (F : Stop.Interp) :
    ReturnsInHanded {} Tryd.checked os 3 .any ((OpenSpec.ofChange Rows.headFieldsSpec).preRow enc Tryd.prog Tryd.f3 Rows.headFieldsRow.domain false Rows.headFieldsRow.laid) (((OpenSpec.ofChange Rows.headFieldsSpec).at F).post enc Tryd.prog Tryd.f3 false true false false) := by
  obtain ⟨places, hx⟩ := reads os enc
  refine returnsInHanded_of_row (C := Tryd.checked) (s := (OpenSpec.ofChange Rows.headFieldsSpec)) own started (by kernel_rfl) Tryd.func3
    (witness_row_at (enc := enc) (C := Tryd.checked) false (laidWorld os) #[.string ByteArray.empty, .string ByteArray.empty, .agg #[.string ByteArray.empty, .string ByteArray.empty], .slice none 0 0, .slice none 0 0] rfl (by kernel_rfl) (by kernel_rfl) (by kernel_rfl)
      (OpenSpec.preRow_of_cond 8 hx (by kernel_rfl) (fun k hk => by cases hk) (by kernel_rfl) (laid_met os _))) ?_
  intro W base args ds gs before hval0 hW hcnd hcd hsz hL _ _
  have hval : ∀ (j : Nat) t v, Tryd.f3.params[j]? = some t → args[j]? = some v → Value.okWide Tryd.prog W .any base t v := hval0
  have hW' := hW
  obtain ⟨p, q, hA0, hV, rfl, hfz, hnd⟩ := hW
  have hA : DataW.TrodAll enc Tryd.prog W 0 (fun _ => true) true Tryd.f3.params.toList args.toList ds p := hA0
  rw [Tryd.params3] at hA hval
  obtain ⟨v0, vs0, d0, ds0, p0, q0, hargs, rfl, rfl, h0, r0⟩ := trodAll_cons hA
  obtain ⟨v1, vs1, d1, ds1, p1, q1, rfl, rfl, rfl, h1, r1⟩ := trodAll_cons r0
  obtain ⟨v2, vs2, d2, ds2, p2, q2, rfl, rfl, rfl, h2, r2⟩ := trodAll_cons r1
  obtain ⟨v3, vs3, d3, ds3, p3, q3, rfl, rfl, rfl, h3, r3⟩ := trodAll_cons r2
  obtain ⟨v4, vs4, d4, ds4, p4, q4, rfl, rfl, rfl, h4, r4⟩ := trodAll_cons r3
  obtain ⟨rfl, rfl, rfl⟩ := trodAll_nil r4
  obtain rfl : args = #[v0, v1, v2, v3, v4] := by cases args; simp_all
  obtain ⟨rfl, rfl⟩ := trodVars_none hV
  obtain ⟨a0, rfl, rfl, rfl, w0⟩ := open_string Tryd.underlying9 (hval 0 9 v0 rfl rfl) h0
  obtain ⟨a1, rfl, rfl, rfl, w1⟩ := open_string Tryd.underlying9 (hval 1 9 v1 rfl rfl) h1
  obtain ⟨cs2, rfl⟩ := okWide_pair (hval 2 23 v2 rfl rfl)
  have k2 := h2
  have lt2 : ∀ x ∈ p2, x.block < W.heap.size := by obtain ⟨m, hm⟩ := k2; exact DataW.trod_lt m _ _ _ hm
  obtain ⟨x2, w2, ec2⟩ : ∃ x : PairL, (x.1.length ≤ 140737488355328 ∧ x.2.length ≤ 140737488355328) ∧ cs2.toList = [.string (strOf x.1), .string (strOf x.2)] := by
    obtain ⟨fuel, hf⟩ := k2
    exact pair_open (j := 2) hf rfl rfl hsz
  obtain rfl : cs2 = #[.string (strOf x2.1), .string (strOf x2.2)] := Array.toList_inj.1 ec2
  obtain ⟨a3, len3, cap3, rfl⟩ := okWide_slice Tryd.underlying24 (hval 3 24 v3 rfl rfl)
  have k3 := h3
  have lt3 : ∀ x ∈ p3, x.block < W.heap.size := by obtain ⟨m, hm⟩ := k3; exact DataW.trod_lt m _ _ _ hm
  obtain ⟨z3, w3⟩ : ∃ zs, IsRow .u8 W a3 len3 cap3 zs := by
    obtain ⟨fuel, hf⟩ := k3
    rcases open_ints Tryd.underlying24 Tryd.underlying5 (by kernel_rfl) hf with ⟨hcs, _⟩ | ⟨x, l, c, zs, hcs, _, hl, hm, hz, _, hcell, hwz⟩
    · simp [Value.cells] at hcs
      obtain ⟨rfl, rfl, rfl⟩ := hcs
      exact ⟨[], .inl ⟨rfl, rfl, rfl, rfl⟩⟩
    · simp [Value.cells] at hcs
      obtain ⟨rfl, rfl, rfl⟩ := hcs
      exact ⟨zs, .inr ⟨_, rfl, hl, hm, by simpa using hz, hcell, hwz⟩⟩
  obtain ⟨a4, len4, cap4, rfl⟩ := okWide_slice Tryd.underlying24 (hval 4 24 v4 rfl rfl)
  have k4 := h4
  have lt4 : ∀ x ∈ p4, x.block < W.heap.size := by obtain ⟨m, hm⟩ := k4; exact DataW.trod_lt m _ _ _ hm
  obtain ⟨z4, w4⟩ : ∃ zs, IsRow .u8 W a4 len4 cap4 zs := by
    obtain ⟨fuel, hf⟩ := k4
    rcases open_ints Tryd.underlying24 Tryd.underlying5 (by kernel_rfl) hf with ⟨hcs, _⟩ | ⟨x, l, c, zs, hcs, _, hl, hm, hz, _, hcell, hwz⟩
    · simp [Value.cells] at hcs
      obtain ⟨rfl, rfl, rfl⟩ := hcs
      exact ⟨[], .inl ⟨rfl, rfl, rfl, rfl⟩⟩
    · simp [Value.cells] at hcs
      obtain ⟨rfl, rfl, rfl⟩ := hcs
      exact ⟨zs, .inr ⟨_, rfl, hl, hm, by simpa using hz, hcell, hwz⟩⟩
  have r0 : a0.size ≤ 140737488355328 := by
    have hs := sized_string hsz (j := 0) rfl rfl
    have := reachBytes_lt
    have hz : a0.data.toList.length = a0.size := by simp
    omega
  have r1 : a1.size ≤ 140737488355328 := by
    have hs := sized_string hsz (j := 1) rfl rfl
    have := reachBytes_lt
    have hz : a1.data.toList.length = a1.size := by simp
    omega
  have r3 : cap3 ≤ 140737488355328 := by
    obtain ⟨fuel, hf⟩ := k3
    rcases open_ints Tryd.underlying24 Tryd.underlying5 (by kernel_rfl) hf with ⟨hcs, _⟩ | ⟨x, l, c, zs, hcs, _, hl, hm, hz, hd, _, _⟩
    · simp [Value.cells] at hcs
      omega
    · simp [Value.cells] at hcs
      obtain ⟨rfl, rfl, rfl⟩ := hcs
      have hd1 : d3 = .slice (lits .u8 (zs.take len3)) (lits .u8 (zs.drop len3)) := congrArg Prod.fst hd
      have hs := sized_slice hsz (j := 3) rfl (by rw [hd1]; rfl) Tryd.underlying24
      have hb : Tryd.checked.prog.bytesOf 5 = 1 := by kernel_rfl
      have hz' : zs.length = cap3 := by simpa using hz
      have hll : ∀ (k : IntKind) (l : List Int), (lits (H := H) k l).length = l.length := fun k l => by simp [lits]
      rw [hb, hll, hll, List.length_take, List.length_drop] at hs
      have := reachBytes_lt
      omega
  have r4 : cap4 ≤ 140737488355328 := by
    obtain ⟨fuel, hf⟩ := k4
    rcases open_ints Tryd.underlying24 Tryd.underlying5 (by kernel_rfl) hf with ⟨hcs, _⟩ | ⟨x, l, c, zs, hcs, _, hl, hm, hz, hd, _, _⟩
    · simp [Value.cells] at hcs
      omega
    · simp [Value.cells] at hcs
      obtain ⟨rfl, rfl, rfl⟩ := hcs
      have hd1 : d4 = .slice (lits .u8 (zs.take len4)) (lits .u8 (zs.drop len4)) := congrArg Prod.fst hd
      have hs := sized_slice hsz (j := 4) rfl (by rw [hd1]; rfl) Tryd.underlying24
      have hb : Tryd.checked.prog.bytesOf 5 = 1 := by kernel_rfl
      have hz' : zs.length = cap4 := by simpa using hz
      have hll : ∀ (k : IntKind) (l : List Int), (lits (H := H) k l).length = l.length := fun k l => by simp [lits]
      rw [hb, hll, hll, List.length_take, List.length_drop] at hs
      have := reachBytes_lt
      omega
  clear hA0 hval0
  refine (walk a0 a1 x2 a3 len3 cap3 z3 a4 len4 cap4 z4 W w0 w1 w2 w3 w4 (tabs_of hL) r0 r1 r3 r4).mono fun e W' ⟨he, bel⟩ => ?_
  subst he
  exact ⟨_, rfl, _, _, _, [], _, [], hW', trodAll_mk1 (shut_bool Tryd.underlying4 _), (trodAll_cons_mk (shut_string Tryd.underlying9 w0) (trodAll_cons_mk (shut_string Tryd.underlying9 w1) (trodAll_cons_mk (Below.trod laidOut (by kernel_rfl) (of_decide_eq_true (by kernel_rfl)) k2 bel lt2) (trodAll_cons_mk (Below.trod laidOut (by kernel_rfl) (of_decide_eq_true (by kernel_rfl)) k3 bel lt3) (trodAll_cons_mk (Below.trod laidOut (by kernel_rfl) (of_decide_eq_true (by kernel_rfl)) k4 bel lt4) trodAll_mk0))))), rfl, bel.frame _, fun h => by cases h⟩

theorem said : Rows.HeadFieldsSaid :=
  OpenClaim.holds_of_cond 3 Tryd.f3 rfl rfl rfl rfl rfl rfl rfl ⟨rfl, rfl, rfl, rfl, rfl⟩ rfl rfl rfl rfl rfl (by kernel_rfl) Tryd.func3 (by kernel_rfl)
    (of_decide_eq_true (by kernel_rfl)) (by unfold Func.isWrapper; first | (rw [if_pos (by decide +kernel)]; kernel_rfl) | (rw [if_neg (by decide +kernel)]; exact ⟨rfl, rfl⟩))
    (fun os started H enc _ F => by rw [OpenClaim.pre_eq_preRow]; exact lifted os started H enc F)

theorem plain (f : FuncId) (fn : Func) (hf : Tryd.pinned.checked.prog.funcNamed "wicketman/wicketmanlaw08.HeadFields" = some f) (hfn : Tryd.pinned.checked.prog.funcs[f]? = some fn) :
    false = Tryd.pinned.checked.prog.looks [] ∧ ∀ (j : Nat) t, fn.params[j]? = some t → Tryd.pinned.checked.prog.wantsStandIn t = false := by
  obtain rfl : f = 3 := Option.some.inj ((show Tryd.prog.funcNamed "wicketman/wicketmanlaw08.HeadFields" = some 3 by kernel_rfl).symm.trans hf) |>.symm
  obtain rfl : fn = Tryd.f3 := (Option.some.inj (Tryd.func3.symm.trans hfn)).symm
  have hall : (Tryd.f3.params.toList.all fun u => !Tryd.prog.wantsStandIn u) = true := by kernel_rfl
  refine ⟨by kernel_rfl, fun j t ht => ?_⟩
  have hm : t ∈ Tryd.f3.params.toList := by simpa using Array.mem_of_getElem? ht
  exact (show Tryd.prog.wantsStandIn t = false by simpa using List.all_eq_true.1 hall t hm)
end Go.Proofs.YtfmkmgnaalkgoaaDoor.headFields

namespace Go.Proofs.YtfmkmgnaalkgoaaDoor
/-- the given statement: the tied card -/
theorem headFields_card_holds : Rows.HeadFieldsCardSaid :=
  Claim7.holds_tied_plain_at .later [] _ _ _ _ headFields.said (fun _ h => by cases h) (by kernel_rfl) (fun _ h => by cases h) headFields_row_tie rfl ⟨rfl, rfl⟩ (by kernel_rfl) rfl headFields.plain (by kernel_rfl)
#print axioms headFields_card_holds
end Go.Proofs.YtfmkmgnaalkgoaaDoor
