/-
  PROVED: for every input whose arguments, and what the reading takes of package-level variables, are together of bulk at most 1048576 (the second form) the call of 'wicketmanlaw09.HttpPrints' returns true, and each argument reads afterwards as it read before; the two package-level tables start as the program's text lays them (the card ties them to it); no condition beyond the form's own. The tie holds for the pruned copy of the project that the seat bears.
  (The frame is the kit's shell program's text at this function's number and types, turned to the listed row; the walk is this seat's own: YtbojigimldfghaaDoorWPPrints.)
-/
import Derived.Test.YtbojigimldfghaaDoorRows
import Derived.Test.YtbojigimldfghaaDoorHttpLaid
import Derived.Test.YtbojigimldfghaaDoorWPPrints
import Derived.SizedLaws
import Derived.WalkKit
import Derived.ProofKit
import Derived.OpenShut
import Derived.ShutString
import Derived.ChangeOld
import Derived.Below
import Derived.Test.YtbojigimldfghaaDoorOpenReqU
namespace Go.Proofs.YtbojigimldfghaaDoor.httpPrintsUpto
open Go.ChangeShapes Go.WideShapes Go.ChangeAt Go.RowKit
open Go.ChangeMaps (open_string shut_string)
set_option linter.unusedVariables false

theorem walk (x0 : ReqL) (f0 : Value) (a0 : Option Addr) (c0 : Nat) (x1 : ReqL) (f1 : Value) (a1 : Option Addr) (c1 : Nat) (a2 : Option Addr) (len2 cap2 : Nat) (z2 : List Int) (a3 : Int) (w : World) (w0 : ReqParts f0 a0 c0 x0 w) (w1 : ReqParts f1 a1 c1 x1 w) (w2 : IsRow .u8 w a2 len2 cap2 z2) (w3 : (Lit.int .u8 a3).wf = true) (hT : Tabs w) (r2 : cap2 ≤ 140737488355328) (b0 : sizeQ x0 ≤ 1048576) (b1 : sizeQ x1 ≤ 1048576) :
    Calls Tryd.prog 4 #[reqV x0 f0 a0 c0, reqV x1 f1 a1 c1, .slice a2 len2 cap2, .int .u8 a3] w fun e w' => e = .returned (.bool true) ∧ Below w.heap.size w w' :=
  httpPrintsUpto_walk x0 f0 a0 c0 x1 f1 a1 c1 a2 len2 cap2 z2 a3 w w0 w1 w2 w3 hT r2 b0 b1


theorem reads (os : Os) {H : Type} (enc : TypeId × Value → H) : ∃ places, DataW.whole enc Tryd.prog ((laidWorld os).forCall (fun _ _ => 0) ⟨#[], #[.agg #[.string ByteArray.empty, .string ByteArray.empty, .slice none 0 0, .slice none 0 0], .agg #[.string ByteArray.empty, .string ByteArray.empty, .slice none 0 0, .slice none 0 0], .slice none 0 0, .int .u8 0], []⟩).memory Tryd.f4.params.toList Rows.httpPrintsSpec.vars false (#[.agg #[.string ByteArray.empty, .string ByteArray.empty, .slice none 0 0, .slice none 0 0], .agg #[.string ByteArray.empty, .string ByteArray.empty, .slice none 0 0, .slice none 0 0], .slice none 0 0, .int .u8 0] : Array Value).toList 8 = some ([.agg [.lit (.string []), .lit (.string []), .nil, .nil], .agg [.lit (.string []), .lit (.string []), .nil, .nil], .nil, .lit (.int .u8 0)], [], places) :=
  ⟨[], by kernel_rfl⟩

set_option maxRecDepth 100000 in
set_option maxHeartbeats 1000000 in
theorem lifted (os : Os) (started : os.Started) (H : Type) (enc : TypeId × Value → H) (F : Stop.Interp) :
    ReturnsInHanded {} Tryd.checked os 4 .any ((Rows.OpenSpec.upto Rows.httpPrintsSpec).preRow enc Tryd.prog Tryd.f4 Rows.httpPrintsUptoRow.domain false Rows.httpPrintsUptoRow.laid) (((Rows.OpenSpec.upto Rows.httpPrintsSpec).at F).post enc Tryd.prog Tryd.f4 false true false false) := by
  obtain ⟨places, hx⟩ := reads os enc
  refine returnsInHanded_of_row (C := Tryd.checked) (s := (Rows.OpenSpec.upto Rows.httpPrintsSpec)) own started (by kernel_rfl) Tryd.func4
    (witness_row_at (enc := enc) (C := Tryd.checked) false (laidWorld os) #[.agg #[.string ByteArray.empty, .string ByteArray.empty, .slice none 0 0, .slice none 0 0], .agg #[.string ByteArray.empty, .string ByteArray.empty, .slice none 0 0, .slice none 0 0], .slice none 0 0, .int .u8 0] rfl (by kernel_rfl) (by kernel_rfl) (by kernel_rfl)
      (OpenSpec.preRow_of_cond 8 hx (by kernel_rfl) (fun k hk => by cases hk; kernel_rfl) (by kernel_rfl) (laid_met os _))) ?_
  intro W base args ds gs before hval0 hW hcnd hcd hsz hL hSh _
  have hval : ∀ (j : Nat) t v, Tryd.f4.params[j]? = some t → args[j]? = some v → Value.okWide Tryd.prog W .any base t v := hval0
  have hW' := hW
  obtain ⟨p, q, hA0, hV, rfl, hfz, hnd⟩ := hW
  have hA : DataW.TrodAll enc Tryd.prog W 0 (fun _ => true) true Tryd.f4.params.toList args.toList ds p := hA0
  rw [Tryd.params4] at hA hval
  obtain ⟨v0, vs0, d0, ds0, p0, q0, hargs, rfl, rfl, h0, r0⟩ := trodAll_cons hA
  obtain ⟨v1, vs1, d1, ds1, p1, q1, rfl, rfl, rfl, h1, r1⟩ := trodAll_cons r0
  obtain ⟨v2, vs2, d2, ds2, p2, q2, rfl, rfl, rfl, h2, r2⟩ := trodAll_cons r1
  obtain ⟨v3, vs3, d3, ds3, p3, q3, rfl, rfl, rfl, h3, r3⟩ := trodAll_cons r2
  obtain ⟨rfl, rfl, rfl⟩ := trodAll_nil r3
  obtain rfl : args = #[v0, v1, v2, v3] := by cases args; simp_all
  obtain ⟨rfl, rfl⟩ := trodVars_none hV
  obtain ⟨cs0, rfl⟩ := okWide_req (hval 0 33 v0 rfl rfl)
  have k0 := h0
  have lt0 : ∀ x ∈ p0, x.block < W.heap.size := by obtain ⟨m, hm⟩ := k0; exact DataW.trod_lt m _ _ _ hm
  obtain ⟨x0, f0, a0, c0, wi0, bk0, ec0⟩ : ∃ (x : ReqL) (f : Value) (a : Option Addr) (c : Nat), (sizeQ x ≤ 1048576 → ReqParts f a c x W) ∧ sizeQ x ≤ Rows.uptoBulk d0 ∧ cs0.toList = [.string (strOf x.m), .string (strOf x.p), f, .slice a x.body.length c] := by
    obtain ⟨fuel, hf⟩ := k0
    exact req_openU hf
  obtain rfl : cs0 = #[.string (strOf x0.m), .string (strOf x0.p), f0, .slice a0 x0.body.length c0] := Array.toList_inj.1 ec0
  obtain ⟨cs1, rfl⟩ := okWide_req (hval 1 33 v1 rfl rfl)
  have k1 := h1
  have lt1 : ∀ x ∈ p1, x.block < W.heap.size := by obtain ⟨m, hm⟩ := k1; exact DataW.trod_lt m _ _ _ hm
  obtain ⟨x1, f1, a1, c1, wi1, bk1, ec1⟩ : ∃ (x : ReqL) (f : Value) (a : Option Addr) (c : Nat), (sizeQ x ≤ 1048576 → ReqParts f a c x W) ∧ sizeQ x ≤ Rows.uptoBulk d1 ∧ cs1.toList = [.string (strOf x.m), .string (strOf x.p), f, .slice a x.body.length c] := by
    obtain ⟨fuel, hf⟩ := k1
    exact req_openU hf
  obtain rfl : cs1 = #[.string (strOf x1.m), .string (strOf x1.p), f1, .slice a1 x1.body.length c1] := Array.toList_inj.1 ec1
  obtain ⟨a2, len2, cap2, rfl⟩ := okWide_slice Tryd.underlying22 (hval 2 22 v2 rfl rfl)
  have k2 := h2
  have lt2 : ∀ x ∈ p2, x.block < W.heap.size := by obtain ⟨m, hm⟩ := k2; exact DataW.trod_lt m _ _ _ hm
  obtain ⟨z2, w2⟩ : ∃ zs, IsRow .u8 W a2 len2 cap2 zs := by
    obtain ⟨fuel, hf⟩ := k2
    rcases open_ints Tryd.underlying22 Tryd.underlying5 (by kernel_rfl) hf with ⟨hcs, _⟩ | ⟨x, l, c, zs, hcs, _, hl, hm, hz, _, hcell, hwz⟩
    · simp [Value.cells] at hcs
      obtain ⟨rfl, rfl, rfl⟩ := hcs
      exact ⟨[], .inl ⟨rfl, rfl, rfl, rfl⟩⟩
    · simp [Value.cells] at hcs
      obtain ⟨rfl, rfl, rfl⟩ := hcs
      exact ⟨zs, .inr ⟨_, rfl, hl, hm, by simpa using hz, hcell, hwz⟩⟩
  obtain ⟨a3, rfl, rfl, rfl, w3⟩ := open_int Tryd.underlying5 (hval 3 5 v3 rfl rfl) h3
  have hbk := of_decide_eq_true (hcd _ rfl)
  simp only [Rows.uptoBulkAll, List.append_nil] at hbk
  have b0 : sizeQ x0 ≤ 1048576 := by omega
  have w0 := wi0 b0
  have b1 : sizeQ x1 ≤ 1048576 := by omega
  have w1 := wi1 b1
  have r2 : cap2 ≤ 140737488355328 := by
    obtain ⟨fuel, hf⟩ := k2
    rcases open_ints Tryd.underlying22 Tryd.underlying5 (by kernel_rfl) hf with ⟨hcs, _⟩ | ⟨x, l, c, zs, hcs, _, hl, hm, hz, hd, _, _⟩
    · simp [Value.cells] at hcs
      omega
    · simp [Value.cells] at hcs
      obtain ⟨rfl, rfl, rfl⟩ := hcs
      have hd1 : d2 = .slice (lits .u8 (zs.take len2)) (lits .u8 (zs.drop len2)) := congrArg Prod.fst hd
      have hs := sized_slice hsz (j := 2) rfl (by rw [hd1]; rfl) Tryd.underlying22
      have hb : Tryd.checked.prog.bytesOf 5 = 1 := by kernel_rfl
      have hz' : zs.length = cap2 := by simpa using hz
      have hll : ∀ (k : IntKind) (l : List Int), (lits (H := H) k l).length = l.length := fun k l => by simp [lits]
      rw [hb, hll, hll, List.length_take, List.length_drop] at hs
      have := reachBytes_lt
      omega
  clear hA0 hval0
  refine (walk x0 f0 a0 c0 x1 f1 a1 c1 a2 len2 cap2 z2 a3 W w0 w1 w2 w3 (tabs_of hL hSh) r2 b0 b1).mono fun e W' ⟨he, bel⟩ => ?_
  subst he
  exact ⟨_, rfl, _, _, _, [], _, [], hW', trodAll_mk1 (shut_bool Tryd.underlying4 _), (trodAll_cons_mk (Below.trod laidOut (by kernel_rfl) (of_decide_eq_true (by kernel_rfl)) k0 bel lt0) (trodAll_cons_mk (Below.trod laidOut (by kernel_rfl) (of_decide_eq_true (by kernel_rfl)) k1 bel lt1) (trodAll_cons_mk (Below.trod laidOut (by kernel_rfl) (of_decide_eq_true (by kernel_rfl)) k2 bel lt2) (trodAll_cons_mk (shut_int Tryd.underlying5 w3) trodAll_mk0)))), rfl, bel.frame _, fun h => by cases h⟩

theorem said : Rows.HttpPrintsUptoSaid :=
  OpenClaim.holds_of_cond 4 Tryd.f4 rfl rfl rfl rfl rfl rfl rfl ⟨rfl, rfl, rfl, rfl, rfl⟩ rfl rfl rfl rfl rfl (by kernel_rfl) Tryd.func4 (by kernel_rfl)
    (of_decide_eq_true (by kernel_rfl)) (by unfold Func.isWrapper; first | (rw [if_pos (by decide +kernel)]; kernel_rfl) | (rw [if_neg (by decide +kernel)]; exact ⟨rfl, rfl⟩))
    (fun os started H enc _ F => by rw [OpenClaim.pre_eq_preRow]; exact lifted os started H enc F)

theorem plain (f : FuncId) (fn : Func) (hf : Tryd.pinned.checked.prog.funcNamed "wicketman/wicketmanlaw09.HttpPrints" = some f) (hfn : Tryd.pinned.checked.prog.funcs[f]? = some fn) :
    true = Tryd.pinned.checked.prog.looks [] ∧ ∀ (j : Nat) t, fn.params[j]? = some t → Tryd.pinned.checked.prog.wantsStandIn t = false := by
  obtain rfl : f = 4 := Option.some.inj ((show Tryd.prog.funcNamed "wicketman/wicketmanlaw09.HttpPrints" = some 4 by kernel_rfl).symm.trans hf) |>.symm
  obtain rfl : fn = Tryd.f4 := (Option.some.inj (Tryd.func4.symm.trans hfn)).symm
  have hall : (Tryd.f4.params.toList.all fun u => !Tryd.prog.wantsStandIn u) = true := by kernel_rfl
  refine ⟨by kernel_rfl, fun j t ht => ?_⟩
  have hm : t ∈ Tryd.f4.params.toList := by simpa using Array.mem_of_getElem? ht
  exact (show Tryd.prog.wantsStandIn t = false by simpa using List.all_eq_true.1 hall t hm)
end Go.Proofs.YtbojigimldfghaaDoor.httpPrintsUpto

namespace Go.Proofs.YtbojigimldfghaaDoor
/-- the given statement: the tied card -/
theorem httpPrintsUpto_card_holds : Rows.HttpPrintsUptoCardSaid :=
  Claim7.holds_tied_plain_at .later [] _ _ _ _ httpPrintsUpto.said (fun _ h => by cases h) (by kernel_rfl) (fun _ h => by cases h) httpPrintsUpto_row_tie rfl ⟨rfl, rfl⟩ (by kernel_rfl) rfl httpPrintsUpto.plain (by kernel_rfl)
#print axioms httpPrintsUpto_card_holds
end Go.Proofs.YtbojigimldfghaaDoor
