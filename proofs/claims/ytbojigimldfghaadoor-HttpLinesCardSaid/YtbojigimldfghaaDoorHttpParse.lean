/- Contract of http.Parse: what a request panics with is caught. -/
import Derived.Test.YtbojigimldfghaaDoorHttpReq
import Derived.Defers
import Derived.Recover
namespace Go.Proofs.YtbojigimldfghaaDoor
open Go.ChangeShapes Go.WideShapes Go.ChangeAt Go.RowKit
set_option linter.unusedVariables false
set_option linter.unusedSimpArgs false

/-- the deferred function, where nothing was panicked with -/
theorem catch_idle (p : Addr) (w : World) :
    CallsD Tryd.prog 49 #[.pointer (some p)] .returning w fun e u' w' => e = .returned (.tuple #[]) ∧ u' = .returning ∧ w' = w := by
  refine callsD_of_wpS Tryd.func49 rfl fun c₀ cs hu => ?_
  apply wpS_seq
  apply wpS_region
  simp [wpOpsS, go_sem, recoverD, hu, Tryd.ntmps49, Exit.thenS]
  apply wpS_seq
  apply wpS_seq
  apply wpS_region
  simp [wpOpsS, go_sem, Exit.thenS]
  refine wpS_cond (t := true) (by simp [Act.eval, Array.replicate]) ?_
  simp only [if_true]
  refine wpS_of_wp (wp_ret ?_)
  cases c₀
  simp_all [bodyPostS, results, Tryd.results49, Exit.thenS]
/-- the error's cell -/
def ECell (w : World) (g : Nat) (x : Int) : Prop := w.heap[g]? = some (.cells #[.int .u16 x] 24 (0, 0))
theorem ECell.lt {w : World} {g : Nat} {x : Int} (h : ECell w g x) : g < w.heap.size := (Array.getElem?_eq_some_iff.1 h).1
theorem ECell.c {w : World} {g : Nat} {x : Int} (h : ECell w g x) : w.cell? ⟨g, 0, none⟩ = some (.int .u16 x) := by rw [cell_of_row w g 0 _ _ _ h]; rfl
theorem ECell.fz {w : World} {g : Nat} {x : Int} (h : ECell w g x) : w.frozen? ⟨g, 0, none⟩ = false := by unfold ECell at h; simp [World.frozen?, h]
theorem ECell.new (w : World) (x : Int) : ECell (w.alloc (.cells #[.int .u16 x] 24)) w.heap.size x := heap_alloc_new w _
theorem ECell.keep {w w' : World} {g : Nat} {x : Int} (h : ECell w g x) (hb : w'.heap[g]? = w.heap[g]?) : ECell w' g x := hb.trans h
theorem ECell.set {w : World} {g : Nat} {x : Int} (h : ECell w g x) (y : Int) : ECell (w.setCell ⟨g, 0, none⟩ (.int .u16 y)) g y := by
  have hlt := h.lt
  unfold ECell at h ⊢
  have h' : w.heap[g] = .cells #[.int .u16 x] 24 (0, 0) := (Array.getElem?_eq_some_iff.1 h).2
  rw [Array.getElem?_eq_some_iff]
  refine ⟨by simpa [World.setCell] using hlt, ?_⟩
  simp only [World.setCell]
  rw [Array.getElem_modify, if_pos rfl, h']
  rfl
/-- what the deferred function leaves where a request panicked -/
def wrongW (w : World) (g n : Nat) : World := (w.alloc (.cells #[.int .u16 (n : Int)] 85)).setCell ⟨g, 0, none⟩ (.int .u16 (n : Int))
set_option maxRecDepth 100000 in
set_option maxHeartbeats 2000000 in
/-- .. where a request panicked -/
theorem catch_wrong (g : Nat) (n : Nat) (x : Int) (older : List PanicEntry) (w : World) (h : ECell w g x) :
    CallsD Tryd.prog 49 #[.pointer (some ⟨g, 0, none⟩)] (.panicking ({ v := wrongV n, recovered := false } :: older)) w fun e u' w' =>
      e = .returned (.tuple #[]) ∧ u' = .panicking ({ v := wrongV n, recovered := true } :: older) ∧ w' = wrongW w g n := by
  unfold wrongV wrongW
  have hta : ∀ w : World, (Instr.typeAssert (.iface 85 (.agg #[.int .u16 (n : Int)])) 20 85 true).run Tryd.prog w = .ok (.tuple #[.agg #[.int .u16 (n : Int)], .bool true]) w := fun w => by kernel_rfl
  have h2 : ECell (w.alloc (.cells #[.int .u16 (n : Int)] 85)) g x := h.keep ((below_new w _).block _ h.lt)
  have hc := h2.c
  have hz := h2.fz
  refine callsD_of_wpS Tryd.func49 rfl fun c₀ cs hu => ?_
  apply wpS_seq
  apply wpS_region
  simp [wpOpsS, go_sem, recoverD, hu, Tryd.ntmps49, Exit.thenS]
  apply wpS_seq
  apply wpS_seq
  apply wpS_region
  simp [wpOpsS, go_sem, Exit.thenS]
  refine wpS_cond (t := false) (by simp [Act.eval, Array.replicate]) ?_
  simp only [Bool.false_eq_true, if_false]
  refine wpS_of_wp (wp_skip ?_)
  simp only [Exit.thenS]
  refine wpS_of_wp ?_
  simp only [Array.replicate_succ, Array.replicate_zero, List.push_toArray, List.setIfInBounds_toArray, List.set_cons_succ, List.set_cons_zero, List.append_toArray, List.nil_append, List.cons_append]
  go_wp2
  cases c₀
  simp [bodyPostS, results, Tryd.results49]
theorem wrongW_grown (w : World) (g n : Nat) : w.grownBy (wrongW w g n) (some g) :=
  grown_then (grown_below (below_new w _) (some g)) (grown_cellB _ g 0 _)
theorem wrongW_cell {w : World} {g n : Nat} {x : Int} (h : ECell w g x) : ECell (wrongW w g n) g (n : Int) :=
  (h.keep ((below_new w _).block _ h.lt)).set _

/-- the function that Parse has caught: what it leaves of q's cells -/
def PClos (R : ReqL × Nat) (gq : Nat) (w : World) (e : Ending) (w' : World) : Prop :=
  w.grownBy w' (some gq) ∧ ((R.2 = 0 ∧ e = .returned (.tuple #[]) ∧ ∃ fv A c, QCell w' gq (.string (strOf R.1.m)) (.string (strOf R.1.p)) fv (.slice A R.1.body.length c) ∧ ReqNew w.heap.size fv A c R.1 w') ∨ (R.2 ≠ 0 ∧ e = .panicked [wrongE R.2] ∧ QCell w' gq (.string ⟨#[]⟩) (.string ⟨#[]⟩) (.slice none 0 0) (.slice none 0 0)))
set_option maxRecDepth 8000 in
set_option maxHeartbeats 2000000 in
theorem pclos_any (gb gq : Nat) (A : Option Addr) (bs : List UInt8) (n c : Nat) (w : World) (hc : w.cell? ⟨gb, 0, none⟩ = some (.slice A n c)) (hq : QCell w gq (.string ⟨#[]⟩) (.string ⟨#[]⟩) (.slice none 0 0) (.slice none 0 0)) (hp : PieceOk w ⟨A, c, bs⟩) (hn : bs.length = n) (hl : n ≤ 100000) (hm : MaxOk w) :
    Calls Tryd.prog 38 #[.pointer (some ⟨gb, 0, none⟩), .pointer (some ⟨gq, 0, none⟩)] w (PClos (reqL bs) gq w) := by
  have HRQ := hideIt (request_any A bs n c w hp hn hl hm)
  have HQ := hideIt hq
  obtain ⟨R, hR⟩ : ∃ R, reqL bs = R := ⟨_, rfl⟩
  rw [hR] at HRQ ⊢
  clear hq hp hm hR
  by_cases h0 : R.2 = 0
  · have H0 := hideIt h0
    go_enter Tryd.func38, Tryd.ntmps38
    go_wp2_with fail
    refine HRQ.out.mono ?_
    rintro e w2 ⟨⟨v, he, hk⟩, hb⟩
    obtain ⟨fv, A', c', rfl, hnew⟩ := hk h0
    obtain ⟨FA, fc, rfl, _⟩ := hnew.fields.open
    rw [endE, if_pos h0] at he
    subst he
    generalize hfl : R.1.fs.length = fl at *
    have Z := HQ.out.keep hb HQ.out.lt
    have q0 := Z.fz 0
    have q1 := Z.fz 1
    have q2 := Z.fz 2
    have q3 := Z.fz 3
    have k0 := Z.c0
    have k1 := Z.c1
    have k2 := Z.c2
    have k3 := Z.c3
    have ZS := hideIt (Z.set (.string (strOf R.1.m)) (.string (strOf R.1.p)) (.slice FA fl fc) (.slice A' R.1.body.length c'))
    have GS := hideIt (grown_setQ w2 gq (.string (strOf R.1.m)) (.string (strOf R.1.p)) (.slice FA fl fc) (.slice A' R.1.body.length c'))
    have NW := hideIt (hnew.grown GS.out HQ.out.lt)
    have G2 := hideIt (grown_then (grown_below hb (some gq)) GS.out)
    clear hb hnew Z h0
    unfold reqV
    go_wp2_with fail
    first | go_end0 | go_ret
    exact ⟨G2.out, .inl ⟨H0.out, rfl, .slice FA fl fc, A', c', ZS.out, NW.out⟩⟩
  · have H0 := hideIt h0
    go_enter Tryd.func38, Tryd.ntmps38
    go_wp2_with fail
    refine HRQ.out.mono ?_
    rintro e w2 ⟨⟨v, he, _⟩, hb⟩
    rw [endE, if_neg h0] at he
    subst he
    have Z := hideIt (HQ.out.keep hb HQ.out.lt)
    have G2 := hideIt (grown_below hb (some gq))
    clear hb h0
    go_wp2_with fail
    exact ⟨rfl, G2.out, .inr ⟨H0.out, rfl, Z.out⟩⟩
theorem go_pclos : goFn Tryd.prog 38 = true := by kernel_rfl

/-- what is left of q, and which error is told -/
def PCaught (R : ReqL × Nat) (gq : Nat) (w : World) (e : Ending) (w' : World) : Prop :=
  w.grownBy w' (some gq) ∧ e = .returned (.int .u16 (R.2 : Int)) ∧ ((R.2 = 0 ∧ ∃ fv A c, QCell w' gq (.string (strOf R.1.m)) (.string (strOf R.1.p)) fv (.slice A R.1.body.length c) ∧ ReqNew w.heap.size fv A c R.1 w') ∨ (R.2 ≠ 0 ∧ QCell w' gq (.string ⟨#[]⟩) (.string ⟨#[]⟩) (.slice none 0 0) (.slice none 0 0)))
theorem grown_past {w w2 : World} {r : Option Nat} (h : w.grownBy w2 r) (g i : Nat) (v : Value) (hg : w.heap.size ≤ g) : w.grownBy (w2.setCell ⟨g, i, none⟩ v) r :=
  ⟨h.os, h.tape, h.output, by simpa [World.setCell] using h.size, fun k hk hr => (heap_setCell_past _ _ _ _ _ (by omega)).trans (h.block k hk hr)⟩
theorem grown_from {w w1 w2 : World} {g : Nat} (h : Below w.heap.size w w1) (hb : w1.grownBy w2 (some g)) : w.grownBy w2 (some g) := grown_then (grown_below h _) hb
theorem QCell.block {w w' : World} {g : Nat} {m p fv bv : Value} (h : QCell w g m p fv bv) (hb : w'.heap[g]? = w.heap[g]?) : QCell w' g m p fv bv := hb.trans h
/-- an answer: an error in a cell -/
theorem results_E {fn : Func} {q : Tmp} (h : fn.results = #[.cell q 24]) (tmps : Array Value) (w : World) (g : Nat) (x : Int) (hq : tmps.getD q undef = .pointer (some ⟨g, 0, none⟩)) (hA : ECell w g x) :
    (results fn tmps).run Tryd.prog w = .ok (.int .u16 x) w := by
  have e : (results fn tmps).run Tryd.prog w = ((asAddr (tmps.getD q undef)).run Tryd.prog w).andThen fun a w₁ => (loadVar 24 a).run Tryd.prog w₁ := by
    simp only [results, h]
    simp [Sem.run_bind, Result.andThen]
  rw [e, hq]
  have hc := hA.c
  simp [asAddr, Result.andThen]
  go_simp
set_option maxRecDepth 8000 in
set_option maxHeartbeats 2000000 in
theorem caught_any (gb gq : Nat) (R : ReqL × Nat) (w : World) (hlt : gq < w.heap.size) (hz : QCell w gq (.string ⟨#[]⟩) (.string ⟨#[]⟩) (.slice none 0 0) (.slice none 0 0))
    (hcl : ∀ w', Below w.heap.size w w' → Calls Tryd.prog 38 #[.pointer (some ⟨gb, 0, none⟩), .pointer (some ⟨gq, 0, none⟩)] w' (PClos R gq w')) :
    Calls Tryd.prog 37 #[.func (.func 38) #[] #[.pointer (some ⟨gb, 0, none⟩), .pointer (some ⟨gq, 0, none⟩)]] w (PCaught R gq w) := by
  have hmf : ∀ (fn : Fn) (first cap : Array Value) (w : World), (Instr.makeFunc fn first cap).run Tryd.prog w = .ok (.func fn first cap) w := fun _ _ _ _ => rfl
  have HC := hideIt (hcl (w.alloc (.cells #[.int .u16 0] 24)) (below_new w _))
  have E0 := hideIt (ECell.new w 0)
  have GE : Hid (w.heap.size ≠ gq) := hideIt (by omega)
  have G0 := hideIt (grown_below (below_new w (.cells #[.int .u16 0] 24)) (some gq))
  have HLT := hideIt hlt
  have S0 : Hid ((w.alloc (.cells #[.int .u16 0] 24)).heap.size = w.heap.size + 1) := hideIt (alloc_size _ _)
  clear hcl hz
  go_enter_defers Tryd.func37, Tryd.ntmps37
  go_wp2_with fail
  refine HC.out.mono ?_
  rintro e w2 ⟨hg, ⟨h0, rfl, fv, A', c', hq, hnew⟩ | ⟨h0, rfl, hq⟩⟩
  · have E2 := hideIt (E0.out.keep (hg.block _ (by rw [S0.out]; omega) (fun e => GE.out (Option.some.inj e))))
    have c0 := E2.out.c
    have z0 := E2.out.fz
    have P : Hid (PCaught R gq w (.returned (.int .u16 0)) (w2.setCell ⟨w.heap.size, 0, none⟩ (.int .u16 0))) := hideIt ⟨grown_past (grown_from (below_new w _) hg) _ _ _ (Nat.le_refl _), by rw [h0]; rfl, .inl ⟨h0, fv, A', c', hq.block (heap_setCell_past _ _ _ _ _ (fun e => GE.out e.symm)), (hnew.grown (grown_cellB w2 w.heap.size 0 _) (by rw [S0.out]; omega)).base (by rw [S0.out]; omega)⟩⟩
    have ES := hideIt (E2.out.set 0)
    clear hg hq hnew h0
    go_wp2_with fail
    refine leaves_cons (f := 49) (args := #[.pointer (some ⟨w.heap.size, 0, none⟩)]) (by simp) (by simp [go_sem]) ?_
    refine (catch_idle ⟨w.heap.size, 0, none⟩ _).mono ?_
    rintro e u' w3 ⟨rfl, rfl, rfl⟩
    exact ⟨_, results_E Tryd.results37 _ _ w.heap.size 0 rfl ES.out, P.out⟩
  · have E2 := hideIt (E0.out.keep (hg.block _ (by rw [S0.out]; omega) (fun e => GE.out (Option.some.inj e))))
    have P : Hid (PCaught R gq w (.returned (.int .u16 (R.2 : Int))) (wrongW w2 w.heap.size R.2)) := hideIt ⟨grown_past (grown_then (grown_from (below_new w _) hg) (grown_below (below_new w2 _) _)) _ _ _ (Nat.le_refl _), rfl, .inr ⟨h0, hq.block ((heap_setCell_past _ _ _ _ _ (fun e => GE.out e.symm)).trans ((below_new w2 _).block _ hq.lt))⟩⟩
    have ES := hideIt (wrongW_cell (n := R.2) E2.out)
    clear hg hq h0
    go_wp2_with fail
    unfold wrongE
    refine leaves_cons (f := 49) (args := #[.pointer (some ⟨w.heap.size, 0, none⟩)]) (by simp) (by simp [go_sem]) ?_
    refine (catch_wrong w.heap.size R.2 0 [] w2 E2.out).mono ?_
    rintro e u' w3 ⟨rfl, rfl, rfl⟩
    exact ⟨_, results_E Tryd.results37 _ _ w.heap.size _ rfl ES.out, P.out⟩
theorem go_caught : goFn Tryd.prog 37 = true := by kernel_rfl

/-- what Parse answers -/
def ParsePost (R : ReqL × Nat) (w : World) (e : Ending) (w' : World) : Prop :=
  ∃ fv A c, e = .returned (.tuple #[reqV R.1 fv A c, .int .u16 (R.2 : Int)]) ∧ ReqParts fv A c R.1 w' ∧ Below w.heap.size w w'
theorem req_zero' (b : List UInt8) (h : (reqL b).2 ≠ 0) : (reqL b).1 = ReqZ := req_zero h
set_option maxRecDepth 8000 in
set_option maxHeartbeats 2000000 in
theorem parse_any (A : Option Addr) (bs : List UInt8) (n c : Nat) (w : World) (hp : PieceOk w ⟨A, c, bs⟩) (hn : bs.length = n) (hl : n ≤ 100000) (hm : MaxOk w) :
    Calls Tryd.prog 23 #[.slice A n c] w (ParsePost (reqL bs) w) := by
  have hmf : ∀ (fn : Fn) (first cap : Array Value) (w : World), (Instr.makeFunc fn first cap).run Tryd.prog w = .ok (.func fn first cap) w := fun _ _ _ _ => rfl
  obtain ⟨X1, hX1⟩ : ∃ X, w.alloc (.cells #[.slice A n c] 22) = X := ⟨_, rfl⟩
  have b1 : Below w.heap.size w X1 := by rw [← hX1]; exact below_new w _
  have s1 : X1.heap.size = w.heap.size + 1 := by rw [← hX1, alloc_size]
  have k1 : X1.cell? ⟨w.heap.size, 0, none⟩ = some (.slice A n c) := by rw [← hX1, cell_of_row _ _ _ _ _ _ (heap_alloc_new w _)]; rfl
  obtain ⟨X2, hX2⟩ : ∃ X, X1.alloc zeroQ = X := ⟨_, rfl⟩
  have b2 : Below X1.heap.size X1 X2 := by rw [← hX2]; exact below_new X1 _
  have s2 : X2.heap.size = w.heap.size + 2 := by rw [← hX2, alloc_size, s1]
  have z2 : QCell X2 (w.heap.size + 1) (.string ⟨#[]⟩) (.string ⟨#[]⟩) (.slice none 0 0) (.slice none 0 0) := by rw [← hX2, ← s1]; exact QCell.zero X1
  obtain ⟨X3, hX3⟩ : ∃ X, X2.alloc zeroQ = X := ⟨_, rfl⟩
  have b3 : Below X2.heap.size X2 X3 := by rw [← hX3]; exact below_new X2 _
  have s3 : X3.heap.size = w.heap.size + 3 := by rw [← hX3, alloc_size, s2]
  have z3 : QCell X3 (w.heap.size + 2) (.string ⟨#[]⟩) (.string ⟨#[]⟩) (.slice none 0 0) (.slice none 0 0) := by rw [← hX3, ← s2]; exact QCell.zero X2
  have z2' := z2.keep b3 (by omega)
  have B3 := hideIt (below_then (below_then b1 b2) b3)
  have KC : Hid (X3.cell? ⟨w.heap.size, 0, none⟩ = some (.slice A n c)) := hideIt ((b3.cell (p := ⟨w.heap.size, 0, none⟩) (show w.heap.size < _ by omega)).trans ((b2.cell (p := ⟨w.heap.size, 0, none⟩) (show w.heap.size < _ by omega)).trans k1))
  have Z2 := hideIt z2'
  have Z3 := hideIt z3
  have S3 := hideIt s3
  have HX : Hid (((w.alloc (.cells #[.slice A n c] 22)).alloc (.cells #[.string ⟨#[]⟩, .string ⟨#[]⟩, .slice none 0 0, .slice none 0 0] 33)).alloc (.cells #[.string ⟨#[]⟩, .string ⟨#[]⟩, .slice none 0 0, .slice none 0 0] 33) = X3) := hideIt (by rw [hX1]; exact (congrArg (fun x => World.alloc x zeroQ) hX2).trans hX3)
  have HCL : Hid (∀ w', Below X3.heap.size X3 w' → Calls Tryd.prog 38 #[.pointer (some ⟨w.heap.size, 0, none⟩), .pointer (some ⟨w.heap.size + 2, 0, none⟩)] w' (PClos (reqL bs) (w.heap.size + 2) w')) :=
    hideIt fun w' hb => pclos_any w.heap.size (w.heap.size + 2) A bs n c w' ((hb.cell (p := ⟨w.heap.size, 0, none⟩) (show w.heap.size < _ by omega)).trans KC.out) (z3.keep hb (by omega)) ((hp.keep B3.out).keep hb) hn hl ((hm.keep B3.out).keep hb)
  have HRZ := hideIt (req_zero' bs)
  obtain ⟨R, hR⟩ : ∃ R, reqL bs = R := ⟨_, rfl⟩
  rw [hR] at HCL HRZ ⊢
  have HCA := hideIt (caught_any w.heap.size (w.heap.size + 2) R X3 (by omega) z3 HCL.out)
  clear hR hp hm hX1 b1 s1 k1 hX2 b2 s2 z2 hX3 b3 s3 z3 z2' HCL
  go_enter Tryd.func23, Tryd.ntmps23
  go_wp2_with fail
  rw [HX.out]
  refine HCA.out.mono ?_
  rintro e w4 ⟨hg, rfl, hcase⟩
  have hb4 : Below w.heap.size w w4 := B3.out.grown hg (by rw [S3.out]; omega) (fun j hj => by cases hj; omega)
  have Z4 := Z2.out.block (hg.block (w.heap.size + 1) (by rw [S3.out]; omega) (fun e => by have := Option.some.inj e; omega))
  have B4 := hideIt hb4
  have q0 := Z4.fz 0
  have q1 := Z4.fz 1
  have q2 := Z4.fz 2
  have q3 := Z4.fz 3
  have k0 := Z4.c0
  have k1 := Z4.c1
  have k2 := Z4.c2
  have k3 := Z4.c3
  have Z4 := hideIt Z4
  rcases hcase with ⟨h0, fv, A', c', hq, hnew⟩ | ⟨h0, hq⟩
  · obtain ⟨FA, fc, rfl, _⟩ := hnew.fields.open
    have ZS := hideIt (Z4.out.set (.string (strOf R.1.m)) (.string (strOf R.1.p)) (.slice FA R.1.fs.length fc) (.slice A' R.1.body.length c'))
    have BS := hideIt (below_setQ B4.out (show w.heap.size ≤ w.heap.size + 1 by omega) (.string (strOf R.1.m)) (.string (strOf R.1.p)) (.slice FA R.1.fs.length fc) (.slice A' R.1.body.length c'))
    have NW := hideIt (hnew.grown (grown_setQ w4 (w.heap.size + 1) (.string (strOf R.1.m)) (.string (strOf R.1.p)) (.slice FA R.1.fs.length fc) (.slice A' R.1.body.length c')) (by rw [S3.out]; omega))
    have hld := hq.load
    have y0 := hq.c0
    have y1 := hq.c1
    have y2 := hq.c2
    have y3 := hq.c3
    generalize hfl : R.1.fs.length = fl at *
    clear hg hq hnew hb4 Z4 h0
    go_wp2_with fail
    (try simp only [Exit.inBlock, Exit.then])
    refine bodyPost_ret (results_Q2 Tryd.results23 _ _ (w.heap.size + 1) (.string (strOf R.1.m)) (.string (strOf R.1.p)) (.slice FA fl fc) (.slice A' R.1.body.length c') _ rfl rfl (by exact ZS.out)) rfl ?_
    exact ⟨.slice FA fl fc, A', c', rfl, NW.out.parts, BS.out⟩
  · have e := HRZ.out h0
    have ZS := hideIt (Z4.out.set (.string ⟨#[]⟩) (.string ⟨#[]⟩) (.slice none 0 0) (.slice none 0 0))
    have BS := hideIt (below_setQ B4.out (show w.heap.size ≤ w.heap.size + 1 by omega) (.string ⟨#[]⟩) (.string ⟨#[]⟩) (.slice none 0 0) (.slice none 0 0))
    have E := hideIt e
    have y0 := hq.c0
    have y1 := hq.c1
    have y2 := hq.c2
    have y3 := hq.c3
    clear hg hq hb4 Z4 h0 e HRZ
    go_wp2_with fail
    (try simp only [Exit.inBlock, Exit.then])
    refine bodyPost_ret (results_Q2 Tryd.results23 _ _ (w.heap.size + 1) (.string ⟨#[]⟩) (.string ⟨#[]⟩) (.slice none 0 0) (.slice none 0 0) _ rfl rfl (by exact ZS.out)) rfl ?_
    exact ⟨.slice none 0 0, none, 0, by rw [E.out]; rfl, by rw [E.out]; exact ReqParts.zero _, BS.out⟩
theorem go_parse : goFn Tryd.prog 23 = true := by kernel_rfl
end Go.Proofs.YtbojigimldfghaaDoor
