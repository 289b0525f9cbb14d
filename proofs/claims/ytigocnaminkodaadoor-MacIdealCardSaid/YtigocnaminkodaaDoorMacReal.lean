/- The contracts of mac.Code, mac.Real and of the two calls of a Maker by a key. -/
import Derived.Test.YtigocnaminkodaaDoorMacCode
import Derived.Laws.Tables
namespace Go.Proofs.YtigocnaminkodaaDoor
open Go.ChangeShapes Go.WideShapes Go.ChangeAt Go.RowKit
set_option linter.unusedVariables false

theorem piece_of {w : World} {A : Option Addr} {bs : List UInt8} {n c : Nat} (hp : PieceOk w ⟨A, c, bs⟩) (hn : bs.length = n) : n ≤ 140737488355328 ∧ n ≤ c ∧ c ≤ 9223372036854775807 := by
  have h1 := hp.long; have h2 := hp.fits; have h3 := hp.most
  simp only at h1 h2 h3; omega
theorem code_any (K : Option Addr) (key : List UInt8) (kn kc : Nat) (A : Option Addr) (msg : List UInt8) (n c : Nat) (w : World) (hT : Tabs w) (hk : PieceOk w ⟨K, kc, key⟩) (hkn : key.length = kn) (hp : PieceOk w ⟨A, c, msg⟩) (hn : msg.length = n) :
    Calls Tryd.prog 22 #[.slice K kn kc, .slice A n c] w (Coded w (codeL key msg)) := by
  have hm := piece_of hp hn
  have hb := blockOf_any K key kn kc w hT hk hkn
  have HC : Hid (∀ w1, Grew w w1 → Calls Tryd.prog 40 #[.agg (arrC (keyL key)), .slice A n c] w1 (Coded w1 (codeKL (keyL key) msg))) := hideIt fun w1 hg => codeBy_any (keyL key) A msg n c w1 (keyL_length key) (hT.keep hg) (hp.keep hg) hn
  clear hT hk hp
  go_enter Tryd.func22, Tryd.ntmps22
  go_wp2_with fail
  refine hb.mono ?_
  rintro e w1 ⟨rfl, b1⟩
  clear hb
  go_wp2_with fail
  refine (HC.out w1 b1).mono ?_
  rintro e w2 ⟨v, rfl, h2, b2⟩
  have H2 : Hid (Coded w (codeL key msg) (.returned v) w2) := hideIt ⟨v, rfl, by
    obtain ⟨g, h3, h4, h5⟩ := h2
    have := b1.size
    exact ⟨g, by omega, h4, own_base h5 (by omega)⟩, below_then b1 b2⟩
  clear h2 b2 HC
  go_wp2_with fail
  go_ret
  exact H2.out

theorem Coded.fact {w w' : World} {l : List UInt8} {e : Ending} {B : Nat} (hb : B ≤ w.heap.size) (h : Coded w l e w') : ∃ v, e = .returned v ∧ (Fact.own B 32 l).p v w' ∧ Grew w w' := by
  obtain ⟨v, h1, ⟨g, h2, h3, h4⟩, h5⟩ := h
  exact ⟨v, h1, ⟨g, by omega, h3, own_base h4 (by omega)⟩, h5⟩
theorem go_code : goFn Tryd.prog 22 = true := by kernel_rfl
/-- a struct of one field that fills it -/
theorem fold_lay (l : List Value) : ∀ (o : Nat) (cs : Array Value), o + l.length ≤ cs.size → (l.zipIdx o).foldl (fun (cs : Array Value) (x : Value × Nat) => cs.setIfInBounds (0 + x.2) x.1) cs = (cs.toList.take o ++ l ++ cs.toList.drop (o + l.length)).toArray := by
  induction l with
  | nil => intro o cs h; simp
  | cons v l ih =>
    intro o cs h
    simp only [List.length_cons] at h
    rw [List.zipIdx_cons, List.foldl_cons, ih (o + 1) _ (by simp; omega)]
    have := list_seg_step cs.toList o v l (by simp; omega)
    simp only [Nat.zero_add, Array.toList_setIfInBounds, List.length_cons]
    rw [this]
theorem fill_whole (place : Nat → Option (Nat × Nat)) (cells vs : Array Value) (h : place 0 = some (0, vs.size)) (hs : cells.size = vs.size) : Instr.fill place cells [(0, .agg vs)] = some vs := by
  have e : (Value.agg vs).cells = vs := rfl
  have h2 := fold_lay vs.toList 0 cells (by simp [hs])
  simp only [Instr.fill, h, e]
  rw [if_neg (by simp [hs])]
  congr 1
  have e2 : vs.zipIdx.foldl (fun cs x => cs.setIfInBounds (0 + x.2) x.1) cells = (vs.toList.zipIdx 0).foldl (fun (cs : Array Value) (x : Value × Nat) => cs.setIfInBounds (0 + x.2) x.1) cells := by
    rw [← Array.foldl_toList, Array.toList_zipIdx]
  refine e2.trans (h2.trans ?_)
  rw [List.take_zero, List.nil_append, Nat.zero_add, List.drop_of_length_le (by simp [hs])]
  simp
theorem built_real (k : List UInt8) (hk : k.length = 64) : Tryd.prog.built 71 [(0, .agg (arrC k))] = some (arrC k) := by
  have hz : (Tryd.prog.info? 71).bind (·.zero) = some (.agg (arrC (List.replicate 64 0))) := by kernel_rfl
  have hp : (match Tryd.prog.underlying 71 with | some (.struct fields) => (fields.toList.mapM (fun f => (Tryd.prog.info? f.type).map fun i => (f.offset, i.size))) | _ => none) = some [(0, 64)] := by kernel_rfl
  unfold Program.built
  cases hi : Tryd.prog.info? 71 with
  | none => rw [hi] at hz; cases hz
  | some it =>
    rw [hi] at hz
    cases hu : Tryd.prog.underlying 71 with
    | none => rw [hu] at hp; cases hp
    | some d =>
      rw [hu] at hp
      cases d <;> simp only [] at hp <;> try (cases hp; done)
      simp only [Option.bind_some] at hz
      simp only [hz, hp]
      exact fill_whole _ _ _ (by rw [arrC_size, hk]; rfl) (by rw [show (Value.agg (arrC (List.replicate 64 0))).cells = arrC (List.replicate 64 0) from rfl, arrC_size, arrC_size, hk, List.length_replicate])
theorem meth_enter {t : TypeId} {v r : Value} {name : String} {f : FuncId} {w : World} (hm : (method (Tryd.prog.types.size + Made.depth) t v name).run Tryd.prog w = .ok (f, r) w) (hf : goFn Tryd.prog f = true) (vs : Array Value) : (callMethod (.iface t v) name vs).run Tryd.prog w = .ok (.enter f (#[r] ++ vs)) w := by
  simp only [callMethod, Sem.run_bind, run_program, Result.andThen_ok, hm]
  exact run_enter hf _ w
theorem meth_realMake (v : Value) (vs : Array Value) (w : World) : (callMethod (.iface 71 v) "Make" vs).run Tryd.prog w = .ok (.enter 63 (#[v] ++ vs)) w :=
  meth_enter (by kernel_rfl) (by kernel_rfl) vs
theorem meth_realProve (v : Value) (vs : Array Value) (w : World) : (callMethod (.iface 71 v) "Prove" vs).run Tryd.prog w = .ok (.enter 64 (#[v] ++ vs)) w :=
  meth_enter (by kernel_rfl) (by kernel_rfl) vs
theorem meth_idealMake (v : Value) (vs : Array Value) (w : World) : (callMethod (.iface 73 v) "Make" vs).run Tryd.prog w = .ok (.enter 65 (#[v] ++ vs)) w :=
  meth_enter (by kernel_rfl) (by kernel_rfl) vs
theorem meth_idealProve (v : Value) (vs : Array Value) (w : World) : (callMethod (.iface 73 v) "Prove" vs).run Tryd.prog w = .ok (.enter 66 (#[v] ++ vs)) w :=
  meth_enter (by kernel_rfl) (by kernel_rfl) vs

theorem call_realMake (v x : Value) (w : World) : (callMethod (.iface 71 v) "Make" #[x]).run Tryd.prog w = .ok (.enter 63 #[v, x]) w := meth_realMake v #[x] w
theorem call_realProve (v x y : Value) (w : World) : (callMethod (.iface 71 v) "Prove" #[x, y]).run Tryd.prog w = .ok (.enter 64 #[v, x, y]) w := meth_realProve v #[x, y] w
theorem call_idealMake (v x : Value) (w : World) : (callMethod (.iface 73 v) "Make" #[x]).run Tryd.prog w = .ok (.enter 65 #[v, x]) w := meth_idealMake v #[x] w
theorem call_idealProve (v x y : Value) (w : World) : (callMethod (.iface 73 v) "Prove" #[x, y]).run Tryd.prog w = .ok (.enter 66 #[v, x, y]) w := meth_idealProve v #[x, y] w
theorem wpList_buildReal {ops : Array Oper} {rest : List Oper} {o : Oper} {a : Act} {w : World} {Q : Exit → Act → World → Prop} (hgd : o.guard = none) (x : Operand) (ho : o.op = .build 71 #[(0, x)]) (k : List UInt8) (hk : k.length = 64) (hx : a.eval x = .agg (arrC k))
    (h : wpList Tryd.prog ops Q rest (a.put o.dst (.agg (arrC k))) w) : wpList Tryd.prog ops Q (o :: rest) a w := by
  have hr := run_build w _ #[(0, Value.agg (arrC k))] _ (built_real k hk)
  refine wpList_run hgd ?_ h
  simp [execOp, ho, hx, hr]
/-- a Maker by a key -/
def realV (k : List UInt8) : Value := .iface 71 (.agg (arrC k))
theorem real_any (K : Option Addr) (key : List UInt8) (kn kc : Nat) (w : World) (hT : Tabs w) (hk : PieceOk w ⟨K, kc, key⟩) (hkn : key.length = kn) :
    Calls Tryd.prog 21 #[.slice K kn kc] w fun e w' => e = .returned (realV (keyL key)) ∧ Below w.heap.size w w' := by
  have hb := blockOf_any K key kn kc w hT hk hkn
  clear hT hk
  have hkl := keyL_length key
  generalize keyL key = k at *
  go_enter Tryd.func21, Tryd.ntmps21
  go_wp2_with fail
  refine hb.mono ?_
  rintro e w1 ⟨rfl, b1⟩
  clear hb
  go_wp2_with (refine wpList_buildReal rfl (.tmp 4) rfl k hkl rfl ?_)
  go_ret
  exact ⟨rfl, b1⟩
/-- Make of a Maker by a key -/
theorem realMake_any (k : List UInt8) (A : Option Addr) (msg : List UInt8) (n c : Nat) (w : World) (hk : k.length = 64) (hT : Tabs w) (hp : PieceOk w ⟨A, c, msg⟩) (hn : msg.length = n) :
    Calls Tryd.prog 63 #[.agg (arrC k), .slice A n c] w (Coded w (codeKL k msg)) := by
  have hm := piece_of hp hn
  generalize e1 : w.alloc (.cells (arrC k) 71) = X1
  have s1 : X1.heap.size = w.heap.size + 1 := by rw [← e1, alloc_size]
  have a1 : BArr X1 w.heap.size 71 k := e1 ▸ BArr.made w _ k
  have b1 : Below w.heap.size w X1 := e1 ▸ below_one (Below.refl _ _) _
  have HC := hideIt (codeBy_any k A msg n c X1 hk (hT.keep b1) (hp.keep b1) hn)
  clear hT hp hm
  rw [← e1] at a1
  replace e1 := hideIt e1
  go_enter Tryd.func63, Tryd.ntmps63
  go_wp2_with (refine wpList_load64b rfl (.tmp 5) rfl w.heap.size 71 k rfl (by exact a1) hk ?_)
  rw [e1.out]
  refine HC.out.mono ?_
  rintro e w2 ⟨v, rfl, h2, b2⟩
  have H2 : Hid (Coded w (codeKL k msg) (.returned v) w2) := hideIt ⟨v, rfl, by
    obtain ⟨g, h3, h4, h5⟩ := h2
    exact ⟨g, by omega, h4, own_base h5 (by omega)⟩, below_then b1 b2⟩
  clear h2 b2 HC
  go_wp2_with fail
  go_ret
  exact H2.out
/-- Prove of a Maker by a key -/
theorem realProve_any (k : List UInt8) (A B : Option Addr) (msg code : List UInt8) (n c m d : Nat) (w : World) (hk : k.length = 64) (hT : Tabs w) (hp : PieceOk w ⟨A, c, msg⟩) (hn : msg.length = n) (hq : PieceOk w ⟨B, d, code⟩) (hm : code.length = m) :
    Calls Tryd.prog 64 #[.agg (arrC k), .slice A n c, .slice B m d] w fun e w' => e = .returned (.bool (decide (codeKL k msg = code))) ∧ Below w.heap.size w w' := by
  have hm1 := piece_of hp hn
  have hm2 := piece_of hq hm
  generalize e1 : w.alloc (.cells (arrC k) 71) = X1
  have a1 : BArr X1 w.heap.size 71 k := e1 ▸ BArr.made w _ k
  have b1 : Below w.heap.size w X1 := e1 ▸ below_one (Below.refl _ _) _
  have HC := hideIt (realMake_any k A msg n c X1 hk (hT.keep b1) (hp.keep b1) hn)
  have hq1 := hq.keep b1
  replace hm1 := hideIt hm1
  replace hm2 := hideIt hm2
  clear hT hp hq
  rw [← e1] at a1
  replace e1 := hideIt e1
  go_enter Tryd.func64, Tryd.ntmps64
  go_wp2_with (refine wpList_load_row rfl _ (.tmp 3) rfl w.heap.size rfl 71 (arrC k) (0, 0) _ (by exact a1) Tryd.underlying71 rfl (by rw [arrC_size, hk]; kernel_rfl) ?_)
  rw [e1.out]
  refine HC.out.mono ?_
  rintro e w2 ⟨v, rfl, ⟨g, h3, rfl, h5⟩, b2⟩
  have hE := equal_any (some ⟨g, 0, none⟩) B (codeKL k msg) code 32 32 m d w2 (own_bytes h5) (hq1.keep b2).bytes (codeKL_length _ _) hm (by omega) (by have := hm2.out; omega)
  have B2 := hideIt (below_then b1 b2)
  clear h5 b2 HC
  go_wp2_with fail
  refine hE.mono ?_
  rintro e w3 ⟨rfl, b3⟩
  go_wp2_with fail
  go_ret
  exact ⟨rfl, below_then B2.out b3⟩
end Go.Proofs.YtigocnaminkodaaDoor
