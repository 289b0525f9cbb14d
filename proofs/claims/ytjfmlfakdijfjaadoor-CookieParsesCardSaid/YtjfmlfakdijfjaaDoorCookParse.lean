/- Contract of cookie.Parse. -/
import Derived.Test.YtjfmlfakdijfjaaDoorCookOne
import Derived.Test.YtjfmlfakdijfjaaDoorSeqPcs
import Derived.Test.YtjfmlfakdijfjaaDoorPairPush
import Derived.Test.YtjfmlfakdijfjaaDoorInvIn
import Derived.Test.YtjfmlfakdijfjaaDoorStrRun
namespace Go.Proofs.YtjfmlfakdijfjaaDoor
open Go.ChangeShapes Go.WideShapes Go.ChangeAt Go.RowKit
set_option linter.unusedVariables false
set_option linter.unusedSimpArgs false
attribute [local go_sem] Oper.semAt_some

/-- an answer of two cells -/
theorem load_pairs (w : World) (g : Nat) (v : Value) (h : w.cell? ⟨g, 0, none⟩ = some v) : (loadVar 49 ⟨g, 0, none⟩).run Tryd.prog w = .ok v w := by
  go_simp
theorem load_bool (w : World) (g : Nat) (v : Value) (h : w.cell? ⟨g, 0, none⟩ = some v) : (loadVar 4 ⟨g, 0, none⟩).run Tryd.prog w = .ok v w := by
  go_simp
theorem results_cc {fn : Func} {p u : Tmp} (h : fn.results = #[.cell p 49, .cell u 4]) (tmps : Array Value) (w : World) (g1 g2 : Nat) (v1 v2 : Value)
    (hp : tmps.getD p undef = .pointer (some ⟨g1, 0, none⟩)) (hu : tmps.getD u undef = .pointer (some ⟨g2, 0, none⟩)) (h1 : w.cell? ⟨g1, 0, none⟩ = some v1) (h2 : w.cell? ⟨g2, 0, none⟩ = some v2) :
    (results fn tmps).run Tryd.prog w = .ok (.tuple #[v1, v2]) w := by
  have l1 := load_pairs w g1 v1 h1
  have l2 := load_bool w g2 v2 h2
  have e : (results fn tmps).run Tryd.prog w = ((asAddr (tmps.getD p undef)).run Tryd.prog w).andThen fun a w₁ => ((loadVar 49 a).run Tryd.prog w₁).andThen fun v w₂ => ((asAddr (tmps.getD u undef)).run Tryd.prog w₂).andThen fun a' w₃ => ((loadVar 4 a').run Tryd.prog w₃).andThen fun v' w₄ => .ok (.tuple #[v, v']) w₄ := by
    simp only [results, h]
    simp [Sem.run_bind, Result.andThen]
  rw [e, hp, hu]
  simp [asAddr, Result.andThen, l1, l2]

theorem allSome_snoc {qs : List (List UInt8)} {p : List UInt8} {d : List PairL} {x : PairL} (h : allSome (qs.map cookieL) = some d) (hx : cookieL p = some x) : allSome ((qs ++ [p]).map cookieL) = some (d ++ [x]) := by
  rw [List.map_append, allSome_app, h]
  simp [allSome, hx]
theorem allSome_len {a : List (Option PairL)} {d : List PairL} (h : allSome a = some d) : d.length = a.length := by
  induction a generalizing d with
  | nil => simp [allSome] at h; subst h; rfl
  | cons c r ih =>
    cases c with
    | none => simp [allSome] at h
    | some x =>
      simp only [allSome, Option.map_eq_some_iff] at h
      obtain ⟨e, he, rfl⟩ := h
      simp [ih he]
theorem cookies_miss {t : List UInt8} {qs r : List (List UInt8)} {p : List UInt8} (ht : t ≠ []) (h : qs ++ p :: r = pcsL t) (hp : cookieL p = none) : cookiesL t = none := by
  unfold cookiesL
  rw [if_neg ht, ← h]
  exact allSome_none (by simp [hp])
/-- the answer's cells, the row -/
structure CkSt (w : World) (a b : Value) (W : World) : Prop where
  below : Below w.heap.size w W
  r0 : W.heap[w.heap.size]? = some (.cells #[a] 49 (0, 0))
  r1 : W.heap[w.heap.size + 1]? = some (.cells #[b] 4 (0, 0))
theorem CkSt.put {w : World} {a b : Value} {W : World} (h : CkSt w a b W) (k : Nat) (o : Obj) (hk : w.heap.size + 1 < k) : CkSt w a b (W.putObj k o) :=
  ⟨⟨h.below.os, h.below.tape, h.below.output, by rw [World.putObj_size]; exact h.below.size, fun i hi => (World.putObj_heap_other (by omega)).trans (h.below.block i hi)⟩, (World.putObj_heap_other (by omega)).trans h.r0, (World.putObj_heap_other (by omega)).trans h.r1⟩
theorem CkSt.set {w : World} {a b : Value} {W : World} (h : CkSt w a b W) (k i : Nat) (v : Value) (hk : w.heap.size + 1 < k) : CkSt w a b (W.setCell ⟨k, i, none⟩ v) :=
  ⟨h.below.setCell (p := ⟨k, i, none⟩) (by show w.heap.size ≤ k; omega) v, (heap_setCell_other _ _ _ _ (by show w.heap.size ≠ k; omega)).trans h.r0, (heap_setCell_other _ _ _ _ (by show w.heap.size + 1 ≠ k; omega)).trans h.r1⟩
theorem CkSt.keep {w : World} {a b : Value} {W W' : World} (h : CkSt w a b W) (hl : w.heap.size + 2 ≤ W.heap.size) (hb : Below W.heap.size W W') : CkSt w a b W' :=
  ⟨below_then h.below hb, (hb.block _ (by omega)).trans h.r0, (hb.block _ (by omega)).trans h.r1⟩
theorem CkSt.c0 {w : World} {a b : Value} {W : World} (h : CkSt w a b W) : W.cell? ⟨w.heap.size, 0, none⟩ = some a := by rw [cell_of_row W _ _ _ _ _ h.r0]; rfl
theorem CkSt.c1 {w : World} {a b : Value} {W : World} (h : CkSt w a b W) : W.cell? ⟨w.heap.size + 1, 0, none⟩ = some b := by rw [cell_of_row W _ _ _ _ _ h.r1]; rfl
theorem CkSt.f0 {w : World} {a b : Value} {W : World} (h : CkSt w a b W) : W.frozen? ⟨w.heap.size, 0, none⟩ = false := by simp [World.frozen?, h.r0]
theorem CkSt.f1 {w : World} {a b : Value} {W : World} (h : CkSt w a b W) : W.frozen? ⟨w.heap.size + 1, 0, none⟩ = false := by simp [World.frozen?, h.r1]
theorem CkSt.answer {w : World} {a b : Value} {W : World} (h : CkSt w a b W) (a' b' : Value) : CkSt w a' b' ((W.setCell ⟨w.heap.size, 0, none⟩ a').setCell ⟨w.heap.size + 1, 0, none⟩ b') := by
  have e0 : (W.setCell ⟨w.heap.size, 0, none⟩ a').heap[w.heap.size]? = some (.cells #[a'] 49 (0, 0)) := by
    have := heap_setCell_same W w.heap.size 0 _ _ a' h.r0
    simpa using this
  have e1 : (W.setCell ⟨w.heap.size, 0, none⟩ a').heap[w.heap.size + 1]? = some (.cells #[b] 4 (0, 0)) := (heap_setCell_other _ _ _ _ (by show w.heap.size + 1 ≠ w.heap.size; omega)).trans h.r1
  have e2 : ((W.setCell ⟨w.heap.size, 0, none⟩ a').setCell ⟨w.heap.size + 1, 0, none⟩ b').heap[w.heap.size + 1]? = some (.cells #[b'] 4 (0, 0)) := by
    have := heap_setCell_same _ (w.heap.size + 1) 0 _ _ b' e1
    simpa using this
  exact ⟨(h.below.setCell (p := ⟨w.heap.size, 0, none⟩) (Nat.le_refl _) a').setCell (p := ⟨w.heap.size + 1, 0, none⟩) (by show w.heap.size ≤ w.heap.size + 1; omega) b', (heap_setCell_other _ _ _ _ (by show w.heap.size ≠ w.heap.size + 1; omega)).trans e0, e2⟩
theorem CkSt.new (w : World) (a b : Value) : CkSt w a b ((w.alloc (.cells #[a] 49)).alloc (.cells #[b] 4)) :=
  ⟨below_one (below_one (Below.refl _ _) _) _, (Below.heap_alloc _ _ _ (by rw [alloc_size]; exact Nat.lt_succ_self _)).trans (heap_alloc_new w _), by
    have := heap_alloc_new (w.alloc (.cells #[a] 49)) (.cells #[b] 4); rwa [alloc_size] at this⟩
/-- how all stands between two rounds -/
structure CkI (w : World) (qs : List (List UInt8)) (W : World) : Prop where
  st : CkSt w (.slice none 0 0) (.bool false) W
  row : ∃ d v, allSome (qs.map cookieL) = some d ∧ W.heap[w.heap.size + 2]? = some (.cells #[v] 49 (0, 0)) ∧ POwn (w.heap.size + 8) v d W
theorem CkI.put {w : World} {qs : List (List UInt8)} {W : World} (h : CkI w qs W) (k : Nat) (o : Obj) (h1 : w.heap.size + 2 < k) (h2 : k < w.heap.size + 8) : CkI w qs (W.putObj k o) := by
  obtain ⟨d, v, hd, hv, ho⟩ := h.row
  exact ⟨h.st.put k o (by omega), d, v, hd, (World.putObj_heap_other (by omega)).trans hv, ho.block fun g hg => World.putObj_heap_other (by have := (ho.lt g hg).1; omega)⟩
theorem CkI.set {w : World} {qs : List (List UInt8)} {W : World} (h : CkI w qs W) (k i : Nat) (x : Value) (h1 : w.heap.size + 2 < k) (h2 : k < w.heap.size + 8) : CkI w qs (W.setCell ⟨k, i, none⟩ x) := by
  obtain ⟨d, v, hd, hv, ho⟩ := h.row
  exact ⟨h.st.set k i x (by omega), d, v, hd, (heap_setCell_other _ _ _ _ (by show w.heap.size + 2 ≠ k; omega)).trans hv, ho.block fun g hg => heap_setCell_other _ _ _ _ (by have := (ho.lt g hg).1; show g ≠ k; omega)⟩
theorem CkI.keep {w : World} {qs : List (List UInt8)} {W W' : World} (h : CkI w qs W) (hl : w.heap.size + 8 ≤ W.heap.size) (hb : Below W.heap.size W W') : CkI w qs W' := by
  obtain ⟨d, v, hd, hv, ho⟩ := h.row
  exact ⟨h.st.keep (by omega) hb, d, v, hd, (hb.block _ (by omega)).trans hv, ho.keep hb⟩
theorem CkI.pushed {w : World} {qs : List (List UInt8)} {p : List UInt8} {W w' : World} {v v' : Value} {d : List PairL} {x : PairL} (h : CkSt w (.slice none 0 0) (.bool false) W) (hs : w.heap.size + 8 ≤ W.heap.size) (hd : allSome (qs.map cookieL) = some d) (hx : cookieL p = some x)
    (hv : W.heap[w.heap.size + 2]? = some (.cells #[v] 49 (0, 0))) (hp : POwn (w.heap.size + 8) v d W) (hp' : POwn (w.heap.size + 8) v' (d ++ [x]) w') (hg : W.grownBy w' v.ownBlock) :
    CkI w (qs ++ [p]) (w'.setCell ⟨w.heap.size + 2, 0, none⟩ v') ∧ (∀ k, w.heap.size + 2 < k → k < w.heap.size + 8 → (w'.setCell ⟨w.heap.size + 2, 0, none⟩ v').heap[k]? = W.heap[k]?) ∧ w'.cell? ⟨w.heap.size + 2, 0, none⟩ = some v ∧ w'.frozen? ⟨w.heap.size + 2, 0, none⟩ = false := by
  have own : ∀ x, v.ownBlock = some x → w.heap.size + 8 ≤ x := fun x hx => (hp.lt x hx).1
  have ne : ∀ k, k < w.heap.size + 8 → some k ≠ v.ownBlock := fun k hk hh => by have := own k hh.symm; omega
  have hv' : w'.heap[w.heap.size + 2]? = some (.cells #[v] 49 (0, 0)) := (hg.block _ (by omega) (ne _ (by omega))).trans hv
  have hset : (w'.setCell ⟨w.heap.size + 2, 0, none⟩ v').heap[w.heap.size + 2]? = some (.cells #[v'] 49 (0, 0)) := by
    have := heap_setCell_same w' (w.heap.size + 2) 0 _ _ v' hv'
    simpa using this
  have st' : CkSt w (.slice none 0 0) (.bool false) w' := ⟨h.below.grown hg (by omega) (by intro x hx; have := own x hx; omega), (hg.block _ (by omega) (ne _ (by omega))).trans h.r0, (hg.block _ (by omega) (ne _ (by omega))).trans h.r1⟩
  refine ⟨⟨st'.set _ _ _ (by omega), d ++ [x], v', allSome_snoc hd hx, hset, hp'.block fun g hgv => heap_setCell_other _ _ _ _ (by have := (hp'.lt g hgv).1; show g ≠ w.heap.size + 2; omega)⟩, fun k h1 h2 => ?_, ?_, by simp [World.frozen?, hv']⟩
  · rw [heap_setCell_other _ _ _ _ (by show k ≠ w.heap.size + 2; omega)]
    exact hg.block k (by omega) (ne k h2)
  · rw [cell_of_row w' _ _ _ _ _ hv']; rfl
/-- what Parse tells -/
def CParsePost (l : List UInt8) (w : World) (e : Ending) (w' : World) : Prop := ∃ v, e = .returned (.tuple #[v, .bool (cookiesL l).isSome]) ∧ POwn w.heap.size v ((cookiesL l).getD []) w' ∧ Below w.heap.size w w'
set_option maxRecDepth 8000 in
set_option maxHeartbeats 4000000 in
theorem cparse_any (t : List UInt8) (w : World) (ht : t.length ≤ 100000) (hm : MaxOk w) :
    Calls Tryd.prog 25 #[.string (strOf t)] w (CParsePost t w) := by
  by_cases h0 : t = []
  · subst h0
    have hq : (strOf []).toList.isEmpty = true := by rw [strOf_toList]; rfl
    have A1 := hideIt (CkSt.new w (.slice none 0 0) (.bool true))
    clear hm
    go_enter Tryd.func25, Tryd.ntmps25
    go_wp2_with fail
    (try simp only [Exit.inBlock, Exit.then])
    refine bodyPost_ret (results_cc Tryd.results25 _ _ w.heap.size (w.heap.size + 1) _ _ rfl rfl (by exact A1.out.c0) (by exact A1.out.c1)) rfl ?_
    exact ⟨_, rfl, POwn.nil _ _, A1.out.below⟩
  obtain ⟨X1, e1⟩ : ∃ X1, (w.alloc (.cells #[.slice none 0 0] 49)).alloc (.cells #[.bool false] 4) = X1 := ⟨_, rfl⟩
  have s1 : X1.heap.size = w.heap.size + 2 := by rw [← e1, alloc_size, alloc_size]
  have k1 : CkSt w (.slice none 0 0) (.bool false) X1 := e1 ▸ CkSt.new w _ _
  have hq : (strOf t).toList.isEmpty = false := by rw [strOf_toList, List.isEmpty_eq_false_iff]; exact h0
  obtain ⟨X2, e2⟩ : ∃ X2, X1.alloc (.cells #[.slice none 0 0] 49) = X2 := ⟨_, rfl⟩
  have s2 : X2.heap.size = w.heap.size + 3 := by rw [← e2, alloc_size, s1]
  have b2 : Below X1.heap.size X1 X2 := by rw [← e2]; exact below_one (Below.refl _ _) _
  have l2 : X2.heap[w.heap.size + 2]? = some (.cells #[.slice none 0 0] 49 (0, 0)) := by rw [← e2, ← s1]; exact heap_alloc_new X1 _
  have k2 := k1.keep (by omega) b2
  have H := hideIt (sepseq_any t X2)
  have bs : Below X2.heap.size X2 (sepW t X2) := by unfold sepW; exact below_one (below_one (below_one (Below.refl _ _) _) _) _
  have q0 : (sepW t X2).heap[w.heap.size + 3]? = some (.cells #[.string (strOf t)] 9 (0, 0)) := by
    unfold sepW; rw [← s2]
    exact (Below.heap_alloc _ _ _ (by simp; omega)).trans ((Below.heap_alloc _ _ _ (by simp)).trans (heap_alloc_new X2 _))
  have q1 : (sepW t X2).heap[w.heap.size + 3 + 1]? = some (.cells #[.string ⟨#[59, 32]⟩] 9 (0, 0)) := by
    unfold sepW; rw [← s2]
    have := heap_alloc_new (X2.alloc (.cells #[.string (strOf t)] 9)) (.cells #[.string ⟨#[59, 32]⟩] 9)
    rw [alloc_size] at this
    exact (Below.heap_alloc _ _ _ (by simp)).trans this
  have q2 : (sepW t X2).heap[w.heap.size + 3 + 2]? = some (.cells #[.int .i64 0] 3 (0, 0)) := by
    unfold sepW; rw [← s2]
    have := heap_alloc_new ((X2.alloc (.cells #[.string (strOf t)] 9)).alloc (.cells #[.string ⟨#[59, 32]⟩] 9)) (.cells #[.int .i64 0] 3)
    rw [alloc_size, alloc_size] at this
    exact this
  have ss : (sepW t X2).heap.size = w.heap.size + 6 := by unfold sepW; rw [alloc_size, alloc_size, alloc_size, s2]
  have k3 := k2.keep (by omega) bs
  have l3 : (sepW t X2).heap[w.heap.size + 2]? = some (.cells #[.slice none 0 0] 49 (0, 0)) := (bs.block _ (by omega)).trans l2
  rw [s2] at H
  have E1 := hideIt e1
  have E2 := hideIt e2
  have Q0 := hideIt q0
  have Q1 := hideIt q1
  have Q2 := hideIt q2
  have SS := hideIt ss
  have K3 := hideIt k3
  have L3 := hideIt l3
  have HM := hideIt hm
  have HT := hideIt ht
  have HTL := hideIt (pcs_len (t.length + 1) t (Nat.lt_succ_self _)).1
  have H0 := hideIt h0
  clear e1 s1 k1 e2 s2 b2 l2 k2 bs q0 q1 q2 ss k3 l3 hm h0 ht
  generalize sepW t X2 = X3 at *
  refine (callsIn_wide (n := 5)).1 ?_
  refine callsIn_of_wp_marks Tryd.func25 rfl trivial ?_ rfl
  simp only [Tryd.ntmps25, List.size_toArray, List.length_cons, List.length_nil, Nat.reduceAdd, Nat.reduceSub, Array.replicate_succ, Array.replicate_zero, List.push_toArray, List.append_toArray, List.nil_append, List.cons_append]
  gi_wp2
  rw [E1.out, E2.out]
  refine ⟨trivial, (callsIn_wide.2 H.out).mono ?_⟩
  rintro e w2 ⟨rfl, rfl⟩
  gi_wp2
  refine wp_range_sc (n := 5) (by omega) (by omega) (w.heap.size + 3) (w.heap.size + 6) SS.out (by omega) t (by have := HT.out; omega) rfl rfl Q0.out Q1.out Q2.out
    (CkI w) (fun W => cookiesL t = none ∧ CkSt w (.slice none 0 0) (.bool false) W) (fun qs W h => HM.out.keep h.st.below)
    (fun qs W o h => h.put _ _ (by omega) (by omega)) (fun qs W v h => h.set _ _ _ (by omega) (by omega)) (fun W o h => ⟨h.1, h.2.put _ _ (by omega)⟩)
    (fun o1 o2 => ⟨K3.out.keep (by have := SS.out; omega) (below_one (below_one (Below.refl _ _) _) _), [], .slice none 0 0, rfl, ((below_one (below_one (Below.refl w2.heap.size w2) o1) o2).block _ (by have := SS.out; omega)).trans L3.out, POwn.nil _ _⟩)
    (fun x => { tmps := #[.string (strOf t), undef, .pointer (some ⟨w.heap.size, 0, none⟩), .pointer (some ⟨w.heap.size + 1, 0, none⟩), .pointer (some ⟨w.heap.size + 2, 0, none⟩), x, undef, undef, .string (strOf t), .bool false, .string (strOf t), sepF (w.heap.size + 3), x, undef, undef, undef, undef, undef, undef, undef, undef, undef, undef, undef, undef], defers := [] }) ?assign ?body ?done ?left
  case assign =>
    intro l x W K hK
    gi_wp2
    exact hK
  case body =>
    intro l qs p W hpl hql hW hP
    obtain ⟨r, hr⟩ := hql
    have HC := hideIt (cookieOf_any p W hpl (HM.out.keep hP.st.below))
    obtain ⟨d, v, hd, hv, ho⟩ := hP.row
    have hdl : d.length + 1 ≤ 1000000 := by
      have h1 := allSome_len hd
      have h2 := congrArg List.length hr
      rw [List.length_append, List.length_cons] at h2
      rw [List.length_map] at h1
      have := HTL.out
      have := HT.out
      omega
    cases hx : cookieL p with
    | none =>
      rw [hx, show pairV ((none : Option PairL).getD PairZ) = .agg #[.string (strOf []), .string (strOf [])] from rfl, show (none : Option PairL).isSome = false from rfl] at HC
      have HN := hideIt (cookies_miss H0.out hr hx)
      have HP0 := hideIt hP
      have HW := hideIt hW
      clear hP hW hd hv ho hdl hx hr hpl H Q0 Q1 Q2 SS K3 L3 E1 E2 HM HT HTL H0
      gi_wp2
      refine ⟨trivial, ((Wide.round l).calls HC.out).mono ?_⟩
      rintro e w1 ⟨rfl, hb⟩
      have bz : Below W.heap.size W (w1.alloc (.cells #[.string (strOf []), .string (strOf [])] 30)) := below_one hb _
      have k1 := HP0.out.st.keep (by have := HW.out; omega) bz
      have q0 := k1.c0
      have q1 := k1.c1
      have f0 := k1.f0
      have f1 := k1.f1
      have A1 := hideIt (k1.answer (.slice none 0 0) (.bool false))
      have F2 : Hid (∀ k, w.heap.size + 3 ≤ k → k < w.heap.size + 6 + 2 → (((w1.alloc (.cells #[.string (strOf []), .string (strOf [])] 30)).setCell ⟨w.heap.size, 0, none⟩ (.slice none 0 0)).setCell ⟨w.heap.size + 1, 0, none⟩ (.bool false)).heap[k]? = W.heap[k]?) := hideIt fun k h1 h2 => by
        rw [heap_setCell_other _ _ _ _ (by show k ≠ w.heap.size + 1; omega), heap_setCell_other _ _ _ _ (by show k ≠ w.heap.size; omega)]
        exact bz.block k (by have := HW.out; omega)
      clear hb bz k1 HP0 HW HC
      gi_wp2
      exact ⟨⟨HN.out, A1.out⟩, F2.out⟩
    | some x =>
      rw [hx, show pairV ((some x : Option PairL).getD PairZ) = .agg #[.string (strOf x.1), .string (strOf x.2)] from rfl, show (some x : Option PairL).isSome = true from rfl] at HC
      have HX := hideIt hx
      have HP0 := hideIt hP.st
      have HW := hideIt hW
      have HD := hideIt hd
      have HV := hideIt hv
      have HO := hideIt ho
      have HL := hideIt hdl
      clear hP hW hd hv ho hdl hx hr hpl H Q0 Q1 Q2 SS K3 L3 E1 E2 HM HT HTL H0
      gi_wp2
      refine ⟨trivial, ((Wide.round l).calls HC.out).mono ?_⟩
      rintro e w1 ⟨rfl, hb⟩
      obtain ⟨P, hP⟩ : ∃ P, Obj.cells #[.string (strOf x.1), .string (strOf x.2)] 30 = P := ⟨_, rfl⟩
      have b1 : Below W.heap.size W (w1.alloc P) := below_one hb _
      have b2 : Below W.heap.size W ((w1.alloc P).alloc P) := below_one b1 _
      have c3 : (w1.alloc (Obj.cells #[.string (strOf x.1), .string (strOf x.2)] 30)).cell? ⟨w.heap.size + 2, 0, none⟩ = some v := by
        rw [hP]
        rw [cell_of_row _ _ _ _ _ _ ((b1.block _ (by have := HW.out; omega)).trans HV.out)]; rfl
      have hpa := pairs_one (w1.alloc P) x
      rw [hP, alloc_size] at hpa
      have hv3 := (b2.block _ (by have := HW.out; omega)).trans HV.out
      have ho3 := HO.out.keep b2
      have hst3 := HP0.out.keep (by have := HW.out; omega) b2
      have hs3 : w.heap.size + 8 ≤ ((w1.alloc P).alloc P).heap.size := Nat.le_trans HW.out b2.size
      have hk3 : ∀ i, i < W.heap.size → ((w1.alloc P).alloc P).heap[i]? = W.heap[i]? := fun i hi => b2.block i hi
      obtain ⟨w3, hw3⟩ : ∃ w3, (w1.alloc P).alloc P = w3 := ⟨_, rfl⟩
      rw [hw3] at hpa hv3 ho3 hst3 hs3 hk3
      have A1 := hideIt hpa
      have A2 := hideIt hv3
      have A3 := hideIt ho3
      have A4 := hideIt hs3
      have A5 := hideIt hst3
      have A6 := hideIt hk3
      have A7 : Hid ((w1.alloc (Obj.cells #[.string (strOf x.1), .string (strOf x.2)] 30)).alloc (Obj.cells #[.string (strOf x.1), .string (strOf x.2)] 30) = w3) := hideIt (by rw [hP]; exact hw3)
      clear hpa hv3 ho3 hs3 hst3 hk3 hw3 b1 b2 hb hP HC HV HO HP0
      gi_wp2_with (rw [A7.out]; refine wpListIn_appP rfl (.tmp 20) (.tmp 22) rfl (w.heap.size + 8) v _ rfl A3.out (some ⟨w1.heap.size + 1, 0, none⟩) 1 [x] (Nat.zero_lt_succ _) rfl A1.out (by simp only [List.length_cons, List.length_nil]; have := HL.out; omega) A4.out ?_; fail_if_success done)
      intro v' w' hp' hg'
      obtain ⟨R1, R2, R3, R4⟩ := CkI.pushed (p := p) A5.out A4.out HD.out HX.out A2.out A3.out hp' hg'
      obtain ⟨A', n', c', rfl⟩ : ∃ A n c, v' = .slice A n c := by obtain ⟨A', c', h, _⟩ := hp'.open; exact ⟨A', _, c', h⟩
      have F1 := hideIt R1
      have F2 : Hid (∀ i, w.heap.size + 3 ≤ i → i < w.heap.size + 6 + 2 → (w'.setCell ⟨w.heap.size + 2, 0, none⟩ (.slice A' n' c')).heap[i]? = W.heap[i]?) := hideIt fun i h1 h2 => (R2 i (by omega) (by omega)).trans (A6.out i (by have := HW.out; omega))
      clear R1 R2 hp' hg' A1 A2 A3 A4 A5 A6 A7 c3
      gi_wp2
      exact ⟨F1.out, F2.out⟩
  case done =>
    intro W2 hP2 hlt hdf
    obtain ⟨d, v, hd, hv, ho⟩ := hP2.row
    have c3 : W2.cell? ⟨w.heap.size + 2, 0, none⟩ = some v := by rw [cell_of_row W2 _ _ _ _ _ hv]; rfl
    have q0 := hP2.st.c0
    have q1 := hP2.st.c1
    have f0 := hP2.st.f0
    have f1 := hP2.st.f1
    have A1 := hP2.st.answer v (.bool true)
    obtain ⟨A', n', c', rfl⟩ : ∃ A n c, v = .slice A n c := by obtain ⟨A', c', h, _⟩ := ho.open; exact ⟨A', _, c', h⟩
    obtain ⟨W3, hW3⟩ : ∃ W3, (W2.setCell ⟨w.heap.size, 0, none⟩ (.slice A' n' c')).setCell ⟨w.heap.size + 1, 0, none⟩ (.bool true) = W3 := ⟨_, rfl⟩
    have oth : ∀ k, w.heap.size + 2 ≤ k → W3.heap[k]? = W2.heap[k]? := fun k hk => by
      rw [← hW3, heap_setCell_other _ _ _ _ (by show k ≠ w.heap.size + 1; omega), heap_setCell_other _ _ _ _ (by show k ≠ w.heap.size; omega)]
    rw [hW3] at A1
    have hdf3 := (oth _ (by omega)).trans hdf
    have A2 := A1.put (w.heap.size + 6) (.deferred none) (by omega)
    have E3 : Hid (cookiesL t = some d) := hideIt (by unfold cookiesL; rw [if_neg H0.out]; exact hd)
    have R : Hid (POwn w.heap.size (.slice A' n' c') d (W3.putObj (w.heap.size + 6) (.deferred none))) := hideIt ((ho.block fun g hg => (World.putObj_heap_other (by have := (ho.lt g hg).1; omega)).trans (oth g (by have := (ho.lt g hg).1; omega))).base (by omega))
    have A2' := hideIt A2
    have D3 := hideIt hdf3
    have HW3 := hideIt hW3
    clear hd hv ho A1 A2 oth hdf3 hW3 hP2 hdf H Q0 Q1 Q2 SS K3 L3 E1 E2 HM HT HTL
    gi_wp2
    rw [HW3.out]
    refine ⟨by simp, .inl ⟨_, _, rfl, run_takeDeferred D3.out, ?_⟩⟩
    refine ⟨_, results_cc Tryd.results25 _ _ w.heap.size (w.heap.size + 1) _ _ rfl rfl (by exact A2'.out.c0) (by exact A2'.out.c1), ?_⟩
    unfold CParsePost
    rw [E3.out]
    exact ⟨_, rfl, R.out, A2'.out.below⟩
  case left =>
    intro W2 hP2 hlt hdf
    obtain ⟨hn, hst⟩ := hP2
    have A2 := hideIt (hst.put (w.heap.size + 6) (.deferred none) (by omega))
    have HN := hideIt hn
    clear hn hst H Q0 Q1 Q2 SS K3 L3 E1 E2 HM HT HTL
    gi_wp2
    refine ⟨by simp, .inl ⟨_, _, rfl, run_takeDeferred hdf, ?_⟩⟩
    refine ⟨_, results_cc Tryd.results25 _ _ w.heap.size (w.heap.size + 1) _ _ rfl rfl (by exact A2.out.c0) (by exact A2.out.c1), ?_⟩
    unfold CParsePost
    rw [HN.out]
    exact ⟨_, rfl, POwn.nil _ _, A2.out.below⟩
theorem go_cparse : goFn Tryd.prog 25 = true := by kernel_rfl
end Go.Proofs.YtjfmlfakdijfjaaDoor
