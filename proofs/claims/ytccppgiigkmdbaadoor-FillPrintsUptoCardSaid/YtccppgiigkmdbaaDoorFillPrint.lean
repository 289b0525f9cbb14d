/- Contract of fill.Print. -/
import Derived.Test.YtccppgiigkmdbaaDoorFillEsc
import Derived.Test.YtccppgiigkmdbaaDoorPairs
import Derived.Lib.AppendStr
namespace Go.Proofs.YtccppgiigkmdbaaDoor
open Go.ChangeShapes Go.WideShapes Go.ChangeAt Go.RowKit
set_option linter.unusedVariables false
set_option linter.unusedSimpArgs false

/-- how much there is in pairs -/
def bulkP (ps : List PairL) : Nat := (ps.map fun x => 1 + x.1.length + x.2.length).sum
theorem bulk_take (ps : List PairL) (j : Nat) (x : PairL) (h : ps[j]? = some x) : bulkP (ps.take (j + 1)) = bulkP (ps.take j) + (1 + x.1.length + x.2.length) := by
  rw [List.take_add_one, h]; simp [bulkP]
theorem bulk_le (ps : List PairL) (j : Nat) : bulkP (ps.take j) ≤ bulkP ps := by
  have : bulkP ps = bulkP (ps.take j) + bulkP (ps.drop j) := by
    conv => lhs; rw [← List.take_append_drop j ps]
    simp only [bulkP, List.map_append, List.sum_append]
  omega
theorem bulk_mem (ps : List PairL) (x : PairL) (h : x ∈ ps) : 1 + x.1.length + x.2.length ≤ bulkP ps := by
  induction ps with
  | nil => cases h
  | cons y r ih =>
    rw [show bulkP (y :: r) = (1 + y.1.length + y.2.length) + bulkP r by simp [bulkP]]
    rcases List.mem_cons.1 h with rfl | h
    · omega
    · have := ih h; omega
theorem bulk_len (ps : List PairL) : ps.length ≤ bulkP ps := by
  induction ps with
  | nil => simp [bulkP]
  | cons y r ih => rw [show bulkP (y :: r) = (1 + y.1.length + y.2.length) + bulkP r by simp [bulkP]]; simp; omega
theorem print_one (x : PairL) : printL [x] = pairT x := rfl
theorem print_snoc (ps : List PairL) (x : PairL) (h : ps ≠ []) : printL (ps ++ [x]) = printL ps ++ [38] ++ escapeL x.1 ++ [61] ++ escapeL x.2 := by
  rw [print_append ps [x] h (by simp), print_one, pairT]; simp
theorem pairT_len (x : PairL) : (pairT x).length ≤ 3 * (x.1.length + x.2.length) + 1 := by
  have := escapeL_len x.1; have := escapeL_len x.2
  rw [pairT]; simp; omega
theorem print_len (ps : List PairL) : (printL ps).length ≤ 3 * bulkP ps := by
  have H : ∀ j, j ≤ ps.length → (printL (ps.take j)).length ≤ 3 * bulkP (ps.take j) := by
    intro j
    induction j with
    | zero => intro _; simp [printL, joinL]
    | succ j ih =>
      intro hj
      obtain ⟨x, hx⟩ : ∃ x, ps[j]? = some x := ⟨_, List.getElem?_eq_getElem (by omega)⟩
      rw [bulk_take ps j x hx, List.take_add_one, hx]
      have hp := pairT_len x
      have := ih (by omega)
      by_cases h0 : ps.take j = []
      · rw [h0]
        show (printL [x]).length ≤ _
        rw [print_one]; omega
      · show (printL (ps.take j ++ [x])).length ≤ _
        rw [print_append _ _ h0 (by simp), print_one, List.length_append, List.length_cons]
        omega
  have := H ps.length (Nat.le_refl _)
  rwa [List.take_length] at this
/-- a row of bytes of the call's own -/
def BOwn (base : Nat) (v : Value) (l : List UInt8) (W : World) : Prop := W.ownsRow base 5 1 v l.length (cellsOf l)
/-- how Print stands within a round -/
structure PS (w : World) (pb : Nat) (x : PairL) (W : World) (bv : Value) (acc : List UInt8) : Prop where
  own : BOwn w.heap.size bv acc W
  pair : W.heap[pb]? = some (.cells #[.string (strOf x.1), .string (strOf x.2)] 33 (0, 0))
  below : Below w.heap.size w W
section
variable {w : World} {pb : Nat} {x : PairL} {W W' : World} {bv bv' : Value} {acc acc' : List UInt8}
theorem PS.c0 (h : PS w pb x W bv acc) : W.cell? ⟨pb, 0, none⟩ = some (.string (strOf x.1)) := by rw [cell_of_row W _ _ _ _ _ h.pair]; rfl
theorem PS.c1 (h : PS w pb x W bv acc) : W.cell? ⟨pb, 1, none⟩ = some (.string (strOf x.2)) := by rw [cell_of_row W _ _ _ _ _ h.pair]; rfl
theorem PS.grow (h : PS w pb x W bv acc) (hb : Below W.heap.size W W') : PS w pb x W' bv acc :=
  ⟨own_stay h.own hb, (hb.block _ (Array.getElem?_eq_some_iff.1 h.pair).1).trans h.pair, below_then h.below hb⟩
theorem PS.ne (h : PS w pb x W bv acc) : bv.ownBlock ≠ some pb := by
  intro e
  rcases h.own.2 with ⟨rfl, _⟩ | ⟨g, cap, cur, rfl, _, hc, _⟩
  · cases e
  · have : g = pb := by simpa [Value.ownBlock] using e
    subst this
    rw [h.pair] at hc
    cases hc
theorem PS.app (h : PS w pb x W bv acc) (ho : BOwn w.heap.size bv' acc' W') (hg : W.grownBy W' bv.ownBlock) : PS w pb x W' bv' acc' :=
  ⟨ho, (hg.block pb (Array.getElem?_eq_some_iff.1 h.pair).1 (fun e => h.ne e.symm)).trans h.pair, h.below.grown hg h.below.size (fun k hk => (World.ownsRow.lt h.own k hk).1)⟩
end
theorem strCells_of (l : List UInt8) : Lib.strCells (strOf l) = cellsOf l := rfl
/-- append of a text -/
theorem wpList_appS {w : World} {ops : Array Oper} {rest : List Oper} {o : Oper} {a : Act} {Q : Exit → Act → World → Prop} (hgd : o.guard = none) (s x : Operand)
    (ho : o.op = .call { callee := .builtin .append, args := #[s, x], argTypes := #[22, 9] })
    (base : Nat) (v : Value) (xs bs : List UInt8) (hs : a.eval s = v) (hown : BOwn base v xs w) (hx : a.eval x = .string (strOf bs))
    (hlen : xs.length + bs.length ≤ 140737488355328) (hbase : base ≤ w.heap.size)
    (h : ∀ v' w', BOwn base v' (xs ++ bs) w' → w.grownBy w' v.ownBlock → wpList Tryd.prog ops Q rest (a.put o.dst v') w') : wpList Tryd.prog ops Q (o :: rest) a w := by
  obtain ⟨i0, hi, hz0, hz1, hz2⟩ := info_parts info_u8
  refine Lib.wpList_append_own_string _ hgd s x 22 9 ho base 5 i0 Tryd.underlying22 Tryd.underlying9 hi hz0 hz1 hz2 v _ _ hs hown (strOf bs) hx (by rw [strOf_size]; unfold maxLen; omega) (by rw [strOf_size]; omega) hbase ?_
  intro v' w' h1 h2 _
  refine h v' w' ?_ h2
  unfold BOwn
  rw [cellsOf_append, List.length_append, ← strCells_of, ← strOf_size]
  exact h1
theorem below_new (X : World) (o : Obj) : Below X.heap.size X (X.alloc o) := below_one (Below.refl _ _) _
theorem bytes_new (X : World) (c : UInt8) : BytesAt (X.alloc (.cells #[.int .u8 (c.toNat : Int)] 5)) (X.alloc (.cells #[.int .u8 (c.toNat : Int)] 5)).heap.size (some ⟨X.heap.size, 0, none⟩) [c] :=
  (piece_lit (X.alloc (.cells #[.int .u8 (c.toNat : Int)] 5)) X.heap.size _ _ [c] 1 (0, 0) (heap_alloc_new X _) rfl (by simp) (by omega)).bytes
/-- append of one byte, that lies in a new block -/
theorem wpList_app1 {X : World} {ops : Array Oper} {rest : List Oper} {o : Oper} {a : Act} {Q : Exit → Act → World → Prop} (hgd : o.guard = none) (s x : Operand)
    (ho : o.op = .call { callee := .builtin .append, args := #[s, x], argTypes := #[22, 22] })
    (base : Nat) (v : Value) (xs : List UInt8) (c : UInt8) (ci : Int) (hci : (c.toNat : Int) = ci) (hs : a.eval s = v) (hown : BOwn base v xs X) (hx : a.eval x = .slice (some ⟨X.heap.size, 0, none⟩) 1 1)
    (hlen : xs.length ≤ 100000000) (hbase : base ≤ X.heap.size)
    (h : ∀ v' w', BOwn base v' (xs ++ [c]) w' → (X.alloc (.cells #[.int .u8 ci] 5)).grownBy w' v.ownBlock → wpList Tryd.prog ops Q rest (a.put o.dst v') w') : wpList Tryd.prog ops Q (o :: rest) a (X.alloc (.cells #[.int .u8 ci] 5)) := by
  subst hci
  refine wpList_app hgd s x ho base v _ xs hs (World.ownsRow.alloc hown _) (some ⟨X.heap.size, 0, none⟩) 1 1 _ [c] hx rfl (fun h => by cases h) (bytes_new X c) (by omega) (by rw [alloc_size]; omega) ?_
  intro v' w' h1 h2
  exact h v' w' (by unfold BOwn; rw [List.length_append]; exact h1) h2
set_option maxRecDepth 8000 in
set_option maxHeartbeats 2000000 in
theorem fprint_any (A : Option Addr) (n c : Nat) (ps : List PairL) (w : World) (hp : PairsAt w A ps) (hn : ps.length = n) (hB : bulkP ps ≤ 100000) (hnc : n ≤ c) (hcc : c ≤ 9223372036854775807) :
    Calls Tryd.prog 17 #[.slice A n c] w fun e w' => ∃ v, e = .returned v ∧ BOwn w.heap.size v (printL ps) w' ∧ Below w.heap.size w w' := by
  have HP := hideIt hp
  have hl : n ≤ 100000 := by have := bulk_len ps; omega
  clear hp
  subst hn
  go_enter Tryd.func17, Tryd.ntmps17
  go_wp2
  go_loopw [3, 8] (fun b i wr => ∃ j : Nat, j ≤ ps.length ∧ i = .int .i64 j ∧ BOwn w.heap.size b (printL (ps.take j)) wr ∧ Below w.heap.size w wr) (fun b i wr => ps.length - (intOf i).toNat)
  case atStart => exact ⟨0, by omega, rfl, ⟨rfl, Or.inl ⟨rfl, rfl⟩⟩, Below.refl _ _⟩
  case round =>
    obtain ⟨j, hj, rfl, ho, hb⟩ := hrel
    by_cases hlt : j < ps.length
    · have hji : (j : Int) < (ps.length : Int) := by omega
      obtain ⟨x, hx⟩ : ∃ x, ps[j]? = some x := ⟨_, List.getElem?_eq_getElem hlt⟩
      obtain ⟨b, off, rfl, hlt2, hc⟩ := (HP.out.keep hb) (by omega)
      obtain ⟨c1, c2⟩ := hc j x hx
      have hbx := bulk_mem ps x (List.mem_iff_getElem?.2 ⟨j, hx⟩)
      have hbj := bulk_le ps j
      have hpl := print_len (ps.take j)
      have l1 := escapeL_len x.1
      have l2 := escapeL_len x.2
      clear hc
      rw [show off + 2 * j = off + j * 2 by omega] at c1 c2
      have S0 : Hid (PS w wr.heap.size x (wr.alloc (.cells #[.string (strOf x.1), .string (strOf x.2)] 33)) u3 (printL (ps.take j))) := hideIt
        ⟨World.ownsRow.alloc ho _, heap_alloc_new wr _, below_one hb _⟩
      have E1 : Hid (Below w.heap.size w wr) := hideIt hb
      clear ho hb
      by_cases h0 : j = 0
      · subst h0
        rw [show printL (ps.take 0) = [] from rfl] at S0
        rw [Nat.zero_mul, Nat.add_zero] at c1 c2
        go_wp2_with fail
        generalize wr.alloc (.cells #[.string (strOf x.1), .string (strOf x.2)] 33) = W1 at *
        have S1 := hideIt S0.out
        clear S0
        have HE := hideIt (fescape_any x.1 W1 (by omega))
        have k0 := S1.out.c0
        go_wp2_with fail
        refine HE.out.mono ?_
        rintro e W2a ⟨rfl, hb2⟩
        have S1b := hideIt (S1.out.grow hb2)
        clear hb2 HE S1 k0
        go_wp2_with (at_builtin; refine wpList_appS rfl _ _ rfl w.heap.size _ _ (escapeL x.1) rfl S1b.out.own rfl (by first | omega | (simp only [List.length_append, List.length_cons, List.length_nil]; omega)) S1b.out.below.size ?_)
        intro v2 W2 ho2 hg2
        have S2 := hideIt (S1b.out.app ho2 hg2)
        clear ho2 hg2 S1b
        go_wp2_with (at_builtin; refine wpList_app1 rfl (.tmp 23) (.tmp 24) rfl w.heap.size _ _ 61 61 rfl rfl S2.out.own rfl (by first | omega | (simp only [List.length_append, List.length_cons, List.length_nil]; omega)) S2.out.below.size ?_)
        intro v3 W3 ho2 hg2
        have S3 := hideIt ((S2.out.grow (below_new _ _)).app ho2 hg2)
        clear ho2 hg2 S2
        have HE := hideIt (fescape_any x.2 W3 (by omega))
        have k0 := S3.out.c1
        go_wp2_with fail
        refine HE.out.mono ?_
        rintro e W4a ⟨rfl, hb2⟩
        have S3b := hideIt (S3.out.grow hb2)
        clear hb2 HE S3 k0
        go_wp2_with (at_builtin; refine wpList_appS rfl _ _ rfl w.heap.size _ _ (escapeL x.2) rfl S3b.out.own rfl (by first | omega | (simp only [List.length_append, List.length_cons, List.length_nil]; omega)) S3b.out.below.size ?_)
        intro v4 W4 ho2 hg2
        have S4 := hideIt (S3b.out.app ho2 hg2)
        clear ho2 hg2 S3b
        have E : Hid (printL (ps.take (0 + 1)) = [] ++ escapeL x.1 ++ [61] ++ escapeL x.2) := hideIt (by
          rw [List.take_add_one, hx]
          show printL [x] = _
          rw [print_one, pairT]; simp)
        go_wp2_with fail
        go_roundw
        case rel => exact ⟨0 + 1, by omega, by go_num, by have := S4.out.own; rw [E.out]; simpa using this, S4.out.below⟩
        case measure => simp [intOf]; omega
      · have h0i : (0 : Int) < (j : Int) := by omega
        go_wp2_with (at_builtin; refine wpList_app1 rfl (.tmp 15) (.tmp 16) rfl w.heap.size _ _ 38 38 rfl rfl S0.out.own (by rw [alloc_size]; rfl) (by first | omega | (simp only [List.length_append, List.length_cons, List.length_nil]; omega)) S0.out.below.size ?_)
        intro v1 W1 ho2 hg2
        have S1 := hideIt ((S0.out.grow (below_new _ _)).app ho2 hg2)
        clear ho2 hg2 S0
        have HE := hideIt (fescape_any x.1 W1 (by omega))
        have k0 := S1.out.c0
        go_wp2_with fail
        refine HE.out.mono ?_
        rintro e W2a ⟨rfl, hb2⟩
        have S1b := hideIt (S1.out.grow hb2)
        clear hb2 HE S1 k0
        go_wp2_with (at_builtin; refine wpList_appS rfl _ _ rfl w.heap.size _ _ (escapeL x.1) rfl S1b.out.own rfl (by first | omega | (simp only [List.length_append, List.length_cons, List.length_nil]; omega)) S1b.out.below.size ?_)
        intro v2 W2 ho2 hg2
        have S2 := hideIt (S1b.out.app ho2 hg2)
        clear ho2 hg2 S1b
        go_wp2_with (at_builtin; refine wpList_app1 rfl (.tmp 23) (.tmp 24) rfl w.heap.size _ _ 61 61 rfl rfl S2.out.own rfl (by first | omega | (simp only [List.length_append, List.length_cons, List.length_nil]; omega)) S2.out.below.size ?_)
        intro v3 W3 ho2 hg2
        have S3 := hideIt ((S2.out.grow (below_new _ _)).app ho2 hg2)
        clear ho2 hg2 S2
        have HE := hideIt (fescape_any x.2 W3 (by omega))
        have k0 := S3.out.c1
        go_wp2_with fail
        refine HE.out.mono ?_
        rintro e W4a ⟨rfl, hb2⟩
        have S3b := hideIt (S3.out.grow hb2)
        clear hb2 HE S3 k0
        go_wp2_with (at_builtin; refine wpList_appS rfl _ _ rfl w.heap.size _ _ (escapeL x.2) rfl S3b.out.own rfl (by first | omega | (simp only [List.length_append, List.length_cons, List.length_nil]; omega)) S3b.out.below.size ?_)
        intro v4 W4 ho2 hg2
        have S4 := hideIt (S3b.out.app ho2 hg2)
        clear ho2 hg2 S3b
        have E : Hid (printL (ps.take (j + 1)) = printL (ps.take j) ++ [38] ++ escapeL x.1 ++ [61] ++ escapeL x.2) := hideIt (by
          rw [List.take_add_one, hx]
          exact print_snoc _ x (by intro h; have := congrArg List.length h; rw [List.length_take, List.length_nil] at this; omega))
        go_wp2_with fail
        go_roundw
        case rel => exact ⟨j + 1, by omega, by go_num, by have := S4.out.own; rw [E.out]; simpa using this, S4.out.below⟩
        case measure => simp [intOf]; omega
    · obtain rfl : j = ps.length := by omega
      rw [List.take_length] at ho
      have HO := hideIt ho
      have HB := hideIt hb
      clear ho hb
      go_wp2
      go_ret
      exact ⟨_, rfl, HO.out, HB.out⟩
theorem go_fprint : goFn Tryd.prog 17 = true := by kernel_rfl
end Go.Proofs.YtccppgiigkmdbaaDoor
