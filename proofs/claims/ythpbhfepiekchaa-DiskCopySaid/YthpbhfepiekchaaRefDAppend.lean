/- The reference's Append: contract. -/
import Derived.Test.YthpbhfepiekchaaRefDAppF
import Derived.Sort.Walk0
namespace Go.Proofs.Ythpbhfepiekchaa
open Go.ChangeShapes Go.WideShapes Go.ChangeAt Go.RowKit
set_option linter.unusedVariables false
set_option linter.unusedSimpArgs false

/-- a row of bytes of the call's own -/
def OwnB (base : Nat) (v : Value) (xs : List UInt8) (w : World) : Prop := w.ownsRow base 5 1 v xs.length (cellsOf xs)
theorem byte_new (X : World) (c : UInt8) : BytesAt (X.alloc (.cells #[.int .u8 (c.toNat : Int)] 5)) (X.alloc (.cells #[.int .u8 (c.toNat : Int)] 5)).heap.size (some ⟨X.heap.size, 0, none⟩) [c] :=
  (piece_lit (X.alloc (.cells #[.int .u8 (c.toNat : Int)] 5)) X.heap.size _ _ [c] 1 (0, 0) (heap_alloc_new X _) rfl (by simp) (by omega)).bytes
/-- append of one byte, that lies in a new block -/
theorem wpList_appB1 {X : World} {ops : Array Oper} {rest : List Oper} {o : Oper} {a : Act} {Q : Exit → Act → World → Prop} (hgd : o.guard = none) (s x : Operand)
    (ho : o.op = .call { callee := .builtin .append, args := #[s, x], argTypes := #[22, 22] })
    (base : Nat) (v : Value) (xs : List UInt8) (c : UInt8) (ci : Int) (hci : (c.toNat : Int) = ci) (hs : a.eval s = v) (hown : OwnB base v xs X) (hx : a.eval x = .slice (some ⟨X.heap.size, 0, none⟩) 1 1)
    (hlen : xs.length ≤ 100000000) (hbase : base ≤ X.heap.size)
    (h : ∀ v' w', OwnB base v' (xs ++ [c]) w' → (X.alloc (.cells #[.int .u8 ci] 5)).grownBy w' v.ownBlock → wpList Try.prog ops Q rest (a.put o.dst v') w') : wpList Try.prog ops Q (o :: rest) a (X.alloc (.cells #[.int .u8 ci] 5)) := by
  subst hci
  refine wpList_app hgd s x ho base v _ xs hs (World.ownsRow.alloc hown _) (some ⟨X.heap.size, 0, none⟩) 1 1 _ [c] hx rfl (fun h => by cases h) (byte_new X c) (by omega) (by rw [alloc_size]; omega) ?_
  intro v' w' h1 h2
  exact h v' w' (by unfold OwnB; rw [List.length_append]; exact h1) h2
theorem own_moved {base : Nat} {v : Value} {n : Nat} {e : TypeId} {cs : List Value} {w w' : World} (h : w.ownsRow base e 1 v n cs) (hb : ∀ g, v.ownBlock = some g → w'.heap[g]? = w.heap[g]?) : w'.ownsRow base e 1 v n cs := by
  refine ⟨h.1, ?_⟩
  rcases h.2 with h0 | ⟨g, cap, cur, rfl, h1, h2, h3⟩
  · exact Or.inl h0
  · exact Or.inr ⟨g, cap, cur, rfl, h1, (hb g rfl).trans h2, h3⟩
theorem f_cells {w : World} {g : Nat} {x y z : Value} (h : w.heap[g]? = some (.cells #[x, y, z] 76 (0, 0))) : w.cell? ⟨g, 0, none⟩ = some x ∧ w.cell? ⟨g, 1, none⟩ = some y ∧ w.cell? ⟨g, 2, none⟩ = some z ∧ w.frozen? ⟨g, 0, none⟩ = false ∧ w.frozen? ⟨g, 1, none⟩ = false ∧ w.frozen? ⟨g, 2, none⟩ = false :=
  ⟨by rw [cell_of_row _ _ _ _ _ _ h]; rfl, by rw [cell_of_row _ _ _ _ _ _ h]; rfl, by rw [cell_of_row _ _ _ _ _ _ h]; rfl, Lib.frozen_of_heap h 0, Lib.frozen_of_heap h 1, Lib.frozen_of_heap h 2⟩
theorem f_set3 {w : World} {g : Nat} {x y z : Value} (h : w.heap[g]? = some (.cells #[x, y, z] 76 (0, 0))) (a b c : Value) : (((w.setCell ⟨g, 0, none⟩ a).setCell ⟨g, 1, none⟩ b).setCell ⟨g, 2, none⟩ c).heap[g]? = some (.cells #[a, b, c] 76 (0, 0)) :=
  heap_setCell_same _ g 2 _ _ c (heap_setCell_same _ g 1 _ _ b (heap_setCell_same w g 0 _ _ a h))
/-- what stands at a round's head -/
structure AppSt (w X wr : World) (N : Nat → Prop) (D : DiskP) (fb b : List UInt8) (k : Nat) (ob : Bool) (a : Value) (A : Option Addr) (n c rm : Nat) (fu : Bool) (left : Int) (dd : Bool) : Prop where
  turn : Turn (fun k => k = w.heap.size) X wr
  own : OwnB X.heap.size a (fb ++ b.take k) wr
  head : TAt wr w.heap.size #[.slice A n c, .int .i64 (rm : Int), .bool fu, .int .i64 left, .bool dd]
  tl : TL wr (fun k => N k ∨ w.heap.size ≤ k) A n c rm fu left dd (burntP D k (!ob))
theorem AppSt.stopped {w X wr w2 : World} {N : Nat → Prop} {D : DiskP} {fb b : List UInt8} {k : Nat} {a : Value} {A : Option Addr} {n c rm : Nat} {fu : Bool} {left : Int} {dd : Bool} (h : AppSt w X wr N D fb b k true a A n c rm fu left dd) (hX : w.heap.size < X.heap.size) (hb : Below wr.heap.size wr w2) {A2 : Option Addr} {n2 c2 rm2 : Nat} {fu2 : Bool} {left2 : Int} {dd2 : Bool} {ob : Bool} {j : Nat}
    (ht : TL w2 (fun k => N k ∨ w.heap.size ≤ k) A2 n2 c2 rm2 fu2 left2 dd2 (burntP D j (!ob))) :
    Turn (fun k => k = w.heap.size) X (((((w2.setCell ⟨w.heap.size, 0, none⟩ (.slice A2 n2 c2)).setCell ⟨w.heap.size, 1, none⟩ (.int .i64 (rm2 : Int))).setCell ⟨w.heap.size, 2, none⟩ (.bool fu2)).setCell ⟨w.heap.size, 3, none⟩ (.int .i64 left2)).setCell ⟨w.heap.size, 4, none⟩ (.bool dd2)) ∧
    OwnB X.heap.size a (fb ++ b.take k) (((((w2.setCell ⟨w.heap.size, 0, none⟩ (.slice A2 n2 c2)).setCell ⟨w.heap.size, 1, none⟩ (.int .i64 (rm2 : Int))).setCell ⟨w.heap.size, 2, none⟩ (.bool fu2)).setCell ⟨w.heap.size, 3, none⟩ (.int .i64 left2)).setCell ⟨w.heap.size, 4, none⟩ (.bool dd2)) ∧
    TAt (((((w2.setCell ⟨w.heap.size, 0, none⟩ (.slice A2 n2 c2)).setCell ⟨w.heap.size, 1, none⟩ (.int .i64 (rm2 : Int))).setCell ⟨w.heap.size, 2, none⟩ (.bool fu2)).setCell ⟨w.heap.size, 3, none⟩ (.int .i64 left2)).setCell ⟨w.heap.size, 4, none⟩ (.bool dd2)) w.heap.size #[.slice A2 n2 c2, .int .i64 (rm2 : Int), .bool fu2, .int .i64 left2, .bool dd2] ∧
    TL (((((w2.setCell ⟨w.heap.size, 0, none⟩ (.slice A2 n2 c2)).setCell ⟨w.heap.size, 1, none⟩ (.int .i64 (rm2 : Int))).setCell ⟨w.heap.size, 2, none⟩ (.bool fu2)).setCell ⟨w.heap.size, 3, none⟩ (.int .i64 left2)).setCell ⟨w.heap.size, 4, none⟩ (.bool dd2)) (fun k => N k ∨ w.heap.size ≤ k) A2 n2 c2 rm2 fu2 left2 dd2 (burntP D j (!ob)) := by
  have ho2 : OwnB X.heap.size a (fb ++ b.take k) w2 := own_moved h.own fun g hg => hb.block g (h.own.lt g hg).2
  refine ⟨?_, ?_, (h.head.keep (hb.block _ h.head.lt)).set5 _ _ _ _ _, ht.turn (turn_set5 w2 _ (Or.inr (Nat.le_refl _)) _ _ _ _ _)⟩
  · exact (h.turn.trans (Turn.of hb (fun k => k = w.heap.size)) fun i hi => Or.inl hi).trans (turn_set5 (S := fun k => k = w.heap.size) w2 _ rfl _ _ _ _ _) fun i hi => Or.inl hi
  · refine own_moved ho2 fun g hg => heap_set5 w2 _ _ _ _ _ _ g ?_
    have := (ho2.lt g hg).1
    omega
theorem AppSt.taken {w X wr w2 : World} {N : Nat → Prop} {D : DiskP} {fb b : List UInt8} {k : Nat} {a a2 : Value} {A : Option Addr} {n c rm : Nat} {fu : Bool} {left : Int} {dd : Bool} (ht : Turn (fun k => k = w.heap.size) X wr) (ho : OwnB X.heap.size a (fb ++ b.take k) wr) (hh : TAt wr w.heap.size #[.slice A n c, .int .i64 (rm : Int), .bool fu, .int .i64 left, .bool dd]) (htl : TL wr (fun k => N k ∨ w.heap.size ≤ k) A n c rm fu left dd (burntP D (k + 1) (!true))) (hX : w.heap.size < X.heap.size) (hk : k < b.length) {u : Obj}
    (ho2 : OwnB X.heap.size a2 (fb ++ b.take k ++ [b[k]]) w2) (hg : (wr.alloc u).grownBy w2 a.ownBlock) : AppSt w X w2 N D fb b (k + 1) true a2 A n c rm fu left dd := by
  have hB := below_new wr u
  have ho1 : OwnB X.heap.size a (fb ++ b.take k) (wr.alloc u) := World.ownsRow.alloc ho u
  have hblk : ∀ g, a.ownBlock = some g → X.heap.size ≤ g := fun g hg => (ho.lt g hg).1
  have ht2 : Turn (fun k => k = w.heap.size) X (wr.alloc u) := ht.trans (Turn.of hB _) fun i hi => Or.inl hi
  have hh2 := hh.keep (hB.block _ hh.lt)
  refine ⟨ht2.grown hg fun g e => Or.inr (hblk g e), ?_, hh2.keep (hg.block _ hh2.lt fun e => ?_), (htl.keep hB).turn ((Turn.refl _ _).grown hg fun g e => Or.inl (Or.inr ?_))⟩
  · rw [List.append_assoc] at ho2
    rw [List.take_succ_eq_append_getElem hk]
    exact ho2
  · have := hblk _ e.symm; omega
  · have := hblk _ e; omega
set_option maxRecDepth 100000 in
set_option maxHeartbeats 16000000 in
theorem rappend_may {w : World} {N : Nat → Prop} {v : Value} {D : DiskP} (h : TIs w N v D) (ho : OkP D) (hN : ∀ k, N k → k < w.heap.size) (s : List UInt8) (hs : s.length ≤ 4611686018427387904) (bA : Option Addr) (bc : Nat) (b : List UInt8) (bn : Nat) (hbn : b.length = bn) (hp : PieceOk w ⟨bA, bc, b⟩) (hm : mayP D s b) (R : DiskP × Bool) (hR : R = (grownP D s b, decide (doneP D b.length = b.length))) : Calls Try.prog 35 #[v, .string (strOf s), .slice bA bn bc] w (TTwo w N R) := by
  obtain ⟨A, n, c, rm, fu, left, dd, rfl, hl⟩ := h.letters
  obtain ⟨hX, hZ, hB, hS⟩ := two_blocks w (.slice A n c) (.int .i64 (rm : Int)) (.bool fu) (.int .i64 left) (.bool dd)
  unfold zeroD at hX hZ hB hS
  have hn := hl.fits.2.2.1
  have hrm := hl.fits.2.2.2.1
  have hdd := hl.fits.2.2.2.2.2.1
  obtain ⟨hm1, hm2, hm3, hm4⟩ := hm
  rw [hm4] at hdd
  subst hdd
  have HR := hideIt hR
  have HX := hideIt hX
  have HZ := hideIt hZ
  have HB := hideIt hB
  have HS := hideIt hS
  have HT := hideIt (hl.fresh hB (fun k => N k ∨ w.heap.size ≤ k) fun k hk => hk)
  have HO := hideIt ho
  have HN := hideIt hN
  have HD := hideIt hm4
  have HPB := hideIt (hp.keep hB)
  have HAB := hideIt (rp_new hp (Nat.le_refl w.heap.size))
  have HBL := hideIt hbn
  have HM := hideIt (fun u => rname_any s u hs)
  rw [decide_eq_true hm1] at HM
  have hus : usedP D.files ≤ 1000000000 := by have := ho.used; have := ho.room; omega
  have HUS := hideIt hus
  have hbm : bn ≤ 1048576 := by have := ho.room; omega
  have HBM := hideIt hbm
  have HBN : Hid (bn ≤ 140737488355328) := hideIt (by omega)
  have HFU : Hid (decide (((rm : Nat) : Int) < ((usedP D.files + bn : Nat) : Int)) = false) := hideIt (decide_eq_false (by omega))
  have HF := hl.call_find ho s
  unfold tV tC
  rcases HF with ⟨hf, hc⟩ | ⟨j, r, hf, hrn, hj, hj8, hfa, hc⟩
  case' inl =>
    have HNG : Hid (decide ((-1 : Int) < 0) = true) := hideIt rfl
    have HN8 : Hid (decide ((8 : Int) ≤ (n : Int)) = false) := hideIt (decide_eq_false (by
      rcases hm3 with h3 | h3
      · rw [hf] at h3; cases h3
      · omega))
    obtain ⟨iv, hiv⟩ : ∃ iv : Int, iv = -1 := ⟨_, rfl⟩
    have hfi : ∃ f, fileP D.files s = f ∧ f.b = [] ∧ f.lasts = 0 := ⟨⟨s, [], 0⟩, by unfold fileP; rw [hf]; rfl, rfl, rfl⟩
    have HFI := hideIt hfi
    clear hfi
    have HC := hideIt (hc _ HB.out)
    clear hc hf hX hZ hB hS h hl ho hN hn hrm hm1 hm2 hm3 hm4 hus hbn hbm hp hs hR
    go_enter Try.func35, Try.ntmps35
    go_upto_region 1 with fail
    generalize (w.alloc (.cells #[.slice A n c, .int .i64 (rm : Int), .bool fu, .int .i64 left, .bool false] 37)).alloc (.cells #[.slice none 0 0, .int .i64 0, .bool false, .int .i64 0, .bool false] 37) = X at *
    obtain ⟨q0, q1, q2, q3, q4, e0, e1, e2, e3, e4, ql⟩ := HX.out.all
    go_wp2_with fail
    refine HC.out.mono ?_
    rintro e w1 ⟨rfl, hb1⟩
    have HX1 := hideIt (HX.out.keep (hb1.block w.heap.size (by have := HS.out; omega)))
    have HZ1 := hideIt (HZ.out.keep (hb1.block (w.heap.size + 1) (by have := HS.out; omega)))
    have HB1 := hideIt (HB.out.trans (hb1.mono (by have := HS.out; omega)))
    have HT1 := hideIt (HT.out.keep hb1)
    have HPB1 := hideIt (HPB.out.keep hb1)
    have HU := hideIt (show ∀ u, Below w1.heap.size w1 u → _ from fun u hu => (HT1.out.keep hu).call_used HO.out)
    have HS1 : Hid (w.heap.size + 2 ≤ w1.heap.size) := hideIt (by have := HS.out; have := hb1.size; omega)
    have HLX := hideIt HX1.out.lt
    have HW := hideIt (Below.refl w1.heap.size w1)
    have HBX := hideIt hb1
    clear q0 q1 q2 q3 q4 e0 e1 e2 e3 e4 ql hb1 HC
    obtain ⟨s0, s1, s2, s3, s4, t0, t1, t2, t3, t4, tl⟩ := HX1.out.all
    go_upto_region 2 with fail
    refine region_inv [Fact.str (s), Fact.is (.bool true), Fact.is (.bool false), Fact.is (.bool false), Fact.is (.agg #[.slice A n c, .int .i64 (rm : Int), .bool fu, .int .i64 left, .bool false]), Fact.is (.int .i64 ((usedP D.files : Nat) : Int)), Fact.is (.slice bA bn bc), Fact.is (.int .i64 ((bn : Nat) : Int)), Fact.is (.int .i64 ((usedP D.files + bn : Nat) : Int)), Fact.is (.pointer (some ⟨w.heap.size, 1, none⟩)), Fact.is (.int .i64 (rm : Int)), Fact.is (.bool false), Fact.is (.bool false), Fact.is (.bool false), Fact.is (.int .i64 (-1)), Fact.is (.bool true), Fact.is (.bool true), Fact.is (.pointer (some ⟨w.heap.size, 0, none⟩)), Fact.is (.slice A n c), Fact.is (.int .i64 (n : Int)), Fact.is (.bool false), Fact.is (.bool false), Fact.is (.bool false), Fact.is (.bool false), Fact.is (.pointer (some ⟨w.heap.size, 4, none⟩)), Fact.is (.bool false), Fact.is (.bool false)] (by kernel_rfl) (by kernel_rfl) ⟨fun a w1 m => ?_, fun a w1 m => ?_, fun a w1 m => ?_, fun a w1 m => ?_, fun a w1 m => ?_, fun a w1 m => ?_, fun a w1 m => ?_, fun a w1 m => ?_, fun a w1 m => ?_, fun a w1 m => ?_, fun a w1 m => ?_, fun a w1 m => ?_, fun a w1 m => ?_, fun a w1 m => ?_, fun a w1 m => ?_, fun a w1 m => ?_, fun a w1 m => ?_, fun a w1 m => ?_, fun a w1 m => ?_, fun a w1 m => ?_, fun a w1 m => ?_, fun a w1 m => ?_, fun a w1 m => ?_, fun a w1 m => ?_, fun a w1 m => ?_, fun a w1 m => ?_, fun a w1 m => ?_, trivial⟩ ?_
    · exact ok_move (wanted_none rfl) (.tmp 1) rfl (m.old 1 rfl)
    · exact ok_fn (wanted_none rfl) _ _ _ rfl _ (map1 (m.has 0 18 rfl rfl)) go_rname (HM.out w1) (fun e w' ⟨h1, h2⟩ => ⟨_, h1, rfl, by rw [h2]; exact Below.refl _ _⟩)
    · exact ok_not1 (wanted_none rfl) _ (.tmp 19) rfl true (m.has 1 19 rfl rfl) rfl
    · exact ok_move (wanted_none rfl) (.tmp 20) rfl (m.has 2 20 rfl rfl)
    · exact ok_loadTT (wanted_some 3 false rfl 21 rfl false (m.has 3 21 rfl rfl)) (.tmp 3) rfl (w.heap.size) _ _ _ _ _ (m.old 3 rfl) (HX1.out.keep (m.grew.block _ HLX.out))
    · exact ok_fn (wanted_some 3 false rfl 21 rfl false (m.has 3 21 rfl rfl)) _ _ _ rfl _ (map1 (m.has 4 22 rfl rfl)) go_rused (HU.out w1 m.grew) (fun e w' ⟨h1, h2⟩ => ⟨_, h1, rfl, h2⟩)
    · exact ok_move (wanted_some 3 false rfl 21 rfl false (m.has 3 21 rfl rfl)) (.tmp 2) rfl (m.old 2 rfl)
    · exact ok_len (wanted_some 3 false rfl 21 rfl false (m.has 3 21 rfl rfl)) (.tmp 24) rfl _ _ _ (m.has 6 24 rfl rfl)
    · exact ok_bin (wanted_some 3 false rfl 21 rfl false (m.has 3 21 rfl rfl)) _ _ _ (.tmp 23) (.tmp 25) rfl _ _ _ (m.has 5 23 rfl rfl) (m.has 7 25 rfl rfl) rfl (run_add47 _ _ HUS.out HBN.out)
    · exact ok_fieldTT (wanted_some 3 false rfl 21 rfl false (m.has 3 21 rfl rfl)) (.tmp 3) 1 (by decide) rfl (w.heap.size) (m.old 3 rfl)
    · exact ok_ldI (wanted_some 3 false rfl 21 rfl false (m.has 3 21 rfl rfl)) (.tmp 27) rfl ⟨w.heap.size, 1, none⟩ _ (m.has 9 27 rfl rfl) ((m.grew.cell (p := ⟨w.heap.size, 1, none⟩) HLX.out).trans s1)
    · exact ok_bin (wanted_some 3 false rfl 21 rfl false (m.has 3 21 rfl rfl)) _ _ _ (.tmp 26) (.tmp 28) rfl _ _ _ (m.has 8 26 rfl rfl) (m.has 10 28 rfl rfl) rfl (run_gt64 _ _ _ HFU.out)
    · exact ok_pickF (wanted_none rfl) (.tmp 21) _ _ rfl (m.has 3 21 rfl rfl) (m.has 11 29 rfl rfl)
    · exact ok_move (wanted_none rfl) (.tmp 30) rfl (m.has 12 30 rfl rfl)
    · exact ok_move (wanted_some 13 false rfl 31 rfl false (m.has 13 31 rfl rfl)) (.tmp 8) rfl (m.old 8 rfl)
    · exact ok_bin (wanted_some 13 false rfl 31 rfl false (m.has 13 31 rfl rfl)) _ _ _ (.tmp 32) _ rfl _ _ _ (m.has 14 32 rfl rfl) (rfl) rfl (run_lt64 _ _ _ HNG.out)
    · exact ok_move (wanted_some 13 false rfl 31 rfl false (m.has 13 31 rfl rfl)) (.tmp 33) rfl (m.has 15 33 rfl rfl)
    · exact ok_fieldTT (wanted_some 16 true rfl 34 rfl true (m.has 16 34 rfl rfl)) (.tmp 3) 0 (by decide) rfl (w.heap.size) (m.old 3 rfl)
    · exact ok_ldFs (wanted_some 16 true rfl 34 rfl true (m.has 16 34 rfl rfl)) (.tmp 35) rfl ⟨w.heap.size, 0, none⟩ _ (m.has 17 35 rfl rfl) ((m.grew.cell (p := ⟨w.heap.size, 0, none⟩) HLX.out).trans s0)
    · exact ok_lenFl (wanted_some 16 true rfl 34 rfl true (m.has 16 34 rfl rfl)) (.tmp 36) rfl _ _ _ (m.has 18 36 rfl rfl)
    · exact ok_bin (wanted_some 16 true rfl 34 rfl true (m.has 16 34 rfl rfl)) _ _ _ (.tmp 37) _ rfl _ _ _ (m.has 19 37 rfl rfl) (rfl) rfl (run_ge64 _ _ _ HN8.out)
    · exact ok_pickT (wanted_some 13 false rfl 31 rfl false (m.has 13 31 rfl rfl)) (.tmp 34) _ _ rfl (m.has 16 34 rfl rfl) (m.has 20 38 rfl rfl)
    · exact ok_pickF (wanted_none rfl) (.tmp 31) _ _ rfl (m.has 13 31 rfl rfl) (m.has 21 39 rfl rfl)
    · exact ok_move (wanted_none rfl) (.tmp 40) rfl (m.has 22 40 rfl rfl)
    · exact ok_fieldTT (wanted_some 23 false rfl 41 rfl false (m.has 23 41 rfl rfl)) (.tmp 3) 4 (by decide) rfl (w.heap.size) (m.old 3 rfl)
    · exact ok_ldO (wanted_some 23 false rfl 41 rfl false (m.has 23 41 rfl rfl)) (.tmp 42) rfl ⟨w.heap.size, 4, none⟩ _ (m.has 24 42 rfl rfl) ((m.grew.cell (p := ⟨w.heap.size, 4, none⟩) HLX.out).trans s4)
    · exact ok_pickF (wanted_none rfl) (.tmp 41) _ _ rfl (m.has 23 41 rfl rfl) (m.has 25 43 rfl rfl)
    intro f w9 hg hf
    have e26 : f 26 = .bool false := hf 26 (by decide)
    have B9 := hideIt (below_then HW.out hg)
    clear hf
    simp only [List.take, List.drop, putAll, Act.put, List.setIfInBounds_toArray, List.set_cons_succ, List.set_cons_zero]
    rw [e26]
    clear e26
    have HX9 := hideIt (HX1.out.keep (B9.out.block w.heap.size (by have := HS1.out; omega)))
    have HZ9 := hideIt (HZ1.out.keep (B9.out.block (w.heap.size + 1) (by have := HS1.out; omega)))
    have HB9 := hideIt (HB1.out.trans (B9.out.mono (by have := HS1.out; omega)))
    have HT9 := hideIt (HT1.out.keep B9.out)
    have HPB9 := hideIt (HPB1.out.keep B9.out)
    have HS9 : Hid (w.heap.size + 2 ≤ w9.heap.size) := hideIt (by have := HS1.out; have := B9.out.size; omega)
    clear s0 s1 s2 s3 s4 t0 t1 t2 t3 t4 tl hg
    obtain ⟨s0, s1, s2, s3, s4, t0, t1, t2, t3, t4, tl⟩ := HX9.out.all
    obtain ⟨hY, hBY, hSY⟩ := f_new w9 (strOf s) none 0 0 0
    have HB3 := hideIt hBY
    have HY3 := hideIt hY
    clear hBY hSY hY
    go_upto_region 7 with fail
    clear s0 s1 s2 s3 s4 t0 t1 t2 t3 t4 tl
    generalize w9.alloc (.cells #[.string (strOf s), .slice none 0 0, .int .i64 0] 76) = X3 at *
    obtain ⟨fA, fn, fc, fb, fl, HFN, HFM, HPF, HFI2, HYF⟩ : ∃ (fA : Option Addr) (fn fc : Nat) (fb : List UInt8) (fl : Nat), Hid (fb.length = fn) ∧ Hid (fn ≤ 1048576) ∧ Hid (PieceOk X3 ⟨fA, fc, fb⟩) ∧ Hid (∃ f, fileP D.files s = f ∧ f.b = fb ∧ f.lasts = fl) ∧ Hid (X3.heap[w9.heap.size]? = some (.cells #[.string (strOf s), .slice fA fn fc, .int .i64 (fl : Int)] 76 (0, 0))) :=
      ⟨none, 0, 0, [], 0, hideIt rfl, hideIt (by omega), hideIt ⟨BytesAt.nil _ _ _, by simp, by simp, by simp, fun _ => rfl⟩, HFI, HY3⟩
  case' inr =>
    have HNG : Hid (decide ((j : Int) < 0) = false) := hideIt (decide_eq_false (by omega))
    have HFI : Hid (∃ f, fileP D.files s = f ∧ f.b = r.b ∧ f.lasts = r.lasts) := hideIt ⟨r.file, by unfold fileP; rw [hf]; rfl, rfl, rfl⟩
    have HFB : Hid (r.b.length ≤ 1048576) := hideIt (ho.found hf).2.2.2
    have HFA := hideIt (hfa.keep hB)
    have HRN := hideIt hrn
    have HJ := hideIt hj
    have hj0 : (j : Int) ≥ 0 := by omega
    have hjl : (j : Int) < (n : Int) := by omega
    clear hrn hj hfa
    have HC := hideIt (hc _ HB.out)
    clear hc hf hX hZ hB hS h hl ho hN hn hrm hm1 hm2 hm3 hm4 hus hbn hbm hp hs hR
    go_enter Try.func35, Try.ntmps35
    go_upto_region 1 with fail
    generalize (w.alloc (.cells #[.slice A n c, .int .i64 (rm : Int), .bool fu, .int .i64 left, .bool false] 37)).alloc (.cells #[.slice none 0 0, .int .i64 0, .bool false, .int .i64 0, .bool false] 37) = X at *
    obtain ⟨q0, q1, q2, q3, q4, e0, e1, e2, e3, e4, ql⟩ := HX.out.all
    go_wp2_with fail
    refine HC.out.mono ?_
    rintro e w1 ⟨rfl, hb1⟩
    have HX1 := hideIt (HX.out.keep (hb1.block w.heap.size (by have := HS.out; omega)))
    have HZ1 := hideIt (HZ.out.keep (hb1.block (w.heap.size + 1) (by have := HS.out; omega)))
    have HB1 := hideIt (HB.out.trans (hb1.mono (by have := HS.out; omega)))
    have HT1 := hideIt (HT.out.keep hb1)
    have HPB1 := hideIt (HPB.out.keep hb1)
    have HU := hideIt (show ∀ u, Below w1.heap.size w1 u → _ from fun u hu => (HT1.out.keep hu).call_used HO.out)
    have HS1 : Hid (w.heap.size + 2 ≤ w1.heap.size) := hideIt (by have := HS.out; have := hb1.size; omega)
    have HLX := hideIt HX1.out.lt
    have HW := hideIt (Below.refl w1.heap.size w1)
    have HBX := hideIt hb1
    clear q0 q1 q2 q3 q4 e0 e1 e2 e3 e4 ql hb1 HC
    obtain ⟨s0, s1, s2, s3, s4, t0, t1, t2, t3, t4, tl⟩ := HX1.out.all
    go_upto_region 2 with fail
    refine region_inv [Fact.str (s), Fact.is (.bool true), Fact.is (.bool false), Fact.is (.bool false), Fact.is (.agg #[.slice A n c, .int .i64 (rm : Int), .bool fu, .int .i64 left, .bool false]), Fact.is (.int .i64 ((usedP D.files : Nat) : Int)), Fact.is (.slice bA bn bc), Fact.is (.int .i64 ((bn : Nat) : Int)), Fact.is (.int .i64 ((usedP D.files + bn : Nat) : Int)), Fact.is (.pointer (some ⟨w.heap.size, 1, none⟩)), Fact.is (.int .i64 (rm : Int)), Fact.is (.bool false), Fact.is (.bool false), Fact.is (.bool false), Fact.is (.int .i64 ((j : Int))), Fact.is (.bool false), Fact.is (.bool false), Fact.is (undef), Fact.is (undef), Fact.is (undef), Fact.is (undef), Fact.is (.bool false), Fact.is (.bool false), Fact.is (.bool false), Fact.is (.pointer (some ⟨w.heap.size, 4, none⟩)), Fact.is (.bool false), Fact.is (.bool false)] (by kernel_rfl) (by kernel_rfl) ⟨fun a w1 m => ?_, fun a w1 m => ?_, fun a w1 m => ?_, fun a w1 m => ?_, fun a w1 m => ?_, fun a w1 m => ?_, fun a w1 m => ?_, fun a w1 m => ?_, fun a w1 m => ?_, fun a w1 m => ?_, fun a w1 m => ?_, fun a w1 m => ?_, fun a w1 m => ?_, fun a w1 m => ?_, fun a w1 m => ?_, fun a w1 m => ?_, fun a w1 m => ?_, fun a w1 m => ?_, fun a w1 m => ?_, fun a w1 m => ?_, fun a w1 m => ?_, fun a w1 m => ?_, fun a w1 m => ?_, fun a w1 m => ?_, fun a w1 m => ?_, fun a w1 m => ?_, fun a w1 m => ?_, trivial⟩ ?_
    · exact ok_move (wanted_none rfl) (.tmp 1) rfl (m.old 1 rfl)
    · exact ok_fn (wanted_none rfl) _ _ _ rfl _ (map1 (m.has 0 18 rfl rfl)) go_rname (HM.out w1) (fun e w' ⟨h1, h2⟩ => ⟨_, h1, rfl, by rw [h2]; exact Below.refl _ _⟩)
    · exact ok_not1 (wanted_none rfl) _ (.tmp 19) rfl true (m.has 1 19 rfl rfl) rfl
    · exact ok_move (wanted_none rfl) (.tmp 20) rfl (m.has 2 20 rfl rfl)
    · exact ok_loadTT (wanted_some 3 false rfl 21 rfl false (m.has 3 21 rfl rfl)) (.tmp 3) rfl (w.heap.size) _ _ _ _ _ (m.old 3 rfl) (HX1.out.keep (m.grew.block _ HLX.out))
    · exact ok_fn (wanted_some 3 false rfl 21 rfl false (m.has 3 21 rfl rfl)) _ _ _ rfl _ (map1 (m.has 4 22 rfl rfl)) go_rused (HU.out w1 m.grew) (fun e w' ⟨h1, h2⟩ => ⟨_, h1, rfl, h2⟩)
    · exact ok_move (wanted_some 3 false rfl 21 rfl false (m.has 3 21 rfl rfl)) (.tmp 2) rfl (m.old 2 rfl)
    · exact ok_len (wanted_some 3 false rfl 21 rfl false (m.has 3 21 rfl rfl)) (.tmp 24) rfl _ _ _ (m.has 6 24 rfl rfl)
    · exact ok_bin (wanted_some 3 false rfl 21 rfl false (m.has 3 21 rfl rfl)) _ _ _ (.tmp 23) (.tmp 25) rfl _ _ _ (m.has 5 23 rfl rfl) (m.has 7 25 rfl rfl) rfl (run_add47 _ _ HUS.out HBN.out)
    · exact ok_fieldTT (wanted_some 3 false rfl 21 rfl false (m.has 3 21 rfl rfl)) (.tmp 3) 1 (by decide) rfl (w.heap.size) (m.old 3 rfl)
    · exact ok_ldI (wanted_some 3 false rfl 21 rfl false (m.has 3 21 rfl rfl)) (.tmp 27) rfl ⟨w.heap.size, 1, none⟩ _ (m.has 9 27 rfl rfl) ((m.grew.cell (p := ⟨w.heap.size, 1, none⟩) HLX.out).trans s1)
    · exact ok_bin (wanted_some 3 false rfl 21 rfl false (m.has 3 21 rfl rfl)) _ _ _ (.tmp 26) (.tmp 28) rfl _ _ _ (m.has 8 26 rfl rfl) (m.has 10 28 rfl rfl) rfl (run_gt64 _ _ _ HFU.out)
    · exact ok_pickF (wanted_none rfl) (.tmp 21) _ _ rfl (m.has 3 21 rfl rfl) (m.has 11 29 rfl rfl)
    · exact ok_move (wanted_none rfl) (.tmp 30) rfl (m.has 12 30 rfl rfl)
    · exact ok_move (wanted_some 13 false rfl 31 rfl false (m.has 13 31 rfl rfl)) (.tmp 8) rfl (m.old 8 rfl)
    · exact ok_bin (wanted_some 13 false rfl 31 rfl false (m.has 13 31 rfl rfl)) _ _ _ (.tmp 32) _ rfl _ _ _ (m.has 14 32 rfl rfl) (rfl) rfl (run_lt64 _ _ _ HNG.out)
    · exact ok_move (wanted_some 13 false rfl 31 rfl false (m.has 13 31 rfl rfl)) (.tmp 33) rfl (m.has 15 33 rfl rfl)
    · exact ok_not (wanted_some 16 true rfl 34 rfl false (m.has 16 34 rfl rfl)) rfl
    · exact ok_not (wanted_some 16 true rfl 34 rfl false (m.has 16 34 rfl rfl)) rfl
    · exact ok_not (wanted_some 16 true rfl 34 rfl false (m.has 16 34 rfl rfl)) rfl
    · exact ok_not (wanted_some 16 true rfl 34 rfl false (m.has 16 34 rfl rfl)) rfl
    · exact ok_pickF (wanted_some 13 false rfl 31 rfl false (m.has 13 31 rfl rfl)) (.tmp 34) _ _ rfl (m.has 16 34 rfl rfl) (rfl)
    · exact ok_pickF (wanted_none rfl) (.tmp 31) _ _ rfl (m.has 13 31 rfl rfl) (m.has 21 39 rfl rfl)
    · exact ok_move (wanted_none rfl) (.tmp 40) rfl (m.has 22 40 rfl rfl)
    · exact ok_fieldTT (wanted_some 23 false rfl 41 rfl false (m.has 23 41 rfl rfl)) (.tmp 3) 4 (by decide) rfl (w.heap.size) (m.old 3 rfl)
    · exact ok_ldO (wanted_some 23 false rfl 41 rfl false (m.has 23 41 rfl rfl)) (.tmp 42) rfl ⟨w.heap.size, 4, none⟩ _ (m.has 24 42 rfl rfl) ((m.grew.cell (p := ⟨w.heap.size, 4, none⟩) HLX.out).trans s4)
    · exact ok_pickF (wanted_none rfl) (.tmp 41) _ _ rfl (m.has 23 41 rfl rfl) (m.has 25 43 rfl rfl)
    intro f w9 hg hf
    have e26 : f 26 = .bool false := hf 26 (by decide)
    have B9 := hideIt (below_then HW.out hg)
    clear hf
    simp only [List.take, List.drop, putAll, Act.put, List.setIfInBounds_toArray, List.set_cons_succ, List.set_cons_zero]
    rw [e26]
    clear e26
    have HX9 := hideIt (HX1.out.keep (B9.out.block w.heap.size (by have := HS1.out; omega)))
    have HZ9 := hideIt (HZ1.out.keep (B9.out.block (w.heap.size + 1) (by have := HS1.out; omega)))
    have HB9 := hideIt (HB1.out.trans (B9.out.mono (by have := HS1.out; omega)))
    have HT9 := hideIt (HT1.out.keep B9.out)
    have HPB9 := hideIt (HPB1.out.keep B9.out)
    have HS9 : Hid (w.heap.size + 2 ≤ w9.heap.size) := hideIt (by have := HS1.out; have := B9.out.size; omega)
    clear s0 s1 s2 s3 s4 t0 t1 t2 t3 t4 tl hg
    obtain ⟨s0, s1, s2, s3, s4, t0, t1, t2, t3, t4, tl⟩ := HX9.out.all
    have HFA9 := hideIt ((HFA.out.keep HBX.out).keep B9.out)
    obtain ⟨hY, hBY, hSY⟩ := f_new w9 (strOf s) none 0 0 0
    have HFA4 := hideIt (HFA9.out.keep hBY)
    have HX4 := hideIt (HX9.out.keep (hBY.block _ HX9.out.lt))
    have HBY := hideIt hBY
    have HY4 := hideIt hY
    clear s0 s1 s2 s3 s4 t0 t1 t2 t3 t4 tl hY hBY hSY
    go_upto_region 5 with fail
    generalize w9.alloc (.cells #[.string (strOf s), .slice none 0 0, .int .i64 0] 76) = X4 at *
    obtain ⟨s0, s1, s2, s3, s4, t0, t1, t2, t3, t4, tl⟩ := HX4.out.all
    obtain ⟨⟨bb, off, rfl, hbb, k1, k2, k3⟩, hfp, _⟩ := HFA4.out
    rw [HRN.out] at k1
    unfold FR.row at k2
    obtain ⟨g0, g1, g2, f0, f1, f2⟩ := f_cells HY4.out
    have HY3 := hideIt (f_set3 HY4.out (.string (strOf s)) (.slice r.A r.b.length r.c) (.int .i64 (r.lasts : Int)))
    have HB3 := hideIt (((HBY.out.setCell (p := ⟨w9.heap.size, 0, none⟩) (Nat.le_refl _) (.string (strOf s))).setCell (p := ⟨w9.heap.size, 1, none⟩) (Nat.le_refl _) (.slice r.A r.b.length r.c)).setCell (p := ⟨w9.heap.size, 2, none⟩) (Nat.le_refl _) (.int .i64 (r.lasts : Int)))
    clear hfp
    go_upto_region 7 with fail
    clear s0 s1 s2 s3 s4 t0 t1 t2 t3 t4 tl k1 k2 k3 hbb g0 g1 g2 f0 f1 f2
    generalize ((X4.setCell ⟨w9.heap.size, 0, none⟩ (.string (strOf s))).setCell ⟨w9.heap.size, 1, none⟩ (.slice r.A r.b.length r.c)).setCell ⟨w9.heap.size, 2, none⟩ (.int .i64 (r.lasts : Int)) = X3 at *
    have HFP := hideIt (HFA9.out.2.1.keep HB3.out)
    obtain ⟨fA, fn, fc, fb, fl, HFN, HFM, HPF, HFI2, HYF⟩ : ∃ (fA : Option Addr) (fn fc : Nat) (fb : List UInt8) (fl : Nat), Hid (fb.length = fn) ∧ Hid (fn ≤ 1048576) ∧ Hid (PieceOk X3 ⟨fA, fc, fb⟩) ∧ Hid (∃ f, fileP D.files s = f ∧ f.b = fb ∧ f.lasts = fl) ∧ Hid (X3.heap[w9.heap.size]? = some (.cells #[.string (strOf s), .slice fA fn fc, .int .i64 (fl : Int)] 76 (0, 0))) :=
      ⟨r.A, r.b.length, r.c, r.b, r.lasts, hideIt rfl, HFB, HFP, HFI, HY3⟩
  all_goals
    have HX3 := hideIt (HX9.out.keep (HB3.out.block _ HX9.out.lt))
    have HZ3 := hideIt (HZ9.out.keep (HB3.out.block _ HZ9.out.lt))
    have HBW := hideIt (HB9.out.trans (HB3.out.mono (by have := HS9.out; omega)))
    have HT3 := hideIt (HT9.out.keep HB3.out)
    have HPB3 := hideIt (HPB9.out.keep HB3.out)
    have HG3 : Hid (w9.heap.size < X3.heap.size) := hideIt (Array.getElem?_eq_some_iff.1 HYF.out).1
    obtain ⟨g0, g1, g2, f0, f1, f2⟩ := f_cells HYF.out
    go_wp2_with (at_builtin; refine wpList_app rfl (.tmp 55) (.tmp 57) rfl X3.heap.size (.slice none 0 0) 0 [] rfl (own_none _ _ _) fA fn fc _ fb rfl HFN.out HPF.out.nil HPF.out.bytes (by have := HFM.out; omega) (Nat.le_refl _) ?_)
    intro v4 w4 o4 gr4
    have HB4 := hideIt (below_made gr4)
    have HST : Hid (∃ (A' : Option Addr) (n' c' rm' : Nat) (fu' : Bool) (left' : Int) (dd' : Bool), AppSt w X3 w4 N D fb b 0 true v4 A' n' c' rm' fu' left' dd') := hideIt ⟨_, n, c, rm, fu, left, false, Turn.of HB4.out _, by unfold OwnB; rw [List.take_zero, List.append_nil, HFN.out]; exact o4, HX3.out.keep (HB4.out.block _ HX3.out.lt), by
      show TL w4 _ _ n c rm fu left false (burntP D 0 false)
      rw [burnt_zero HD.out]
      exact HT3.out.keep HB4.out⟩
    clear o4 gr4 g0 g1 g2 f0 f1 f2
    obtain ⟨K, hK⟩ : ∃ K, doneP D bn = K := ⟨_, rfl⟩
    have HK := hideIt hK
    have HKL : Hid (K ≤ bn) := hideIt (by rw [← hK]; exact doneP_le D bn)
    clear hK
    go_wp2_with fail
    go_loopw [10, 11, 12] (fun a o i wr => ∃ (j k : Nat) (ob : Bool) (A' : Option Addr) (n' c' rm' : Nat) (fu' : Bool) (left' : Int) (dd' : Bool), o = .bool ob ∧ i = .int .i64 (j : Int) ∧ j ≤ bn ∧ (ob = true → k = j) ∧ (ob = false → k = K ∧ K < bn) ∧ k ≤ K ∧ AppSt w X3 wr N D fb b k ob a A' n' c' rm' fu' left' dd') (fun a o i wr => bn - (intOf i).toNat)
    case atStart =>
      obtain ⟨A', n', c', rm', fu', left', dd', hst⟩ := HST.out
      exact ⟨0, 0, true, A', n', c', rm', fu', left', dd', rfl, rfl, by omega, (fun _ => rfl), (fun h => by cases h), by omega, hst⟩
    case round =>
      obtain ⟨j2, k, ob, A', n', c', rm', fu', left', dd', rfl, rfl, hj, hk1, hk2, hkK, hst⟩ := hrel
      have HHX : Hid (w.heap.size + 1 < X3.heap.size) := hideIt (by have := HS9.out; have := HG3.out; omega)
      have HSz : Hid (X3.heap.size ≤ wr.heap.size) := hideIt hst.turn.size
      have HSTR := hideIt hst
      have HXr := hideIt hst.head
      have HPBr := hideIt (rp_turn HPB3.out hst.turn fun k hk => hk ▸ HAB.out)
      have hjb : j2 ≤ 1048576 := by have := HBM.out; omega
      by_cases hgo : ob = true ∧ j2 < bn
      · obtain ⟨rfl, hlt⟩ := hgo
        obtain rfl := hk1 rfl
        have hlt' : (k : Int) < (bn : Int) := by omega
        have hkb : k < b.length := by rw [HBL.out]; exact hlt
        obtain ⟨bb2, off2, rfl, _, _⟩ := HPBr.out.bytes (by simp only; omega)
        have hwj : IntKind.i64.wrap ((k : Int) + 1) = (k : Int) + 1 := IntWalk.i64_in _ (by omega)
        obtain ⟨q0, q1, q2, q3, q4, e0, e1, e2, e3, e4, ql⟩ := HXr.out.all
        have HSP := hideIt hst.tl.call_step
        have hkn := hkK
        clear hst hk1 hk2
        rcases Nat.lt_or_ge k K with hkk | hkk
        · obtain ⟨e1', e2'⟩ := burnt_step (D := D) (n := bn) (i := k) (by rw [HK.out]; exact hkk)
          have HSP2 := HSP.out
          rw [show burntP D k (!true) = burntP D k false from rfl, e1', e2'] at HSP2
          have HSP3 := hideIt HSP2
          clear HSP2 HSP e1' e2'
          go_wp2_with fail
          refine HSP3.out.mono ?_
          rintro e w5 ⟨A2, n2, c2, rm2, fu2, left2, dd2, rfl, hT5, hb5⟩
          unfold tV tC
          obtain ⟨hU, hBU, hSU⟩ := third_new w5 (.slice A2 n2 c2) (.int .i64 (rm2 : Int)) (.bool fu2) (.int .i64 left2) (.bool dd2)
          have HU5 := hideIt hU
          have HX5 := hideIt ((HXr.out.keep (hb5.block _ HXr.out.lt)).keep (hBU.block _ (by have := HXr.out.lt; have := hb5.size; omega)))
          have HB5 := hideIt (hb5.trans (hBU.mono hb5.size))
          have HT5 := hideIt (hT5.keep hBU)
          clear q0 q1 q2 q3 q4 e0 e1 e2 e3 e4 ql hU hBU hSU hT5 hb5
          go_upto_region 14 with fail
          generalize w5.alloc (.cells #[.slice A2 n2 c2, .int .i64 (rm2 : Int), .bool fu2, .int .i64 left2, .bool dd2] 37) = X5 at *
          have HS6 := hideIt (AppSt.stopped (ob := true) HSTR.out (by have := HHX.out; omega) HB5.out HT5.out)
          obtain ⟨v0, v1, v2, v3, v4', f0, f1, f2, f3, f4, vl⟩ := HU5.out.all
          obtain ⟨q0, q1, q2, q3, q4, e0, e1, e2, e3, e4, ql⟩ := HX5.out.all
          go_upto_region 15 with fail
          clear v0 v1 v2 v3 v4' f0 f1 f2 f3 f4 vl q0 q1 q2 q3 q4 e0 e1 e2 e3 e4 ql
          generalize ((((X5.setCell ⟨w.heap.size, 0, none⟩ (.slice A2 n2 c2)).setCell ⟨w.heap.size, 1, none⟩ (.int .i64 (rm2 : Int))).setCell ⟨w.heap.size, 2, none⟩ (.bool fu2)).setCell ⟨w.heap.size, 3, none⟩ (.int .i64 left2)).setCell ⟨w.heap.size, 4, none⟩ (.bool dd2) = X6 at *
          obtain ⟨_, off3, hbA, _, hcb⟩ := (rp_turn HPB3.out HS6.out.1 fun k hk => hk ▸ HAB.out).bytes (by simp only; omega)
          obtain ⟨rfl, rfl⟩ : bb2 = _ ∧ off2 = off3 := by simpa using hbA
          have hbyte := hcb k (by simp only; omega)
          clear hcb hbA
          obtain ⟨bv, hbv⟩ : ∃ bv, b[k] = bv := ⟨_, rfl⟩
          have HBV := hideIt hbv
          simp only [hbv] at hbyte
          clear hbv
          obtain ⟨ci, hci⟩ : ∃ ci : Int, (bv.toNat : Int) = ci := ⟨_, rfl⟩
          rw [hci] at hbyte
          have HCI := hideIt hci
          clear hci
          go_wp2_with (at_builtin; refine wpList_appB1 rfl (.tmp 76) (.tmp 81) rfl X3.heap.size _ _ bv ci HCI.out rfl HS6.out.2.1 rfl (by rw [List.length_append, List.length_take, HFN.out]; have := HFM.out; omega) HS6.out.1.size ?_)
          intro v7 w7 o7 g7
          have HS7 := hideIt (AppSt.taken HS6.out.1 HS6.out.2.1 HS6.out.2.2.1 HS6.out.2.2.2 (by have := HHX.out; omega) hkb (by rw [HBV.out, List.append_assoc]; exact o7) g7)
          clear o7 g7 hbyte
          go_wp2_with fail
          go_roundw
          case rel => exact ⟨k + 1, k + 1, true, A2, n2, c2, rm2, fu2, left2, dd2, rfl, by simp, by omega, (fun _ => rfl), (fun h => by cases h), by omega, HS7.out⟩
          case measure => simp [intOf]; omega
        · obtain ⟨e1', e2'⟩ := burnt_stop (D := D) (n := bn) (i := k) (by rw [HK.out]; omega) hlt
          have HSP2 := HSP.out
          rw [show burntP D k (!true) = burntP D k false from rfl, e1', e2'] at HSP2
          have HSP3 := hideIt HSP2
          clear HSP2 HSP e1' e2'
          go_wp2_with fail
          refine HSP3.out.mono ?_
          rintro e w5 ⟨A2, n2, c2, rm2, fu2, left2, dd2, rfl, hT5, hb5⟩
          unfold tV tC
          obtain ⟨hU, hBU, hSU⟩ := third_new w5 (.slice A2 n2 c2) (.int .i64 (rm2 : Int)) (.bool fu2) (.int .i64 left2) (.bool dd2)
          have HU5 := hideIt hU
          have HX5 := hideIt ((HXr.out.keep (hb5.block _ HXr.out.lt)).keep (hBU.block _ (by have := HXr.out.lt; have := hb5.size; omega)))
          have HB5 := hideIt (hb5.trans (hBU.mono hb5.size))
          have HT5 := hideIt (hT5.keep hBU)
          clear q0 q1 q2 q3 q4 e0 e1 e2 e3 e4 ql hU hBU hSU hT5 hb5
          go_upto_region 14 with fail
          generalize w5.alloc (.cells #[.slice A2 n2 c2, .int .i64 (rm2 : Int), .bool fu2, .int .i64 left2, .bool dd2] 37) = X5 at *
          have HS6 := hideIt (AppSt.stopped (ob := false) HSTR.out (by have := HHX.out; omega) HB5.out HT5.out)
          obtain ⟨v0, v1, v2, v3, v4', f0, f1, f2, f3, f4, vl⟩ := HU5.out.all
          obtain ⟨q0, q1, q2, q3, q4, e0, e1, e2, e3, e4, ql⟩ := HX5.out.all
          go_upto_region 15 with fail
          clear v0 v1 v2 v3 v4' f0 f1 f2 f3 f4 vl q0 q1 q2 q3 q4 e0 e1 e2 e3 e4 ql
          generalize ((((X5.setCell ⟨w.heap.size, 0, none⟩ (.slice A2 n2 c2)).setCell ⟨w.heap.size, 1, none⟩ (.int .i64 (rm2 : Int))).setCell ⟨w.heap.size, 2, none⟩ (.bool fu2)).setCell ⟨w.heap.size, 3, none⟩ (.int .i64 left2)).setCell ⟨w.heap.size, 4, none⟩ (.bool dd2) = X6 at *
          go_wp2_with fail
          go_roundw
          case rel => exact ⟨k + 1, k, false, A2, n2, c2, rm2, fu2, left2, dd2, rfl, by simp, by omega, (fun h => by cases h), (fun _ => ⟨by omega, by omega⟩), by omega, ⟨HS6.out.1, HS6.out.2.1, HS6.out.2.2.1, HS6.out.2.2.2⟩⟩
          case measure => simp [intOf]; omega
      · have HEND : Hid (k = K ∧ ob = decide (K = bn)) := hideIt (by
          have := HKL.out
          cases ob with
          | true => have h1 := hk1 rfl; have h2 : ¬ j2 < bn := fun h => hgo ⟨rfl, h⟩; exact ⟨by omega, (decide_eq_true (by omega)).symm⟩
          | false => have h1 := hk2 rfl; exact ⟨h1.1, (decide_eq_false (by omega)).symm⟩)
        have HGO := hideIt hgo
        have hown := HSTR.out.own
        unfold OwnB at hown
        have hll : (fb ++ b.take k).length ≤ 140737488355328 := by rw [List.length_append, List.length_take, HFN.out]; have := HFM.out; have := HBL.out; have := HBM.out; omega
        obtain ⟨RB, hRB⟩ : ∃ RB, fb ++ b.take k = RB := ⟨_, rfl⟩
        rw [hRB] at hown hll
        obtain ⟨RA, rc, rfl, _, hRP⟩ := own_pieceAny hown hll
        have HRP := hideIt hRP
        have HRAP : Hid (∀ q, With N w.heap.size (w.heap.size + 2) q → Apart RA RB q) := hideIt fun q hq hn ad e => by
          obtain ⟨g, cc, hv, hg, _⟩ := own_some hown hn
          obtain ⟨rfl, _⟩ : RA = some ⟨g, 0, none⟩ ∧ rc = cc := by simpa using hv
          cases e
          have := HHX.out
          rcases hq with h1 | h1
          · have := HN.out q h1; simp only; omega
          · simp only; omega
        obtain ⟨E, hE⟩ : ∃ E, burntP D k (!ob) = E := ⟨_, rfl⟩
        have HTW := hideIt (HSTR.out.tl.weak (With N w.heap.size (w.heap.size + 2)) fun q hq => by
          rcases hq with h1 | h1
          · exact Or.inl h1
          · exact Or.inr h1.1)
        rw [hE] at HTW
        have HML : Hid (E.files.length ≤ 900000) := hideIt (by rw [← hE]; have := HO.out.many; show D.files.length ≤ _; omega)
        have HE : Hid (R = (E.withFiles (putP E.files ⟨s, RB, fl⟩), ob)) := hideIt (by
          obtain ⟨f, hf1, hf2, hf3⟩ := HFI2.out
          have h1 := HEND.out
          have h2 := HK.out
          have h3 := HBL.out
          have h4 := HKL.out
          rw [HR.out, burnt_grown hf1 k (by rw [h3, h2]; exact h1.1) (!ob) (by
            rw [h1.2, h3, h2]
            by_cases hq : K = bn
            · rw [decide_eq_true hq, decide_eq_false (by omega)]; rfl
            · rw [decide_eq_false hq, decide_eq_true (by omega)]; rfl), hE, hf2, hf3, hRB, h3, h2, ← h1.2])
        have HNX := hideIt (with_lt (g := w.heap.size) (m := w.heap.size + 2) (s := wr.heap.size) HN.out (by have := HHX.out; have := HSz.out; omega) (by have := HHX.out; have := HSz.out; omega))
        have HW := hideIt (show ∀ u, Below wr.heap.size wr u → _ from fun u hu => (HTW.out.keep hu).call_put (fun q hq => Nat.lt_of_lt_of_le (HNX.out q hq) hu.size) HML.out ⟨s, RA, rc, RB, fl⟩ (HRP.out.keep hu) HRAP.out)
        have HZr := hideIt (HZ3.out.keep (hst.turn.block _ (by have := HHX.out; omega) (by omega)))
        have HYr := hideIt ((hst.turn.block w9.heap.size HG3.out (by have := HS9.out; omega)).trans HYF.out)
        have HBr := hideIt (HBW.out.trans (hst.turn.below (B := w.heap.size) (by have := HHX.out; omega) (fun i hi => by omega)))
        have HLU := hideIt HXr.out.lt
        have HLY : Hid (w9.heap.size < wr.heap.size) := hideIt (by have := HG3.out; have := HSz.out; omega)
        have HLK : Hid (w.heap.size + 1 < wr.heap.size ∧ w.heap.size ≤ wr.heap.size) := hideIt (by have := HHX.out; have := HSz.out; omega)
        clear hgo hk1 hk2 hkK hst hj hown hll hRB hRP hE
        obtain ⟨q0, q1, q2, q3, q4, e0, e1, e2, e3, e4, ql⟩ := HXr.out.all
        rcases Nat.lt_or_ge j2 bn with hlt | hlt
        · obtain rfl : ob = false := by
            cases ob with
            | true => exact absurd ⟨rfl, hlt⟩ HGO.out
            | false => rfl
          have hlt' : (j2 : Int) < (bn : Int) := by omega
          go_upto_region 18 with fail
          obtain ⟨g0, g1, g2, h0, h1, h2⟩ := f_cells HYr.out
          have HWW := hideIt (HW.out wr (Below.refl _ _))
          go_wp2_with fail
          refine HWW.out.mono ?_
          rintro e w10 ⟨A3, n3, c3, rfl, hT3, hg3⟩
          unfold tV tC
          have hZ4 := HZr.out.keep (hg3.block (w.heap.size + 1) HLK.out.1)
          have hB4 := HBr.out.trans (hg3.mono HLK.out.2)
          clear q0 q1 q2 q3 q4 e0 e1 e2 e3 e4 ql g0 g1 g2 h0 h1 h2
          obtain ⟨z0, z1, z2, z3, z4, y0, y1, y2, y3, y4, _⟩ := hZ4.all
          have ZS := hideIt (hZ4.set5 (.slice A3 n3 c3) (.int .i64 (rm' : Int)) (.bool fu') (.int .i64 left') (.bool dd'))
          have BS := hideIt (below_set5 hB4 (by omega : w.heap.size ≤ w.heap.size + 1) (.slice A3 n3 c3) (.int .i64 (rm' : Int)) (.bool fu') (.int .i64 left') (.bool dd'))
          have HT4 := hideIt hT3
          clear hZ4 hB4 hg3 hT3
          go_wp2_with fail
          refine bodyPost_ret (results_D2 Try.results35 _ _ (w.heap.size + 1) _ _ _ _ _ _ rfl rfl (by exact ZS.out)) rfl ?_
          exact two_is (HT4.out.ends (w.heap.size + 1) (by omega) _ _ _ _ _) BS.out HE.out
        · have hlt' : ¬ (j2 : Int) < (bn : Int) := by omega
          have hlt2 : decide (j2 < bn) = false := decide_eq_false (by omega)
          have hlt3 : decide ((j2 : Int) < (bn : Int)) = false := decide_eq_false (by omega)
          go_upto_region 18 with fail
          obtain ⟨g0, g1, g2, h0, h1, h2⟩ := f_cells HYr.out
          have HWW := hideIt (HW.out wr (Below.refl _ _))
          go_wp2_with fail
          refine HWW.out.mono ?_
          rintro e w10 ⟨A3, n3, c3, rfl, hT3, hg3⟩
          unfold tV tC
          have hZ4 := HZr.out.keep (hg3.block (w.heap.size + 1) HLK.out.1)
          have hB4 := HBr.out.trans (hg3.mono HLK.out.2)
          clear q0 q1 q2 q3 q4 e0 e1 e2 e3 e4 ql g0 g1 g2 h0 h1 h2
          obtain ⟨z0, z1, z2, z3, z4, y0, y1, y2, y3, y4, _⟩ := hZ4.all
          have ZS := hideIt (hZ4.set5 (.slice A3 n3 c3) (.int .i64 (rm' : Int)) (.bool fu') (.int .i64 left') (.bool dd'))
          have BS := hideIt (below_set5 hB4 (by omega : w.heap.size ≤ w.heap.size + 1) (.slice A3 n3 c3) (.int .i64 (rm' : Int)) (.bool fu') (.int .i64 left') (.bool dd'))
          have HT4 := hideIt hT3
          clear hZ4 hB4 hg3 hT3
          go_wp2_with fail
          refine bodyPost_ret (results_D2 Try.results35 _ _ (w.heap.size + 1) _ _ _ _ _ _ rfl rfl (by exact ZS.out)) rfl ?_
          exact two_is (HT4.out.ends (w.heap.size + 1) (by omega) _ _ _ _ _) BS.out HE.out
end Go.Proofs.Ythpbhfepiekchaa
