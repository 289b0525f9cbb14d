/- The contract of mac.blockOf. -/
import Derived.Test.YtflbdjlmkmmahaaDoorMacFlip
namespace Go.Proofs.YtflbdjlmkmmahaaDoor
open Go.ChangeShapes Go.WideShapes Go.ChangeAt Go.RowKit
set_option linter.unusedVariables false

/-- copy(k[:], key): key's bytes with noughts behind -/
theorem wpList_fill64 {w : World} {ops : Array Oper} {rest : List Oper} {o : Oper} {a : Act} {Q : Exit → Act → World → Prop} (hgd : o.guard = none) (d s : Operand)
    (ho : o.op = .call { callee := .builtin .copy, args := #[d, s], argTypes := #[22, 22] }) (g : Nat) (hd : a.eval d = .slice (some ⟨g, 0, none⟩) 64 64)
    (A : Option Addr) (n c : Nat) (bs : List UInt8) (hs : a.eval s = .slice A n c) (hn : bs.length = n) (hle : n ≤ 64) (hb : BytesAt w w.heap.size A bs) (ty : TypeId) (hg : BArr w g ty (List.replicate 64 0)) (X : World) (hX : w.setRow g (arrC (bs ++ List.replicate (64 - n) 0)) = X)
    (h : wpList Tryd.prog ops Q rest (a.put o.dst (goInt n)) X) : wpList Tryd.prog ops Q (o :: rest) a w := by
  subst hn hX
  have hmin : Nat.min bs.length 64 = bs.length := Nat.min_eq_left hle
  rcases Nat.eq_zero_or_pos bs.length with h0 | h0
  · obtain rfl := List.eq_nil_of_length_eq_zero h0
    refine wpList_copy_nothing hgd d s _ _ ho 5 Tryd.underlying22 info_u8s _ _ _ _ _ _ hd hs (by simp) ?_
    have e : w.setRow g (arrC ([] ++ List.replicate (64 - ([] : List UInt8).length) 0)) = w := by
      have h1 : w.heap[g]? = some (.cells (arrC (List.replicate 64 0)) ty (0, 0)) := hg
      have h2 := (Array.getElem?_eq_some_iff.1 h1)
      show ({ w with heap := w.heap.modify g _ } : World) = w
      congr 1
      refine Array.ext (by simp) fun i h3 h4 => ?_
      rw [Array.getElem_modify]
      split
      · rename_i hgi; subst hgi
        obtain ⟨h5, h6⟩ := h2
        rw [h6]; rfl
      · rfl
    rw [e] at h
    exact h
  · obtain ⟨b, off, rfl, _, hc⟩ := hb h0
    refine wpList_copy_own hgd d s _ _ ho 5 Tryd.underlying22 info_u8s g 0 64 64 ⟨b, off, none⟩ bs.length c hd hs (arrC (List.replicate 64 0)) ty hg (cellsOf bs) (by rw [cellsOf_length]; exact hmin.symm) ?_ (by rw [cellsOf_length, arrC_size, List.length_replicate]; omega) ?_ ?_
    · intro j u hu
      have hj : j < bs.length := by
        rcases Nat.lt_or_ge j bs.length with hh | hh
        · exact hh
        · rw [List.getElem?_eq_none (by rw [cellsOf_length]; exact hh)] at hu; cases hu
      rw [cellsOf_at bs j hj] at hu
      rw [Go.WideShapes.add_plain, hc j hj, hu]
    · intro u hu
      obtain ⟨b, _, rfl⟩ := List.mem_map.1 hu
      rfl
    · rw [cellsOf_length]
      have e : ((arrC (List.replicate 64 0)).toList.take 0 ++ (cellsOf bs ++ (arrC (List.replicate 64 0)).toList.drop (0 + bs.length))).toArray = arrC (bs ++ List.replicate (64 - bs.length) 0) := by
        have e2 : (arrC (List.replicate 64 0)).toList.drop (0 + bs.length) = cellsOf (List.replicate (64 - bs.length) 0) := by
          show (cellsOf (List.replicate 64 0)).drop (0 + bs.length) = _
          rw [Nat.zero_add, cellsOf, ← List.map_drop, List.drop_replicate]; rfl
        rw [e2, List.take_zero, List.nil_append, arrC, cellsOf_append]
      rw [e]
      exact h

theorem wpList_load64b {ops : Array Oper} {rest : List Oper} {o : Oper} {a : Act} {w : World} {Q : Exit → Act → World → Prop} (hgd : o.guard = none) (x : Operand) (ho : o.op = .load 42 x)
    (g : Nat) (ty : TypeId) (k : List UInt8) (hx : a.eval x = .pointer (some ⟨g, 0, none⟩)) (hA : BArr w g ty k) (hl : k.length = 64)
    (h : wpList Tryd.prog ops Q rest (a.put o.dst (.agg (arrC k))) w) : wpList Tryd.prog ops Q (o :: rest) a w :=
  wpList_load_row hgd _ x ho g hx ty (arrC k) (0, 0) _ hA Tryd.underlying42 rfl (by rw [arrC_size, hl]; exact info_b64) h
theorem wpList_store64b {ops : Array Oper} {rest : List Oper} {o : Oper} {a : Act} {w X : World} {Q : Exit → Act → World → Prop} (hgd : o.guard = none) (x y : Operand) (ho : o.op = .store 42 x y)
    (g : Nat) (ty : TypeId) (old l : List UInt8) (hx : a.eval x = .pointer (some ⟨g, 0, none⟩)) (hy : a.eval y = .agg (arrC l)) (hA : BArr w g ty old) (ho' : old.length = 64) (hl : l.length = 64) (hX : w.setRow g (arrC l) = X)
    (h : wpList Tryd.prog ops Q rest (a.put o.dst undef) X) : wpList Tryd.prog ops Q (o :: rest) a w := by
  subst hX
  exact wpList_store_row hgd _ x y ho g (arrC l) hx hy ty (arrC old) hA (by rw [arrC_size, hl]; exact info_b64) (by rw [arrC_size, arrC_size, hl, ho']) (arrC_one l) h

set_option maxHeartbeats 1000000 in
theorem blockOf_any (A : Option Addr) (bs : List UInt8) (n c : Nat) (w : World) (hT : Tabs w) (hp : PieceOk w ⟨A, c, bs⟩) (hn : bs.length = n) :
    Calls Tryd.prog 25 #[.slice A n c] w fun e w' => e = .returned (.agg (arrC (keyL bs))) ∧ Below w.heap.size w w' := by
  have hsz := hT.size
  have hm : n ≤ 140737488355328 := by have := hp.long; simp only at this; omega
  generalize e1 : w.alloc (.cells (arrC (List.replicate 64 0)) 42) = X1
  have s1 : X1.heap.size = w.heap.size + 1 := by rw [← e1, alloc_size]
  have a1 : BArr X1 w.heap.size 42 (List.replicate 64 0) := e1 ▸ BArr.made w _ _
  have b1 : Below w.heap.size w X1 := e1 ▸ below_one (Below.refl _ _) _
  have E1 := hideIt e1
  clear e1
  have hT1 := hT.keep b1
  have hp1 := hp.keep b1
  by_cases h64 : 64 < n
  · have h64' : (64 : Int) < (n : Int) := by omega
    have hk : keyL bs = sumL bs ++ List.replicate (64 - 32) 0 := by
      unfold keyL shortL
      rw [if_pos (by omega), sumL_length]
    have hkl := keyL_length bs
    generalize e2 : X1.alloc (.cells #[.slice A n c] 22) = X2
    have s2 : X2.heap.size = w.heap.size + 2 := by rw [← e2, alloc_size, s1]
    have b2 : Below X1.heap.size X1 X2 := e2 ▸ below_one (Below.refl _ _) _
    have k2 : X2.heap[w.heap.size + 1]? = some (.cells #[.slice A n c] 22 (0, 0)) := by rw [← e2, ← s1]; exact heap_alloc_new X1 _
    have E2 := hideIt e2
    clear e2
    have hsum := sum_list [⟨A, c, bs⟩] (w.heap.size + 1) 1 1 X2 _ _ (hT1.keep b2) k2 (by simp [Piece.val, hn]) (fun p hp' => by
      simp only [List.mem_cons, List.not_mem_nil, or_false] at hp'
      subst hp'; exact hp1.keep b2) rfl (by omega) bs (by simp [allL])
    rw [← E2.out, ← E1.out] at hsum
    go_enter Tryd.func25, Tryd.ntmps25
    go_wp2_with fail
    refine Calls.mono hsum ?_
    rw [E1.out, E2.out]
    rintro e w3 ⟨g, hg, rfl, o3, b3⟩
    have B3 : Below w.heap.size w w3 := b1.trans (((b2.mono (by omega : w.heap.size ≤ X1.heap.size)).trans (b3.mono (by omega))))
    have a13 : BArr w3 w.heap.size 42 (List.replicate 64 0) := (a1.keep b2).keep b3
    have s3 : w.heap.size < w3.heap.size := by have := b3.size; omega
    have hp3 := own_bytes o3
    clear hsum o3 b3 b2 a1 b1 hT1 hp1 hp hT k2
    generalize e4 : w3.alloc (.cells (arrC (List.replicate 64 0)) 42) = X4
    have a4 : BArr X4 w3.heap.size 42 (List.replicate 64 0) := e4 ▸ BArr.made w3 _ _
    have hp4 : BytesAt X4 X4.heap.size (some ⟨g, 0, none⟩) (sumL bs) := by
      have b4 : Below w3.heap.size w3 X4 := e4 ▸ below_one (Below.refl _ _) _
      exact (hp3.keep fun p hp => b4.cell hp).more b4.size
    generalize e5 : X4.setRow w3.heap.size (arrC (keyL bs)) = X5
    have a5 : BArr X5 w3.heap.size 42 (keyL bs) := e5 ▸ a4.row _
    have a15 : BArr X5 w.heap.size 42 (List.replicate 64 0) := by rw [← e5, ← e4]; exact (a13.alloc _).otherRow _ (by omega)
    have b5 : Below w.heap.size w X5 := by rw [← e5, ← e4]; exact below_setRow (below_one B3 _) (by omega) _
    generalize e6 : X5.setRow w.heap.size (arrC (keyL bs)) = X6
    have b6 : Below w.heap.size w X6 := e6 ▸ below_setRow b5 (Nat.le_refl _) _
    have a6 : BArr X6 w.heap.size 42 (keyL bs) := e6 ▸ a15.row _
    rw [hk] at e5
    clear hk
    have E4 := hideIt e4
    have E5 := hideIt e5
    have E6 := hideIt e6
    clear e4 e5 e6
    rw [← E4.out] at hp4 a4 E5
    go_wp2_with (first
      | (refine wpList_fill64 rfl (.tmp 10) (.tmp 11) rfl w3.heap.size rfl (some ⟨g, 0, none⟩) 32 32 (sumL bs) rfl (sumL_length bs) (by omega) (by exact hp4) 42 (by exact a4) X5 (by exact E5.out) ?_)
      | (refine wpList_load64b rfl (.tmp 3) rfl w3.heap.size 42 (keyL bs) rfl a5 hkl ?_)
      | (refine wpList_store64b rfl (.tmp 2) (.tmp 13) rfl w.heap.size 42 (List.replicate 64 0) (keyL bs) rfl rfl a15 rfl hkl (by exact E6.out) ?_))
    refine bodyPost_ret (v := .agg (arrC (keyL bs))) ?_ rfl ⟨rfl, b6⟩
    exact results_cell_row Tryd.results25 _ _ w.heap.size 42 (arrC (keyL bs)) (0, 0) _ rfl a6 Tryd.underlying42 rfl (by rw [arrC_size, hkl]; exact info_b64)
  · have h64' : ¬ (64 : Int) < (n : Int) := by omega
    have hk : keyL bs = bs ++ List.replicate (64 - n) 0 := by
      unfold keyL shortL
      rw [if_neg (by omega), hn]
    have hkl := keyL_length bs
    generalize e2 : X1.alloc (.cells (arrC (List.replicate 64 0)) 42) = X2
    have s2 : X2.heap.size = w.heap.size + 2 := by rw [← e2, alloc_size, s1]
    have b2 : Below X1.heap.size X1 X2 := e2 ▸ below_one (Below.refl _ _) _
    have a2 : BArr X2 (w.heap.size + 1) 42 (List.replicate 64 0) := by rw [← e2, ← s1]; exact BArr.made X1 _ _
    have a1' := a1.keep b2
    have hp2 := hp1.keep b2
    generalize e5 : X2.setRow (w.heap.size + 1) (arrC (keyL bs)) = X5
    have a5 : BArr X5 (w.heap.size + 1) 42 (keyL bs) := e5 ▸ a2.row _
    have a15 : BArr X5 w.heap.size 42 (List.replicate 64 0) := e5 ▸ a1'.otherRow _ (by omega)
    have b5 : Below w.heap.size w X5 := e5 ▸ below_setRow (b1.trans (b2.mono (by omega))) (by omega) _
    generalize e6 : X5.setRow w.heap.size (arrC (keyL bs)) = X6
    have b6 : Below w.heap.size w X6 := e6 ▸ below_setRow b5 (Nat.le_refl _) _
    have a6 : BArr X6 w.heap.size 42 (keyL bs) := e6 ▸ a15.row _
    rw [hk] at e5
    clear hk
    have hpb := hp2.bytes
    have E2 := hideIt e2
    have E5 := hideIt e5
    have E6 := hideIt e6
    clear e2 e5 e6 hp hp1 hp2 hT hT1 b1 b2 a1 a1'
    rw [← E2.out, ← E1.out] at hpb a2 E5
    go_enter Tryd.func25, Tryd.ntmps25
    go_wp2_with (first
      | (refine wpList_fill64 rfl (.tmp 10) (.tmp 11) rfl (w.heap.size + 1) rfl A n c bs rfl hn (by omega) (by exact hpb) 42 (by exact a2) X5 (by exact E5.out) ?_)
      | (refine wpList_load64b rfl (.tmp 3) rfl (w.heap.size + 1) 42 (keyL bs) rfl a5 hkl ?_)
      | (refine wpList_store64b rfl (.tmp 2) (.tmp 13) rfl w.heap.size 42 (List.replicate 64 0) (keyL bs) rfl rfl a15 rfl hkl (by exact E6.out) ?_))
    refine bodyPost_ret (v := .agg (arrC (keyL bs))) ?_ rfl ⟨rfl, b6⟩
    exact results_cell_row Tryd.results25 _ _ w.heap.size 42 (arrC (keyL bs)) (0, 0) _ rfl a6 Tryd.underlying42 rfl (by rw [arrC_size, hkl]; exact info_b64)
end Go.Proofs.YtflbdjlmkmmahaaDoor
