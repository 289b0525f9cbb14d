/- The contracts of the reference's words and roots. -/
import Derived.Test.YtflbdjlmkmmahaaDoorRefNum2
import Derived.Deep.RegionLaw
namespace Go.Proofs.YtflbdjlmkmmahaaDoor
open Go.ChangeShapes Go.WideShapes Go.ChangeAt Go.RowKit
set_option linter.unusedVariables false
set_option linter.unusedSimpArgs false

/-- words as cells -/
def wcells (l : List Nat) : List Value := l.map fun x : Nat => Value.int .u32 (x : Int)
theorem wcells_length (l : List Nat) : (wcells l).length = l.length := by simp [wcells]
theorem wcells_append (a b : List Nat) : wcells (a ++ b) = wcells a ++ wcells b := by simp [wcells]
theorem wcells_at (l : List Nat) (i : Nat) (h : i < l.length) : (wcells l)[i]? = some (.int .u32 ((l[i] : Nat) : Int)) := by simp [wcells, h]
/-- append of one word onto a row of words of the call's own -/
theorem wpList_appW {w : World} {ops : Array Oper} {rest : List Oper} {o : Oper} {a : Act} {Q : Exit → Act → World → Prop} (hgd : o.guard = none) (s x : Operand)
    (ho : o.op = .call { callee := .builtin .append, args := #[s, x], argTypes := #[52, 52] })
    (base : Nat) (v : Value) (n : Nat) (xs : List Nat) (hs : a.eval s = v) (hown : w.ownsRow base 46 1 v n (wcells xs))
    (g y : Nat) (hx : a.eval x = .slice (some ⟨g, 0, none⟩) 1 1) (hc : w.cell? ⟨g, 0, none⟩ = some (.int .u32 (y : Int)))
    (hlen : n ≤ 1000) (hbase : base ≤ w.heap.size)
    (h : ∀ v' w', w'.ownsRow base 46 1 v' (n + 1) (wcells (xs ++ [y])) → w.grownBy w' v.ownBlock → wpList Tryd.prog ops Q rest (a.put o.dst v') w') : wpList Tryd.prog ops Q (o :: rest) a w := by
  obtain ⟨i0, hi, hz0, hz1, hz2⟩ := info_parts info_u32
  refine wpList_append_own w hgd s x 52 ho base 46 i0 (.int .u32 0) 1 4 Tryd.underlying52 hi hz0 hz1 hz2 rfl (by decide) v n _ hs hown ⟨g, 0, none⟩ 1 1 (wcells [y]) hx rfl ?_ ?_ (by unfold maxLen; omega) (by omega) hbase ?_
  · intro j u hu
    have hj : j = 0 := by
      rcases Nat.eq_zero_or_pos j with h0 | h0
      · exact h0
      · rw [List.getElem?_eq_none (by rw [wcells_length]; exact h0)] at hu; cases hu
    subst hj
    rw [Go.WideShapes.add_plain, hc]
    exact hu
  · intro u hu
    obtain ⟨b, _, rfl⟩ := List.mem_map.1 hu
    rfl
  · intro v' w' h1 h2 _
    exact h v' w' (by rw [wcells_append]; exact h1) h2
/-- the same as a step of a region that draws -/
theorem step_appW {w : World} {o : Oper} {a : Act} {K : Act → World → Prop} {Q : Exit → Act → World → Prop} {E c' : Prop} [Decidable c'] (hgd : c') (s x : Operand)
    (ho : o.op = .call { callee := .builtin .append, args := #[s, x], argTypes := #[52, 52] })
    (base : Nat) (v : Value) (n : Nat) (xs : List Nat) (hs : a.eval s = v) (hown : w.ownsRow base 46 1 v n (wcells xs))
    (g y : Nat) (hx : a.eval x = .slice (some ⟨g, 0, none⟩) 1 1) (hc : w.cell? ⟨g, 0, none⟩ = some (.int .u32 (y : Int)))
    (hlen : n ≤ 1000) (hbase : base ≤ w.heap.size)
    (h : ∀ v' w', w'.ownsRow base 46 1 v' (n + 1) (wcells (xs ++ [y])) → w.grownBy w' v.ownBlock → K (a.put o.dst v') w') : if c' then Oper.wp Tryd.prog o a w K Q else E := by
  rw [if_pos hgd]
  obtain ⟨i0, hi, hz0, hz1, hz2⟩ := info_parts info_u32
  refine wp_append_own w s x 52 ho base 46 i0 (.int .u32 0) 1 4 Tryd.underlying52 hi hz0 hz1 hz2 rfl (by decide) v n _ hs hown ⟨g, 0, none⟩ 1 1 (wcells [y]) hx rfl ?_ ?_ (by unfold maxLen; omega) (by omega) hbase ?_
  · intro j u hu
    have hj : j = 0 := by
      rcases Nat.eq_zero_or_pos j with h0 | h0
      · exact h0
      · rw [List.getElem?_eq_none (by rw [wcells_length]; exact h0)] at hu; cases hu
    subst hj
    rw [Go.WideShapes.add_plain, hc]
    exact hu
  · intro u hu
    obtain ⟨b, _, rfl⟩ := List.mem_map.1 hu
    rfl
  · intro v' w' h1 h2 _
    exact h v' w' (by rw [wcells_append]; exact h1) h2
theorem ownW_cell {w : World} {base n : Nat} {A : Option Addr} {c : Nat} {xs : List Nat} (h : w.ownsRow base 46 1 (.slice A n c) n (wcells xs)) (hn : 0 < n) : ∃ g, A = some ⟨g, 0, none⟩ ∧ base ≤ g ∧ g < w.heap.size ∧ n ≤ c ∧ c ≤ maxLen ∧ xs.length = n ∧ ∀ j (hj : j < xs.length), w.cell? ⟨g, j, none⟩ = some (.int .u32 ((xs[j] : Nat) : Int)) := by
  have hl : xs.length = n := by have := h.1; rwa [wcells_length, Nat.mul_one] at this
  rcases h.2 with ⟨h0, h1⟩ | ⟨g, cap, cur, h0, hb, hg, hnc, hcm, hsz, ht⟩
  · omega
  · cases h0
    refine ⟨g, rfl, hb, (Array.getElem?_eq_some_iff.1 hg).1, hnc, hcm, hl, fun j hj => ?_⟩
    rw [h.cellAt j (by omega), wcells_at xs j hj]
theorem ownW_open {w : World} {base n : Nat} {v : Value} {xs : List Nat} (h : w.ownsRow base 46 1 v n (wcells xs)) : ∃ A c, v = .slice A n c := by
  rcases h.2 with ⟨rfl, h0⟩ | ⟨g, cap, cur, rfl, _⟩
  · exact ⟨none, 0, by rw [h0]⟩
  · exact ⟨_, _, rfl⟩
theorem ownW_none (w : World) (base : Nat) : w.ownsRow base 46 1 (.slice none 0 0) 0 (wcells []) := ⟨rfl, Or.inl ⟨rfl, rfl⟩⟩
theorem range_next (f : Nat → Nat) (t : Nat) : (List.range (t + 1)).map f = (List.range t).map f ++ [f t] := by rw [List.range_succ]; simp

set_option maxHeartbeats 2000000 in
theorem refwords_any (A : Option Addr) (bs : List UInt8) (c B : Nat) (w : World) (hb : BytesAt w B A bs) (hB : B ≤ w.heap.size) (hlen : bs.length = 64) (hl : 64 ≤ c) (hc : c ≤ 9223372036854775807) :
    Calls Tryd.prog 33 #[.slice A 64 c] w fun e w' => ∃ v, e = .returned v ∧ w'.ownsRow w.heap.size 46 1 v 64 (wcells ((List.range 64).map (wAt bs))) ∧ Below w.heap.size w w' := by
  obtain ⟨b, off, rfl, hB', hcell⟩ := hb (by omega)
  clear hcell
  replace hb := hideIt hb
  go_enter Tryd.func33, Tryd.ntmps33
  go_wp2_with fail
  go_loopw [3, 4] (fun v i wr => ∃ t : Nat, t ≤ 16 ∧ i = .int .i64 ((4 * t : Nat) : Int) ∧ wr.ownsRow w.heap.size 46 1 v t (wcells ((List.range t).map (wAt bs))) ∧ Below w.heap.size w wr) (fun _ i _ => 64 - (intOf i).toNat)
  case atStart => exact ⟨0, by omega, rfl, ownW_none _ _, Below.refl _ _⟩
  case round =>
    obtain ⟨t, ht, rfl, ho, hbw⟩ := hrel
    by_cases hlt : t < 16
    · have HP : Hid (BytesAt wr B (some ⟨b, off + 4 * t, none⟩) ((bs.drop (4 * t)).take 4)) := hideIt (bytes_part (hb.out.keep fun p hp => hbw.cell (by omega)) (4 * t) 4)
      have HL : Hid (((bs.drop (4 * t)).take 4).length = 4) := hideIt (by simp; omega)
      have HX : Hid (getN ((bs.drop (4 * t)).take 4) = wAt bs t) := hideIt (wAt_lo bs t hlt).symm
      have hx := wAt_lt bs t
      have HN := hideIt (range_next (wAt bs) t)
      generalize (bs.drop (4 * t)).take 4 = b4 at *
      generalize wAt bs t = x at *
      replace ho := hideIt ho
      replace hbw := hideIt hbw
      generalize hi : 4 * t = i at *
      have hi64 : i < 64 := by omega
      have h4 : i + 4 - i = 4 := by omega
      have HO2 := hideIt (own_stay ho.out (below_one (Below.refl _ wr) (.cells #[.int .u32 (x : Int)] 46)))
      have HS2 : Hid (w.heap.size ≤ (wr.alloc (.cells #[.int .u32 (x : Int)] 46)).heap.size) := hideIt (Nat.le_trans hbw.out.size (by rw [alloc_size]; omega))
      have HC2 : Hid ((wr.alloc (.cells #[.int .u32 (x : Int)] 46)).cell? ⟨wr.heap.size, 0, none⟩ = some (.int .u32 (x : Int))) := hideIt (by rw [cell_of_row _ _ _ _ _ _ (heap_alloc_new wr _)]; rfl)
      go_wp2_with fail
      refine (refget_any _ b4 4 (c - i) B wr HP.out HL.out (by omega) (by omega) (by omega)).mono ?_
      rintro e w' ⟨rfl, rfl⟩
      rw [HX.out]
      go_wp2_with (at_builtin; refine wpList_appW rfl (.tmp 12) (.tmp 20) rfl w.heap.size _ t ((List.range t).map (wAt bs)) rfl (by exact HO2.out) wr.heap.size x rfl (by exact HC2.out) (by omega) (by exact HS2.out) ?_; intro v2 w2 o2 g2)
      go_roundw
      case rel => exact ⟨t + 1, by omega, by rw [show 4 * (t + 1) = i + 4 by omega]; go_num, HN.out ▸ o2, below_own (below_one hbw.out _) HS2.out HO2.out g2⟩
      case measure => simp [intOf]; omega
    · have E16 : Hid (t = 16) := hideIt (by omega)
      generalize hi : 4 * t = i at *
      have hi64 : ¬ (i : Int) < 64 := by omega
      clear hi
      replace ho := hideIt ho
      replace hbw := hideIt hbw
      go_wp2_with fail
      go_loopw [3, 5] (fun v i wr => ∃ (t : Nat) (A : Option Addr) (c : Nat), 16 ≤ t ∧ t ≤ 64 ∧ i = .int .i64 (t : Int) ∧ v = .slice A t c ∧ wr.ownsRow w.heap.size 46 1 v t (wcells ((List.range t).map (wAt bs))) ∧ Below w.heap.size w wr) (fun _ i _ => 64 - (intOf i).toNat)
      case atStart =>
        have ho' := ho.out
        rw [E16.out] at ho'
        obtain ⟨A2, c2, hv⟩ := ownW_open ho'
        exact ⟨16, A2, c2, by omega, by omega, rfl, hv, ho', hbw.out⟩
      case round =>
        clear ho hbw
        obtain ⟨t, A2, c2, ht1, ht, rfl, rfl, ho, hbw⟩ := hrel
        by_cases hlt : t < 64
        · obtain ⟨g, rfl, hg1, hg2, hc1, hc2, hxl, hcell⟩ := ownW_cell ho (by omega)
          obtain ⟨n, rfl⟩ : ∃ n, t = n + 16 := ⟨t - 16, by omega⟩
          have cAt : ∀ j, j < n + 16 → wr.cell? ⟨g, j, none⟩ = some (.int .u32 (wAt bs j : Nat)) := fun j hj => by
            rw [hcell j (by rw [hxl]; exact hj)]; simp
          have c2' := cAt (n + 14) (by omega)
          have c7 := cAt (n + 9) (by omega)
          have c15 := cAt (n + 1) (by omega)
          have c16 := cAt n (by omega)
          have l2 := wAt_lt bs (n + 14)
          have l15 := wAt_lt bs (n + 1)
          have HX : IntKind.u32.wrap (IntKind.u32.wrap (IntKind.u32.wrap ((sp1 (wAt bs (n + 14)) : Nat) + (wAt bs (n + 9) : Nat)) + (sp0 (wAt bs (n + 1)) : Nat)) + (wAt bs n : Nat)) = ((wAt bs (n + 16) : Nat) : Int) := by
            rw [wAt_hi bs (n + 16) ht1]
            simp only [IntKind.wrap_u32, show n + 16 - 2 = n + 14 by omega, show n + 16 - 7 = n + 9 by omega, show n + 16 - 15 = n + 1 by omega, show n + 16 - 16 = n by omega]
            omega
          have S0 : bits BinOp.xor IntKind.u32 (bits BinOp.xor IntKind.u32 ((rotR (wAt bs (n + 1)) 7 : Nat) : Int) ((rotR (wAt bs (n + 1)) 18 : Nat) : Int)) ((wAt bs (n + 1) : Int) / 8) = ((sp0 (wAt bs (n + 1)) : Nat) : Int) := by
            have e3 : ((wAt bs (n + 1) : Nat) : Int) / (8 : Int) = ((wAt bs (n + 1) >>> 3 : Nat) : Int) := by rw [Nat.shiftRight_eq_div_pow]; omega
            have h3 : wAt bs (n + 1) >>> 3 < 4294967296 := by rw [Nat.shiftRight_eq_div_pow]; omega
            rw [e3, u32_xor_nat _ _ (rotR_lt _ 7 l15) (rotR_lt _ 18 l15), u32_xor_nat _ _ (xor_lt32 (rotR_lt _ 7 l15) (rotR_lt _ 18 l15)) h3]; rfl
          have S1 : bits BinOp.xor IntKind.u32 (bits BinOp.xor IntKind.u32 ((rotR (wAt bs (n + 14)) 17 : Nat) : Int) ((rotR (wAt bs (n + 14)) 19 : Nat) : Int)) ((wAt bs (n + 14) : Int) / 1024) = ((sp1 (wAt bs (n + 14)) : Nat) : Int) := by
            have e3 : ((wAt bs (n + 14) : Nat) : Int) / (1024 : Int) = ((wAt bs (n + 14) >>> 10 : Nat) : Int) := by rw [Nat.shiftRight_eq_div_pow]; omega
            have h3 : wAt bs (n + 14) >>> 10 < 4294967296 := by rw [Nat.shiftRight_eq_div_pow]; omega
            rw [e3, u32_xor_nat _ _ (rotR_lt _ 17 l2) (rotR_lt _ 19 l2), u32_xor_nat _ _ (xor_lt32 (rotR_lt _ 17 l2) (rotR_lt _ 19 l2)) h3]; rfl
          have HN := hideIt (range_next (wAt bs) (n + 16))
          clear cAt hcell
          replace ho := hideIt ho
          replace hbw := hideIt hbw
          generalize hl0 : (List.range (n + 16)).map (wAt bs) = l0 at *
          replace hl0 := hideIt hl0
          generalize wAt bs (n + 16) = x at *
          generalize wAt bs (n + 14) = x2 at *
          generalize wAt bs (n + 9) = x7 at *
          generalize wAt bs (n + 1) = x15 at *
          generalize wAt bs n = x16 at *
          generalize e2 : n + 14 = n2 at *
          generalize e7 : n + 9 = n7 at *
          generalize e15 : n + 1 = n15 at *
          generalize et : n + 16 = t at *
          have b2 : (n2 : Int) < (t : Int) := by omega
          have b7 : (n7 : Int) < (t : Int) := by omega
          have b15 : (n15 : Int) < (t : Int) := by omega
          have b16 : (n : Int) < (t : Int) := by omega
          have q2 : IntKind.i64.wrap ((t : Int) - 2) = (n2 : Int) := wrap_is (by omega) (by omega) (by omega)
          have q7 : IntKind.i64.wrap ((t : Int) - 7) = (n7 : Int) := wrap_is (by omega) (by omega) (by omega)
          have q15 : IntKind.i64.wrap ((t : Int) - 15) = (n15 : Int) := wrap_is (by omega) (by omega) (by omega)
          have q16 : IntKind.i64.wrap ((t : Int) - 16) = (n : Int) := wrap_is (by omega) (by omega) (by omega)
          have bt : (t : Int) < 64 := by omega
          clear e2 e7 e15 et
          go_wp2_with fail
          refine wp_region_still_lit (by kernel_rfl) (by kernel_rfl) ?_
          repeat still_step
          still_call (still_of (refrot_any x15 7 _ l15 (by omega) (by omega)))
          repeat still_step
          still_call (still_of (refrot_any x15 18 _ l15 (by omega) (by omega)))
          repeat still_step
          refine wpStill_nil ?_
          show Exit.then _ _ _ _ (World.drew wr)
          have c2wa : (World.drew wr).cell? ⟨g, n2, none⟩ = some (.int .u32 (x2 : Int)) := c2'
          have c7wa : (World.drew wr).cell? ⟨g, n7, none⟩ = some (.int .u32 (x7 : Int)) := c7
          have c16wa : (World.drew wr).cell? ⟨g, n, none⟩ = some (.int .u32 (x16 : Int)) := c16
          have howa : Hid ((World.drew wr).ownsRow w.heap.size 46 1 (.slice (some ⟨g, 0, none⟩) t c2) t (wcells l0)) := hideIt ho.out
          have hbwa := hideIt hbw.out.drew
          clear c2' c7 c16
          generalize World.drew wr = wa at *
          go_wp2_with fail
          refine wp_region_still_lit (by kernel_rfl) (by kernel_rfl) ?_
          repeat still_step
          still_call (still_of (refrot_any x2 17 _ l2 (by omega) (by omega)))
          repeat still_step
          still_call (still_of (refrot_any x2 19 _ l2 (by omega) (by omega)))
          repeat still_step
          refine wpStill_nil ?_
          show Exit.then _ _ _ _ (World.drew wa)
          have c2wb : (World.drew wa).cell? ⟨g, n2, none⟩ = some (.int .u32 (x2 : Int)) := c2wa
          have c7wb : (World.drew wa).cell? ⟨g, n7, none⟩ = some (.int .u32 (x7 : Int)) := c7wa
          have c16wb : (World.drew wa).cell? ⟨g, n, none⟩ = some (.int .u32 (x16 : Int)) := c16wa
          have howb : Hid ((World.drew wa).ownsRow w.heap.size 46 1 (.slice (some ⟨g, 0, none⟩) t c2) t (wcells l0)) := hideIt howa.out
          have hbwb := hideIt hbwa.out.drew
          clear c2wa c7wa c16wa
          generalize World.drew wa = wb at *
          go_wp2_with fail
          have HO2 := hideIt (own_stay (w := wb.drew) howb.out (below_one (Below.refl _ wb.drew) (.cells #[.int .u32 (x : Int)] 46)))
          have HS2 : Hid (w.heap.size ≤ (wb.drew.alloc (.cells #[.int .u32 (x : Int)] 46)).heap.size) := hideIt (Nat.le_trans hbwb.out.size (by rw [alloc_size]; exact Nat.le_succ _))
          have HC2 : Hid ((wb.drew.alloc (.cells #[.int .u32 (x : Int)] 46)).cell? ⟨wb.heap.size, 0, none⟩ = some (.int .u32 (x : Int))) := hideIt ((cell_of_row _ _ _ _ _ _ (heap_alloc_new wb.drew _)).trans rfl)
          go_region_law (refine step_appW (by simp [Region.wanted]) (.tmp 66) (.tmp 82) rfl w.heap.size (.slice (some ⟨g, 0, none⟩) t c2) t l0 (by simp [Act.eval, Act.put]) (by exact HO2.out) wb.heap.size x (by simp [Act.eval, Act.put]) (by exact HC2.out) (by omega) (by exact HS2.out) ?_; intro v2 w2 o2 g2)
          all_goals
            obtain ⟨A3, c3, rfl⟩ := ownW_open o2
            go_wp2_with fail
            go_roundw
            case rel => exact ⟨t + 1, A3, c3, by omega, by omega, by go_num, rfl, HN.out ▸ o2, below_own (below_one hbwb.out.drew _) HS2.out HO2.out g2⟩
            case measure => simp [intOf]; omega
        · obtain rfl : t = 64 := by omega
          go_wp2_with fail
          go_ret
          exact ⟨_, rfl, ho, hbw⟩
end Go.Proofs.YtflbdjlmkmmahaaDoor
