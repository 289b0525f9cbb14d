/- The contract of the reference's Split. -/
import Derived.Test.YtccppgiigkmdbaaDoorFillCut0
import Derived.Test.YtccppgiigkmdbaaDoorFillPrint
import Derived.Test.YtccppgiigkmdbaaDoorStrRun
import Derived.Test.YtccppgiigkmdbaaDoorCmp
import Derived.Deep.Cut
import Derived.Handy
namespace Go.Proofs.YtccppgiigkmdbaaDoor
open Go.ChangeShapes Go.WideShapes Go.ChangeAt Go.RowKit
set_option linter.unusedVariables false
set_option linter.unusedSimpArgs false

def strC (p : List UInt8) : Value := .string (strOf p)
/-- a row of texts of the call's own -/
def SOwn (base : Nat) (v : Value) (ps : List (List UInt8)) (w : World) : Prop := w.ownsRow base 9 1 v ps.length (ps.map strC)
theorem SOwn.nil (base : Nat) (w : World) : SOwn base (.slice none 0 0) [] w := ⟨rfl, Or.inl ⟨rfl, rfl⟩⟩
theorem SOwn.keep {base : Nat} {v : Value} {ps : List (List UInt8)} {w w' : World} (h : SOwn base v ps w) (hb : Below w.heap.size w w') : SOwn base v ps w' := by
  refine ⟨h.1, ?_⟩
  have hlt := World.ownsRow.lt h
  rcases h.2 with h0 | ⟨g, cap, cur, rfl, h1, h2, h3⟩
  · exact Or.inl h0
  · exact Or.inr ⟨g, cap, cur, rfl, h1, (hb.block g (hlt g rfl).2).trans h2, h3⟩
/-- texts that can be read -/
def StrsAt (w : World) (A : Option Addr) (ps : List (List UInt8)) : Prop :=
  0 < ps.length → ∃ b, A = some ⟨b, 0, none⟩ ∧ b < w.heap.size ∧ ∀ j p, ps[j]? = some p → w.cell? ⟨b, j, none⟩ = some (.string (strOf p))
theorem StrsAt.keep {w w' : World} {A : Option Addr} {ps : List (List UInt8)} (h : StrsAt w A ps) (hb : Below w.heap.size w w') : StrsAt w' A ps := fun hn => by
  obtain ⟨b, e, hlt, hc⟩ := h hn
  exact ⟨b, e, Nat.lt_of_lt_of_le hlt hb.size, fun j p hj => (hb.cell (p := ⟨b, j, none⟩) hlt).trans (hc j p hj)⟩
theorem SOwn.open {base : Nat} {v : Value} {ps : List (List UInt8)} {w : World} (h : SOwn base v ps w) : ∃ A c, v = .slice A ps.length c ∧ ps.length ≤ c ∧ c ≤ 9223372036854775807 ∧ StrsAt w A ps := by
  rcases h.2 with ⟨rfl, h0⟩ | ⟨g, cap, cur, rfl, hb, hg, hnc, hcm, _⟩
  · exact ⟨none, 0, by rw [h0], by omega, by omega, fun hh => by omega⟩
  · refine ⟨_, cap, rfl, hnc, by unfold maxLen at hcm; omega, fun hn => ⟨g, rfl, (World.ownsRow.lt h g rfl).2, fun j p hj => ?_⟩⟩
    have hjl : j < ps.length := (List.getElem?_eq_some_iff.1 hj).1
    rw [World.ownsRow.cellAt h j (by omega), List.getElem?_map, hj]; rfl
theorem info_string : (Tryd.prog.info? 9).map (fun i => (i.zero, i.size, i.bytes)) = some (some (.string ⟨#[]⟩), 1, 16) := by kernel_rfl
/-- append of one text, that lies in a new block -/
theorem wpList_appT1 {X : World} {ops : Array Oper} {rest : List Oper} {o : Oper} {a : Act} {Q : Exit → Act → World → Prop} (hgd : o.guard = none) (s x : Operand)
    (ho : o.op = .call { callee := .builtin .append, args := #[s, x], argTypes := #[51, 51] })
    (base : Nat) (v : Value) (ps : List (List UInt8)) (y : List UInt8) (hs : a.eval s = v) (hown : SOwn base v ps X) (hx : a.eval x = .slice (some ⟨X.heap.size, 0, none⟩) 1 1)
    (hlen : ps.length ≤ 200000) (hbase : base ≤ X.heap.size)
    (h : ∀ v' w', SOwn base v' (ps ++ [y]) w' → (∀ k, k ≤ base → Below k X w') → wpList Tryd.prog ops Q rest (a.put o.dst v') w') : wpList Tryd.prog ops Q (o :: rest) a (X.alloc (.cells #[.string (strOf y)] 9)) := by
  obtain ⟨i0, hi, hz0, hz1, hz2⟩ := info_parts info_string
  refine wpList_append_own _ hgd s x 51 ho base 9 i0 (.string ⟨#[]⟩) 1 16 Tryd.underlying51 hi hz0 hz1 hz2 rfl (by decide) v ps.length _ hs (World.ownsRow.alloc hown _) ⟨X.heap.size, 0, none⟩ 1 1 [.string (strOf y)] hx rfl ?_ (by intro u hu; simp at hu; subst hu; rfl) (by unfold maxLen; omega) (by omega) (by rw [alloc_size]; omega) ?_
  · intro j u hu
    obtain ⟨rfl, rfl⟩ : j = 0 ∧ u = .string (strOf y) := by
      cases j with
      | zero => simp at hu; exact ⟨rfl, hu.symm⟩
      | succ j => simp at hu
    rw [Go.WideShapes.add_plain, cell_of_row _ _ _ _ _ _ (heap_alloc_new X _)]; rfl
  · intro v' w' h1 h2 _
    refine h v' w' ?_ fun k hk => ?_
    · unfold SOwn
      rw [List.map_append, List.length_append]
      exact h1
    · exact ((below_new X _).mono (by omega)).grown h2 (by rw [alloc_size]; omega) (fun j hj => by have := (World.ownsRow.lt hown j hj).1; omega)
/-- how Split stands -/
def SpSt (l : List UInt8) (sp : UInt8) (k fr : Nat) (ps : List (List UInt8)) : Prop :=
  (k ≤ l.length ∧ fr ≤ k ∧ (∀ j, fr ≤ j → j < k → l.getD j 0 ≠ sp) ∧ splitL sp l = ps ++ splitL sp (l.drop fr)) ∨ (k = l.length + 1 ∧ splitL sp l = ps)
theorem drop_getD (l : List UInt8) (a j : Nat) : (l.drop a).getD j 0 = l.getD (a + j) 0 := by simp [List.getD, List.getElem?_drop]
theorem cut_free {l : List UInt8} {sp : UInt8} {k fr : Nat} (hk : k ≤ l.length) (hf : fr ≤ k) (h : ∀ j, fr ≤ j → j < k → l.getD j 0 ≠ sp) : sp ∉ (l.drop fr).take (k - fr) :=
  notmem_of (by rw [List.length_drop]; omega) fun j hj => by rw [drop_getD]; exact h _ (by omega) (by omega)
theorem SpSt.last {l : List UInt8} {sp : UInt8} {fr : Nat} {ps : List (List UInt8)} (h : SpSt l sp l.length fr ps) : splitL sp l = ps ++ [(l.drop fr).take (l.length - fr)] := by
  rcases h with ⟨h1, h2, h3, h4⟩ | ⟨h1, _⟩
  · have := cut_free h1 h2 h3
    have e : (l.drop fr).take (l.length - fr) = l.drop fr := List.take_of_length_le (by rw [List.length_drop]; omega)
    rw [e] at this ⊢
    rw [h4, split_none sp _ this]
  · omega
theorem SpSt.hit {l : List UInt8} {sp : UInt8} {k fr : Nat} {ps : List (List UInt8)} (h : SpSt l sp k fr ps) (hk : k < l.length) (hc : l.getD k 0 = sp) : SpSt l sp (k + 1) (k + 1) (ps ++ [(l.drop fr).take (k - fr)]) := by
  rcases h with ⟨h1, h2, h3, h4⟩ | ⟨h1, _⟩
  · have := cut_free h1 h2 h3
    refine .inl ⟨hk, Nat.le_refl _, fun j hj hj2 => by omega, ?_⟩
    have e : l.drop fr = (l.drop fr).take (k - fr) ++ sp :: l.drop (k + 1) := by
      conv => lhs; rw [← List.take_append_drop (k - fr) (l.drop fr)]
      rw [List.drop_drop, show fr + (k - fr) = k by omega, List.drop_eq_getElem_cons hk]
      have : l[k] = sp := by rw [← hc]; simp [List.getD, hk]
      rw [this]
    generalize (l.drop fr).take (k - fr) = y at *
    rw [h4, e, split_append, split_none sp _ this]
    simp
  · omega
theorem SpSt.miss {l : List UInt8} {sp : UInt8} {k fr : Nat} {ps : List (List UInt8)} (h : SpSt l sp k fr ps) (hk : k < l.length) (hc : l.getD k 0 ≠ sp) : SpSt l sp (k + 1) fr ps := by
  rcases h with ⟨h1, h2, h3, h4⟩ | ⟨h1, _⟩
  · refine .inl ⟨hk, by omega, fun j hj hj2 => ?_, h4⟩
    rcases Nat.lt_or_ge j k with hh | hh
    · exact h3 j hj hh
    · obtain rfl : j = k := by omega
      exact hc
  · omega
theorem SpSt.le {l : List UInt8} {sp : UInt8} {k fr : Nat} {ps : List (List UInt8)} (h : SpSt l sp k fr ps) (hk : k ≤ l.length) : fr ≤ k := by
  rcases h with ⟨_, h2, _⟩ | ⟨h1, _⟩
  · exact h2
  · omega
set_option maxRecDepth 8000 in
set_option maxHeartbeats 4000000 in
theorem refsplit_any (l : List UInt8) (sp : UInt8) (si : Int) (hsi : (sp.toNat : Int) = si) (w : World) (hl : l.length ≤ 100000) :
    Calls Tryd.prog 37 #[.string (strOf l), .int .u8 si] w fun e w' => ∃ v, e = .returned v ∧ SOwn w.heap.size v (splitL sp l) w' ∧ Below w.heap.size w w' := by
  have hsz := strOf_size l
  have HSI := hideIt hsi
  clear hsi
  go_enter Tryd.func37, Tryd.ntmps37
  go_wp2
  go_loopw [5, 6, 7] (fun v fv iv wr => ∃ (k fr : Nat) (ps : List (List UInt8)), k ≤ l.length + 1 ∧ iv = .int .i64 (k : Int) ∧ fv = .int .i64 (fr : Int) ∧ SOwn w.heap.size v ps wr ∧ SpSt l sp k fr ps ∧ ps.length ≤ k ∧ Below w.heap.size w wr) (fun _ _ i _ => l.length + 1 - (intOf i).toNat)
  case atStart => exact ⟨0, 0, [], by omega, rfl, rfl, SOwn.nil _ _, .inl ⟨by omega, by omega, fun j _ h => by omega, by simp⟩, by simp, Below.refl _ _⟩
  case round =>
    obtain ⟨k, fr, ps, hk, rfl, rfl, ho, hst, hpl, hb⟩ := hrel
    have HO := hideIt ho
    have HS := hideIt hst
    have HB := hideIt hb
    clear ho hst hb
    have hwk : IntKind.i64.wrap ((k : Int) + 1) = (k : Int) + 1 := IntWalk.i64_in _ (by omega)
    by_cases hle : k ≤ l.length
    · have hle' : (k : Int) ≤ (l.length : Int) := by omega
      have hfr := HS.out.le hle
      obtain ⟨y, hy⟩ : ∃ y, (l.drop fr).take (k - fr) = y := ⟨_, rfl⟩
      have hsl : ∀ w, (Instr.slice 9 (.string (strOf l)) (some (.int .i64 (fr : Int))) (some (.int .i64 (k : Int))) none).run Tryd.prog w = .ok (.string (strOf y)) w := fun w => by
        have := run_slice_str w l (some (.int .i64 (fr : Int))) (some (.int .i64 (k : Int))) .i64 .i64 fr k (.inr rfl) (.inr rfl) hfr hle
        rwa [hy] at this
      have HY := hideIt hy
      clear hy
      by_cases heq : k = l.length
      · subst heq
        have E : Hid (splitL sp l = ps ++ [y]) := hideIt (by rw [← HY.out]; exact HS.out.last)
        go_wp2_with (at_builtin; refine wpList_appT1 rfl (.tmp 25) (.tmp 30) rfl w.heap.size _ ps y rfl HO.out rfl (by omega) HB.out.size ?_)
        intro v7 w7 o7 g7
        have O7 := hideIt o7
        have B7 : Hid (Below w.heap.size w w7) := hideIt (HB.out.trans (g7 _ (Nat.le_refl _)))
        clear o7 g7
        go_wp2_with fail
        go_roundw
        case rel => exact ⟨l.length + 1, l.length + 1, ps ++ [y], by omega, by go_num, by go_num, O7.out, .inr ⟨rfl, E.out⟩, by simp; omega, B7.out⟩
        case measure => simp [intOf]
      · have hne : ((k : Int) == (l.length : Int)) = false := by rw [beq_eq_false_iff_ne]; omega
        have hlt : k < l.length := by omega
        have HLT := hideIt hlt
        obtain ⟨cc, hcc⟩ : ∃ c, l[k]? = some c := ⟨_, List.getElem?_eq_getElem hlt⟩
        have hix : ∀ w, (Instr.index 9 (.string (strOf l)) (.int .i64 (k : Int))).run Tryd.prog w = .ok (.int .u8 (cc.toNat : Int)) w := fun w => by
          obtain ⟨h1, h2⟩ := List.getElem?_eq_some_iff.1 hcc
          have := run_index_str w l .i64 k h1
          rwa [h2] at this
        have HG : Hid (l.getD k 0 = cc) := hideIt (by simp [List.getD, hcc])
        clear hcc heq
        by_cases hc : cc = sp
        · have S2 : Hid (SpSt l sp (k + 1) (k + 1) (ps ++ [y])) := hideIt (by rw [← HY.out]; exact HS.out.hit HLT.out (by rw [HG.out, hc]))
          have hq : ((cc.toNat : Int) == si) = true := by rw [hc, HSI.out]; simp
          clear hc
          generalize (cc.toNat : Int) = ci at *
          go_wp2_with (at_builtin; refine wpList_appT1 rfl (.tmp 25) (.tmp 30) rfl w.heap.size _ ps y rfl HO.out rfl (by omega) HB.out.size ?_)
          intro v7 w7 o7 g7
          have O7 := hideIt o7
          have B7 : Hid (Below w.heap.size w w7) := hideIt (HB.out.trans (g7 _ (Nat.le_refl _)))
          clear o7 g7
          go_wp2_with fail
          go_roundw
          case rel => exact ⟨k + 1, k + 1, ps ++ [y], by omega, by go_num, by go_num, O7.out, S2.out, by simp; omega, B7.out⟩
          case measure => simp [intOf]; omega
        · have S2 : Hid (SpSt l sp (k + 1) fr ps) := hideIt (HS.out.miss HLT.out (by rw [HG.out]; exact hc))
          have hq : ((cc.toNat : Int) == si) = false := by rw [beq_eq_false_iff_ne, ← HSI.out]; exact fun h => hc (UInt8.toNat_inj.1 (by omega))
          clear hc
          generalize (cc.toNat : Int) = ci at *
          go_wp2_with fail
          go_roundw
          case rel => exact ⟨k + 1, fr, ps, by omega, by go_num, rfl, HO.out, S2.out, by omega, HB.out⟩
          case measure => simp [intOf]; omega
    · obtain rfl : k = l.length + 1 := by omega
      have hle' : (l.length : Int) < ((l.length + 1 : Nat) : Int) := by omega
      have E : Hid (splitL sp l = ps) := hideIt (by
        rcases HS.out with ⟨h, _⟩ | ⟨_, h⟩
        · omega
        · exact h)
      clear hle
      generalize ((l.length + 1 : Nat) : Int) = ki at *
      go_wp2_with fail
      go_ret
      exact ⟨_, rfl, by rw [E.out]; exact HO.out, HB.out⟩
theorem go_refsplit : goFn Tryd.prog 37 = true := by kernel_rfl
end Go.Proofs.YtccppgiigkmdbaaDoor
