/- The reference's Append: its steps told plainly, what it answers when it may not. -/
import Derived.Test.YthpbhfepiekchaaRefDFacts
import Derived.Test.YthpbhfepiekchaaCmp
namespace Go.Proofs.Ythpbhfepiekchaa
open Go.ChangeShapes Go.WideShapes Go.ChangeAt Go.RowKit
set_option linter.unusedVariables false
set_option linter.unusedSimpArgs false

section
variable {ops : Array Oper} {Q : Exit → Act → World → Prop} {G : Fact} {o : Oper} {a : Act} {w : World}
theorem ok_lenFl (hg : Region.wanted o (yielded ops a.tmps) = true) (x : Operand) (ho : o.op = .call { callee := .builtin .len, args := #[x], argTypes := #[35] }) (A : Option Addr) (n c : Nat) (hx : a.eval x = .slice A n c) : StepOk Try.prog ops Q (Fact.is (.int .i64 (n : Int))) o a w :=
  ok_same hg _ (by
    have hr : (Builtin.len_ #[35] o.type #[.slice A n c]).run Try.prog w = .ok (.int .i64 (n : Int)) w := by simp [Builtin.len_, run_underlying Try.underlying35]; rfl
    simp [execOp, ho, resolve, invoke, builtin, hx, hr]) rfl
end
theorem run_add47 (p q : Nat) (hp : p ≤ 1000000000) (hq : q ≤ 140737488355328) (w : World) : (binOp .add 3 (.int .i64 (p : Int)) (.int .i64 (q : Int))).run Try.prog w = .ok (.int .i64 ((p + q : Nat) : Int)) w := by
  have h2 : IntKind.i64.wrap ((p : Int) + (q : Int)) = (p : Int) + (q : Int) := IntWalk.i64_in _ (by omega)
  go_simp
theorem run_lt64 (x y : Int) (b : Bool) (h : decide (x < y) = b) (w : World) : (binOp .lss 3 (.int .i64 x) (.int .i64 y)).run Try.prog w = .ok (.bool b) w := by
  subst h; go_simp
theorem TL.call_find1 {w : World} {N : Nat → Prop} {A : Option Addr} {n c rm : Nat} {fu : Bool} {left : Int} {dd : Bool} {D : DiskP} (h : TL w N A n c rm fu left dd D) (ho : OkP D) (s : List UInt8) :
    ∃ iv : Int, decide (iv < 0) = (findP D.files s).isNone ∧ ∀ u, Below w.heap.size w u → Calls Try.prog 46 #[tV (.slice A n c) rm fu left dd, .string (strOf s)] u fun e w' => e = .returned (.int .i64 iv) ∧ Below u.heap.size u w' := by
  rcases h.call_find ho s with ⟨hf, hc⟩ | ⟨j, r, hf, _, _, _, _, hc⟩
  · exact ⟨-1, by rw [hf]; rfl, hc⟩
  · exact ⟨(j : Int), by rw [hf]; exact decide_eq_false (by omega), hc⟩
/-- the disk when so many bytes have been taken -/
def burntP (D : DiskP) (k : Nat) (d : Bool) : DiskP := ⟨D.files, D.room, burnP D k, d⟩
theorem burnt_zero {D : DiskP} (h : D.dead = false) : burntP D 0 false = D := by
  unfold burntP burnP
  rw [← h]
  cases D with
  | mk f r u d => cases u <;> simp
theorem burnt_step {D : DiskP} {n i : Nat} (h : i < doneP D n) : canP (burntP D i false) = true ∧ (stepP (burntP D i false)).1 = burntP D (i + 1) false := by
  have hc : canP (burntP D i false) = true := by
    unfold canP burntP burnP
    unfold doneP at h
    cases hu : D.fuse with
    | none => simp
    | some k => rw [hu] at h; simp only at h; simp; omega
  refine ⟨hc, ?_⟩
  rw [step_can hc]
  unfold doesP burntP burnP
  cases hu : D.fuse with
  | none => rfl
  | some k => simp [Nat.sub_sub]
theorem burnt_stop {D : DiskP} {n i : Nat} (hi : i = doneP D n) (hn : i < n) : canP (burntP D i false) = false ∧ (stepP (burntP D i false)).1 = burntP D i true := by
  have hc : canP (burntP D i false) = false := by
    unfold canP burntP burnP
    unfold doneP at hi
    cases hu : D.fuse with
    | none => rw [hu] at hi; simp only at hi; omega
    | some k => rw [hu] at hi; simp only at hi; simp; omega
  refine ⟨hc, ?_⟩
  rw [step_cannot hc]
  rfl
theorem burnt_grown {D : DiskP} {s b : List UInt8} {f : FileP} (hf : fileP D.files s = f) (k : Nat) (hk : k = doneP D b.length) (d : Bool) (hd : d = decide (doneP D b.length < b.length)) : grownP D s b = (burntP D k d).withFiles (putP (burntP D k d).files ⟨s, f.b ++ b.take k, f.lasts⟩) := by
  subst hk hd
  unfold grownP
  rw [hf]
  rfl
set_option maxRecDepth 100000 in
set_option maxHeartbeats 8000000 in
theorem rappend_not {w : World} {N : Nat → Prop} {v : Value} {D : DiskP} (h : TIs w N v D) (ho : OkP D) (s : List UInt8) (hs : s.length ≤ 4611686018427387904) (bA : Option Addr) (bc bn : Nat) (hbn : bn ≤ 140737488355328) (R : DiskP × Bool) (hR : R = (D, false)) (hm : ¬ (nameP s ∧ usedP D.files + bn ≤ D.room ∧ ((findP D.files s).isSome = true ∨ D.files.length < 8) ∧ D.dead = false)) : Calls Try.prog 35 #[v, .string (strOf s), .slice bA bn bc] w (TTwo w N R) := by
  obtain ⟨A, n, c, rm, fu, left, dd, rfl, hl⟩ := h.letters
  obtain ⟨hX, hZ, hB, hS⟩ := two_blocks w (.slice A n c) (.int .i64 (rm : Int)) (.bool fu) (.int .i64 left) (.bool dd)
  unfold zeroD at hX hZ hB hS
  have HR := hideIt hR
  have HX := hideIt hX
  have HZ := hideIt hZ
  have HB := hideIt hB
  have HS := hideIt hS
  have hT := hl.own hB (w.heap.size + 2)
  have HT := hideIt hT
  have HO := hideIt ho
  obtain ⟨iv, hiv, hc⟩ := hl.call_find1 ho s
  have HC := hideIt hc
  have HM := hideIt (fun u => rname_any s u hs)
  have hn := hl.fits.2.2.1
  have hrm := hl.fits.2.2.2.1
  have hdd := hl.fits.2.2.2.2.2.1
  have hus : usedP D.files ≤ 1000000000 := by have := ho.used; have := ho.room; omega
  have HUS := hideIt hus
  have HBN := hideIt hbn
  obtain ⟨ng, hng⟩ : ∃ ng, decide (iv < 0) = ng := ⟨_, rfl⟩
  have HNG := hideIt hng
  rw [hng] at hiv
  rw [← hn, ← hrm, ← hdd] at hm
  obtain ⟨full, hfu⟩ : ∃ full, decide (((rm : Nat) : Int) < ((usedP D.files + bn : Nat) : Int)) = full := ⟨_, rfl⟩
  have HFU := hideIt hfu
  obtain ⟨n8, hn8⟩ : ∃ n8, decide ((8 : Int) ≤ (n : Int)) = n8 := ⟨_, rfl⟩
  have HN8 := hideIt hn8
  obtain ⟨nm, hnm⟩ : ∃ nm, decide (nameP s) = nm := ⟨_, rfl⟩
  rw [hnm] at HM
  have hcase : nm = false ∨ nm = true ∧ full = true ∨ nm = true ∧ full = false ∧ ng = true ∧ n8 = true ∨ nm = true ∧ full = false ∧ ng = true ∧ n8 = false ∧ dd = true ∨ nm = true ∧ full = false ∧ ng = false ∧ dd = true := by
    cases nm with
    | false => exact Or.inl rfl
    | true =>
      have h1 := of_decide_eq_true hnm
      cases full with
      | true => exact Or.inr (Or.inl ⟨rfl, rfl⟩)
      | false =>
        have h2 := of_decide_eq_false hfu
        have h2' : usedP D.files + bn ≤ rm := by omega
        cases ng with
        | true =>
          have h3 : (findP D.files s).isSome = false := by
            cases hq : findP D.files s with
            | none => rfl
            | some f => rw [hq] at hiv; cases hiv
          cases n8 with
          | true => exact Or.inr (Or.inr (Or.inl ⟨rfl, rfl, rfl, rfl⟩))
          | false =>
            have h4 := of_decide_eq_false hn8
            cases dd with
            | true => exact Or.inr (Or.inr (Or.inr (Or.inl ⟨rfl, rfl, rfl, rfl, rfl⟩)))
            | false => exact absurd ⟨h1, h2', Or.inr (by omega), rfl⟩ hm
        | false =>
          have h3 : (findP D.files s).isSome = true := by
            cases hq : findP D.files s with
            | none => rw [hq] at hiv; cases hiv
            | some f => rfl
          cases dd with
          | true => exact Or.inr (Or.inr (Or.inr (Or.inr ⟨rfl, rfl, rfl, rfl⟩)))
          | false => exact absurd ⟨h1, h2', Or.inl h3, rfl⟩ hm
  have HCASE := hideIt hcase
  clear hcase hX hZ hB hS h hl ho hT hc hR hiv hng hn hrm hdd hus hbn hfu hn8 hnm hm hs
  unfold tV tC
  go_enter Try.func35, Try.ntmps35
  go_upto_region 1 with fail
  generalize (w.alloc (.cells #[.slice A n c, .int .i64 (rm : Int), .bool fu, .int .i64 left, .bool dd] 37)).alloc (.cells #[.slice none 0 0, .int .i64 0, .bool false, .int .i64 0, .bool false] 37) = X at *
  obtain ⟨q0, q1, q2, q3, q4, e0, e1, e2, e3, e4, ql⟩ := HX.out.all
  have HC1 := hideIt (HC.out X HB.out)
  clear HC
  go_wp2_with fail
  refine HC1.out.mono ?_
  rintro e w1 ⟨rfl, hb1⟩
  have HX1 := hideIt (HX.out.keep (hb1.block w.heap.size (by have := HS.out; omega)))
  have HZ1 := hideIt (HZ.out.keep (hb1.block (w.heap.size + 1) (by have := HS.out; omega)))
  have HB1 := hideIt (HB.out.trans (hb1.mono (by have := HS.out; omega)))
  have HT1 := hideIt (HT.out.keep hb1)
  have HU := hideIt (show ∀ u, Below w1.heap.size w1 u → _ from fun u hu => (HT1.out.keep hu).call_used HO.out)
  have HS1 : Hid (w.heap.size + 2 ≤ w1.heap.size) := hideIt (by have := HS.out; have := hb1.size; omega)
  have HLX := hideIt HX1.out.lt
  have HW := hideIt (Below.refl w1.heap.size w1)
  clear q0 q1 q2 q3 q4 e0 e1 e2 e3 e4 ql hb1
  obtain ⟨s0, s1, s2, s3, s4, t0, t1, t2, t3, t4, tl⟩ := HX1.out.all
  go_upto_region 2 with fail
  have hcase := HCASE.out
  clear HCASE
  rcases hcase with rfl | ⟨rfl, rfl⟩ | ⟨rfl, rfl, rfl, rfl⟩ | ⟨rfl, rfl, rfl, rfl, rfl⟩ | ⟨rfl, rfl, rfl, rfl⟩
  ·
    refine region_inv [Fact.str (s), Fact.is (.bool false), Fact.is (.bool true), Fact.is (.bool true), Fact.is (undef), Fact.is (undef), Fact.is (undef), Fact.is (undef), Fact.is (undef), Fact.is (undef), Fact.is (undef), Fact.is (undef), Fact.is (.bool true), Fact.is (.bool true), Fact.is (undef), Fact.is (undef), Fact.is (undef), Fact.is (undef), Fact.is (undef), Fact.is (undef), Fact.is (undef), Fact.is (undef), Fact.is (.bool true), Fact.is (.bool true), Fact.is (undef), Fact.is (undef), Fact.is (.bool true)] (by kernel_rfl) (by kernel_rfl) ⟨fun a w1 m => ?_, fun a w1 m => ?_, fun a w1 m => ?_, fun a w1 m => ?_, fun a w1 m => ?_, fun a w1 m => ?_, fun a w1 m => ?_, fun a w1 m => ?_, fun a w1 m => ?_, fun a w1 m => ?_, fun a w1 m => ?_, fun a w1 m => ?_, fun a w1 m => ?_, fun a w1 m => ?_, fun a w1 m => ?_, fun a w1 m => ?_, fun a w1 m => ?_, fun a w1 m => ?_, fun a w1 m => ?_, fun a w1 m => ?_, fun a w1 m => ?_, fun a w1 m => ?_, fun a w1 m => ?_, fun a w1 m => ?_, fun a w1 m => ?_, fun a w1 m => ?_, fun a w1 m => ?_, trivial⟩ ?_
    · exact ok_move (wanted_none rfl) (.tmp 1) rfl (m.old 1 rfl)
    · exact ok_fn (wanted_none rfl) _ _ _ rfl _ (map1 (m.has 0 18 rfl rfl)) go_rname (HM.out w1) (fun e w' ⟨h1, h2⟩ => ⟨_, h1, rfl, by rw [h2]; exact Below.refl _ _⟩)
    · exact ok_not1 (wanted_none rfl) _ (.tmp 19) rfl false (m.has 1 19 rfl rfl) rfl
    · exact ok_move (wanted_none rfl) (.tmp 20) rfl (m.has 2 20 rfl rfl)
    · exact ok_not (wanted_some 3 false rfl 21 rfl true (m.has 3 21 rfl rfl)) rfl
    · exact ok_not (wanted_some 3 false rfl 21 rfl true (m.has 3 21 rfl rfl)) rfl
    · exact ok_not (wanted_some 3 false rfl 21 rfl true (m.has 3 21 rfl rfl)) rfl
    · exact ok_not (wanted_some 3 false rfl 21 rfl true (m.has 3 21 rfl rfl)) rfl
    · exact ok_not (wanted_some 3 false rfl 21 rfl true (m.has 3 21 rfl rfl)) rfl
    · exact ok_not (wanted_some 3 false rfl 21 rfl true (m.has 3 21 rfl rfl)) rfl
    · exact ok_not (wanted_some 3 false rfl 21 rfl true (m.has 3 21 rfl rfl)) rfl
    · exact ok_not (wanted_some 3 false rfl 21 rfl true (m.has 3 21 rfl rfl)) rfl
    · exact ok_pickT (wanted_none rfl) (.tmp 21) _ _ rfl (m.has 3 21 rfl rfl) (rfl)
    · exact ok_move (wanted_none rfl) (.tmp 30) rfl (m.has 12 30 rfl rfl)
    · exact ok_not (wanted_some 13 false rfl 31 rfl true (m.has 13 31 rfl rfl)) rfl
    · exact ok_not (wanted_some 13 false rfl 31 rfl true (m.has 13 31 rfl rfl)) rfl
    · exact ok_not (wanted_some 13 false rfl 31 rfl true (m.has 13 31 rfl rfl)) rfl
    · exact ok_not (wanted_undef 16 true rfl 34 rfl (m.has 16 34 rfl rfl)) rfl
    · exact ok_not (wanted_undef 16 true rfl 34 rfl (m.has 16 34 rfl rfl)) rfl
    · exact ok_not (wanted_undef 16 true rfl 34 rfl (m.has 16 34 rfl rfl)) rfl
    · exact ok_not (wanted_undef 16 true rfl 34 rfl (m.has 16 34 rfl rfl)) rfl
    · exact ok_not (wanted_some 13 false rfl 31 rfl true (m.has 13 31 rfl rfl)) rfl
    · exact ok_pickT (wanted_none rfl) (.tmp 31) _ _ rfl (m.has 13 31 rfl rfl) (rfl)
    · exact ok_move (wanted_none rfl) (.tmp 40) rfl (m.has 22 40 rfl rfl)
    · exact ok_not (wanted_some 23 false rfl 41 rfl true (m.has 23 41 rfl rfl)) rfl
    · exact ok_not (wanted_some 23 false rfl 41 rfl true (m.has 23 41 rfl rfl)) rfl
    · exact ok_pickT (wanted_none rfl) (.tmp 41) _ _ rfl (m.has 23 41 rfl rfl) (rfl)
    intro f w9 hg hf
    have e26 : f 26 = .bool true := hf 26 (by decide)
    have B9 := hideIt (below_then HW.out hg)
    clear hf
    simp only [List.take, List.drop, putAll, Act.put, List.setIfInBounds_toArray, List.set_cons_succ, List.set_cons_zero]
    rw [e26]
    clear e26
    have HZ9 := HZ1.out.keep (B9.out.block (w.heap.size + 1) (by have := HS1.out; omega))
    have HX9 := HX1.out.keep (B9.out.block w.heap.size (by have := HS1.out; omega))
    have hB9 := HB1.out.trans (B9.out.mono (by have := HS1.out; omega))
    have HT9 := hideIt (HT1.out.keep B9.out)
    clear s0 s1 s2 s3 s4 t0 t1 t2 t3 t4 tl
    obtain ⟨p0, p1, p2, p3, p4, d0, d1, d2, d3, d4, pl⟩ := HX9.all
    obtain ⟨z0, z1, z2, z3, z4, y0, y1, y2, y3, y4, _⟩ := HZ9.all
    have ZS := hideIt (HZ9.set5 (.slice A n c) (.int .i64 (rm : Int)) (.bool fu) (.int .i64 left) (.bool dd))
    have BS := hideIt (below_set5 hB9 (by omega : w.heap.size ≤ w.heap.size + 1) (.slice A n c) (.int .i64 (rm : Int)) (.bool fu) (.int .i64 left) (.bool dd))
    clear HX9 HZ9 hB9 hg
    go_wp2_with fail
    refine bodyPost_ret (results_D2 Try.results35 _ _ (w.heap.size + 1) _ _ _ _ _ _ rfl rfl (by exact ZS.out)) rfl ?_
    exact two_is (HT9.out.ends (w.heap.size + 1) (by omega) _ _ _ _ _) BS.out HR.out
  ·
    refine region_inv [Fact.str (s), Fact.is (.bool true), Fact.is (.bool false), Fact.is (.bool false), Fact.is (.agg #[.slice A n c, .int .i64 (rm : Int), .bool fu, .int .i64 left, .bool dd]), Fact.is (.int .i64 ((usedP D.files : Nat) : Int)), Fact.is (.slice bA bn bc), Fact.is (.int .i64 ((bn : Nat) : Int)), Fact.is (.int .i64 ((usedP D.files + bn : Nat) : Int)), Fact.is (.pointer (some ⟨w.heap.size, 1, none⟩)), Fact.is (.int .i64 (rm : Int)), Fact.is (.bool true), Fact.is (.bool true), Fact.is (.bool true), Fact.is (undef), Fact.is (undef), Fact.is (undef), Fact.is (undef), Fact.is (undef), Fact.is (undef), Fact.is (undef), Fact.is (undef), Fact.is (.bool true), Fact.is (.bool true), Fact.is (undef), Fact.is (undef), Fact.is (.bool true)] (by kernel_rfl) (by kernel_rfl) ⟨fun a w1 m => ?_, fun a w1 m => ?_, fun a w1 m => ?_, fun a w1 m => ?_, fun a w1 m => ?_, fun a w1 m => ?_, fun a w1 m => ?_, fun a w1 m => ?_, fun a w1 m => ?_, fun a w1 m => ?_, fun a w1 m => ?_, fun a w1 m => ?_, fun a w1 m => ?_, fun a w1 m => ?_, fun a w1 m => ?_, fun a w1 m => ?_, fun a w1 m => ?_, fun a w1 m => ?_, fun a w1 m => ?_, fun a w1 m => ?_, fun a w1 m => ?_, fun a w1 m => ?_, fun a w1 m => ?_, fun a w1 m => ?_, fun a w1 m => ?_, fun a w1 m => ?_, fun a w1 m => ?_, trivial⟩ ?_
    · exact ok_move (wanted_none rfl) (.tmp 1) rfl (m.old 1 rfl)
    · exact ok_fn (wanted_none rfl) _ _ _ rfl _ (map1 (m.has 0 18 rfl rfl)) go_rname (HM.out w1) (fun e w' ⟨h1, h2⟩ => ⟨_, h1, rfl, by rw [h2]; exact Below.refl _ _⟩)
    · exact ok_not1 (wanted_none rfl) _ (.tmp 19) rfl true (m.has 1 19 rfl rfl) rfl
    · exact ok_move (wanted_none rfl) (.tmp 20) rfl (m.has 2 20 rfl rfl)
    · exact ok_loadTT (wanted_some 3 false rfl 21 rfl false (m.has 3 21 rfl rfl)) (.tmp 3) rfl (w.heap.size) _ _ _ _ _ (m.old 3 rfl) (HX1.out.keep (m.grew.block _ HLX.out))
    · exact ok_fn (wanted_some 3 false rfl 21 rfl false (m.has 3 21 rfl rfl)) _ _ _ rfl _ (map1 (m.has 4 22 rfl rfl)) go_rused (HU.out w1 m.grew) (fun e w' ⟨h1, h2⟩ => ⟨_, h1, rfl, h2⟩)
    · exact ok_move (wanted_some 3 false rfl 21 rfl false (m.has 3 21 rfl rfl)) (.tmp 2) rfl (m.old 2 rfl)
    · exact ok_len (wanted_some 3 false rfl 21 rfl false (m.has 3 21 rfl rfl)) (.tmp 24) rfl _ _ _ (m.has 6 24 rfl rfl)
    · exact ok_bin (wanted_some 3 false rfl 21 rfl false (m.has 3 21 rfl rfl)) _ _ _ (.tmp 23) (.tmp 25) rfl _ _ _ (m.has 5 23 rfl rfl) (m.has 7 25 rfl rfl) rfl (run_add47 _ _ HUS.out HBN.out)
    · exact ok_fieldTT (wanted_some 3 false rfl 21 rfl false (m.has 3 21 rfl rfl)) (.tmp 3) 1 (by decide) rfl (w.heap.size) (m.old 3 rfl)
    · exact ok_ldI (wanted_some 3 false rfl 21 rfl false (m.has 3 21 rfl rfl)) (.tmp 27) rfl ⟨w.heap.size, 1, none⟩ _ (m.has 9 27 rfl rfl) ((m.grew.cell (p := ⟨w.heap.size, 1, none⟩) HLX.out).trans s1)
    · exact ok_bin (wanted_some 3 false rfl 21 rfl false (m.has 3 21 rfl rfl)) _ _ _ (.tmp 26) (.tmp 28) rfl _ _ _ (m.has 8 26 rfl rfl) (m.has 10 28 rfl rfl) rfl (run_gt64 _ _ _ HFU.out)
    · exact ok_pickF (wanted_none rfl) (.tmp 21) _ _ rfl (m.has 3 21 rfl rfl) (m.has 11 29 rfl rfl)
    · exact ok_move (wanted_none rfl) (.tmp 30) rfl (m.has 12 30 rfl rfl)
    · exact ok_not (wanted_some 13 false rfl 31 rfl true (m.has 13 31 rfl rfl)) rfl
    · exact ok_not (wanted_some 13 false rfl 31 rfl true (m.has 13 31 rfl rfl)) rfl
    · exact ok_not (wanted_some 13 false rfl 31 rfl true (m.has 13 31 rfl rfl)) rfl
    · exact ok_not (wanted_undef 16 true rfl 34 rfl (m.has 16 34 rfl rfl)) rfl
    · exact ok_not (wanted_undef 16 true rfl 34 rfl (m.has 16 34 rfl rfl)) rfl
    · exact ok_not (wanted_undef 16 true rfl 34 rfl (m.has 16 34 rfl rfl)) rfl
    · exact ok_not (wanted_undef 16 true rfl 34 rfl (m.has 16 34 rfl rfl)) rfl
    · exact ok_not (wanted_some 13 false rfl 31 rfl true (m.has 13 31 rfl rfl)) rfl
    · exact ok_pickT (wanted_none rfl) (.tmp 31) _ _ rfl (m.has 13 31 rfl rfl) (rfl)
    · exact ok_move (wanted_none rfl) (.tmp 40) rfl (m.has 22 40 rfl rfl)
    · exact ok_not (wanted_some 23 false rfl 41 rfl true (m.has 23 41 rfl rfl)) rfl
    · exact ok_not (wanted_some 23 false rfl 41 rfl true (m.has 23 41 rfl rfl)) rfl
    · exact ok_pickT (wanted_none rfl) (.tmp 41) _ _ rfl (m.has 23 41 rfl rfl) (rfl)
    intro f w9 hg hf
    have e26 : f 26 = .bool true := hf 26 (by decide)
    have B9 := hideIt (below_then HW.out hg)
    clear hf
    simp only [List.take, List.drop, putAll, Act.put, List.setIfInBounds_toArray, List.set_cons_succ, List.set_cons_zero]
    rw [e26]
    clear e26
    have HZ9 := HZ1.out.keep (B9.out.block (w.heap.size + 1) (by have := HS1.out; omega))
    have HX9 := HX1.out.keep (B9.out.block w.heap.size (by have := HS1.out; omega))
    have hB9 := HB1.out.trans (B9.out.mono (by have := HS1.out; omega))
    have HT9 := hideIt (HT1.out.keep B9.out)
    clear s0 s1 s2 s3 s4 t0 t1 t2 t3 t4 tl
    obtain ⟨p0, p1, p2, p3, p4, d0, d1, d2, d3, d4, pl⟩ := HX9.all
    obtain ⟨z0, z1, z2, z3, z4, y0, y1, y2, y3, y4, _⟩ := HZ9.all
    have ZS := hideIt (HZ9.set5 (.slice A n c) (.int .i64 (rm : Int)) (.bool fu) (.int .i64 left) (.bool dd))
    have BS := hideIt (below_set5 hB9 (by omega : w.heap.size ≤ w.heap.size + 1) (.slice A n c) (.int .i64 (rm : Int)) (.bool fu) (.int .i64 left) (.bool dd))
    clear HX9 HZ9 hB9 hg
    go_wp2_with fail
    refine bodyPost_ret (results_D2 Try.results35 _ _ (w.heap.size + 1) _ _ _ _ _ _ rfl rfl (by exact ZS.out)) rfl ?_
    exact two_is (HT9.out.ends (w.heap.size + 1) (by omega) _ _ _ _ _) BS.out HR.out
  ·
    refine region_inv [Fact.str (s), Fact.is (.bool true), Fact.is (.bool false), Fact.is (.bool false), Fact.is (.agg #[.slice A n c, .int .i64 (rm : Int), .bool fu, .int .i64 left, .bool dd]), Fact.is (.int .i64 ((usedP D.files : Nat) : Int)), Fact.is (.slice bA bn bc), Fact.is (.int .i64 ((bn : Nat) : Int)), Fact.is (.int .i64 ((usedP D.files + bn : Nat) : Int)), Fact.is (.pointer (some ⟨w.heap.size, 1, none⟩)), Fact.is (.int .i64 (rm : Int)), Fact.is (.bool false), Fact.is (.bool false), Fact.is (.bool false), Fact.is (.int .i64 (iv)), Fact.is (.bool true), Fact.is (.bool true), Fact.is (.pointer (some ⟨w.heap.size, 0, none⟩)), Fact.is (.slice A n c), Fact.is (.int .i64 (n : Int)), Fact.is (.bool true), Fact.is (.bool true), Fact.is (.bool true), Fact.is (.bool true), Fact.is (undef), Fact.is (undef), Fact.is (.bool true)] (by kernel_rfl) (by kernel_rfl) ⟨fun a w1 m => ?_, fun a w1 m => ?_, fun a w1 m => ?_, fun a w1 m => ?_, fun a w1 m => ?_, fun a w1 m => ?_, fun a w1 m => ?_, fun a w1 m => ?_, fun a w1 m => ?_, fun a w1 m => ?_, fun a w1 m => ?_, fun a w1 m => ?_, fun a w1 m => ?_, fun a w1 m => ?_, fun a w1 m => ?_, fun a w1 m => ?_, fun a w1 m => ?_, fun a w1 m => ?_, fun a w1 m => ?_, fun a w1 m => ?_, fun a w1 m => ?_, fun a w1 m => ?_, fun a w1 m => ?_, fun a w1 m => ?_, fun a w1 m => ?_, fun a w1 m => ?_, fun a w1 m => ?_, trivial⟩ ?_
    · exact ok_move (wanted_none rfl) (.tmp 1) rfl (m.old 1 rfl)
    · exact ok_fn (wanted_none rfl) _ _ _ rfl _ (map1 (m.has 0 18 rfl rfl)) go_rname (HM.out w1) (fun e w' ⟨h1, h2⟩ => ⟨_, h1, rfl, by rw [h2]; exact Below.refl _ _⟩)
    · exact ok_not1 (wanted_none rfl) _ (.tmp 19) rfl true (m.has 1 19 rfl rfl) rfl
    · exact ok_move (wanted_none rfl) (.tmp 20) rfl (m.has 2 20 rfl rfl)
    · exact ok_loadTT (wanted_some 3 false rfl 21 rfl false (m.has 3 21 rfl rfl)) (.tmp 3) rfl (w.heap.size) _ _ _ _ _ (m.old 3 rfl) (HX1.out.keep (m.grew.block _ HLX.out))
    · exact ok_fn (wanted_some 3 false rfl 21 rfl false (m.has 3 21 rfl rfl)) _ _ _ rfl _ (map1 (m.has 4 22 rfl rfl)) go_rused (HU.out w1 m.grew) (fun e w' ⟨h1, h2⟩ => ⟨_, h1, rfl, h2⟩)
    · exact ok_move (wanted_some 3 false rfl 21 rfl false (m.has 3 21 rfl rfl)) (.tmp 2) rfl (m.old 2 rfl)
    · exact ok_len (wanted_some 3 false rfl 21 rfl false (m.has 3 21 rfl rfl)) (.tmp 24) rfl _ _ _ (m.has 6 24 rfl rfl)
    · exact ok_bin (wanted_some 3 false rfl 21 rfl false (m.has 3 21 rfl rfl)) _ _ _ (.tmp 23) (.tmp 25) rfl _ _ _ (m.has 5 23 rfl rfl) (m.has 7 25 rfl rfl) rfl (run_add47 _ _ HUS.out HBN.out)
    · exact ok_fieldTT (wanted_some 3 false rfl 21 rfl false (m.has 3 21 rfl rfl)) (.tmp 3) 1 (by decide) rfl (w.heap.size) (m.old 3 rfl)
    · exact ok_ldI (wanted_some 3 false rfl 21 rfl false (m.has 3 21 rfl rfl)) (.tmp 27) rfl ⟨w.heap.size, 1, none⟩ _ (m.has 9 27 rfl rfl) ((m.grew.cell (p := ⟨w.heap.size, 1, none⟩) HLX.out).trans s1)
    · exact ok_bin (wanted_some 3 false rfl 21 rfl false (m.has 3 21 rfl rfl)) _ _ _ (.tmp 26) (.tmp 28) rfl _ _ _ (m.has 8 26 rfl rfl) (m.has 10 28 rfl rfl) rfl (run_gt64 _ _ _ HFU.out)
    · exact ok_pickF (wanted_none rfl) (.tmp 21) _ _ rfl (m.has 3 21 rfl rfl) (m.has 11 29 rfl rfl)
    · exact ok_move (wanted_none rfl) (.tmp 30) rfl (m.has 12 30 rfl rfl)
    · exact ok_move (wanted_some 13 false rfl 31 rfl false (m.has 13 31 rfl rfl)) (.tmp 8) rfl (m.old 8 rfl)
    · exact ok_bin (wanted_some 13 false rfl 31 rfl false (m.has 13 31 rfl rfl)) _ _ _ (.tmp 32) _ rfl _ _ _ (m.has 14 32 rfl rfl) (rfl) rfl (run_lt64 _ _ _ HNG.out)
    · exact ok_move (wanted_some 13 false rfl 31 rfl false (m.has 13 31 rfl rfl)) (.tmp 33) rfl (m.has 15 33 rfl rfl)
    · exact ok_fieldTT (wanted_some 16 true rfl 34 rfl true (m.has 16 34 rfl rfl)) (.tmp 3) 0 (by decide) rfl (w.heap.size) (m.old 3 rfl)
    · exact ok_ldFs (wanted_some 16 true rfl 34 rfl true (m.has 16 34 rfl rfl)) (.tmp 35) rfl ⟨w.heap.size, 0, none⟩ _ (m.has 17 35 rfl rfl) ((m.grew.cell (p := ⟨w.heap.size, 0, none⟩) HLX.out).trans s0)
    · exact ok_lenFl (wanted_some 16 true rfl 34 rfl true (m.has 16 34 rfl rfl)) (.tmp 36) rfl _ _ _ (m.has 18 36 rfl rfl)
    · exact ok_bin (wanted_some 16 true rfl 34 rfl true (m.has 16 34 rfl rfl)) _ _ _ (.tmp 37) _ rfl _ _ _ (m.has 19 37 rfl rfl) (rfl) rfl (run_ge64 _ _ _ HN8.out)
    · exact ok_pickT (wanted_some 13 false rfl 31 rfl false (m.has 13 31 rfl rfl)) (.tmp 34) _ _ rfl (m.has 16 34 rfl rfl) (m.has 20 38 rfl rfl)
    · exact ok_pickF (wanted_none rfl) (.tmp 31) _ _ rfl (m.has 13 31 rfl rfl) (m.has 21 39 rfl rfl)
    · exact ok_move (wanted_none rfl) (.tmp 40) rfl (m.has 22 40 rfl rfl)
    · exact ok_not (wanted_some 23 false rfl 41 rfl true (m.has 23 41 rfl rfl)) rfl
    · exact ok_not (wanted_some 23 false rfl 41 rfl true (m.has 23 41 rfl rfl)) rfl
    · exact ok_pickT (wanted_none rfl) (.tmp 41) _ _ rfl (m.has 23 41 rfl rfl) (rfl)
    intro f w9 hg hf
    have e26 : f 26 = .bool true := hf 26 (by decide)
    have B9 := hideIt (below_then HW.out hg)
    clear hf
    simp only [List.take, List.drop, putAll, Act.put, List.setIfInBounds_toArray, List.set_cons_succ, List.set_cons_zero]
    rw [e26]
    clear e26
    have HZ9 := HZ1.out.keep (B9.out.block (w.heap.size + 1) (by have := HS1.out; omega))
    have HX9 := HX1.out.keep (B9.out.block w.heap.size (by have := HS1.out; omega))
    have hB9 := HB1.out.trans (B9.out.mono (by have := HS1.out; omega))
    have HT9 := hideIt (HT1.out.keep B9.out)
    clear s0 s1 s2 s3 s4 t0 t1 t2 t3 t4 tl
    obtain ⟨p0, p1, p2, p3, p4, d0, d1, d2, d3, d4, pl⟩ := HX9.all
    obtain ⟨z0, z1, z2, z3, z4, y0, y1, y2, y3, y4, _⟩ := HZ9.all
    have ZS := hideIt (HZ9.set5 (.slice A n c) (.int .i64 (rm : Int)) (.bool fu) (.int .i64 left) (.bool dd))
    have BS := hideIt (below_set5 hB9 (by omega : w.heap.size ≤ w.heap.size + 1) (.slice A n c) (.int .i64 (rm : Int)) (.bool fu) (.int .i64 left) (.bool dd))
    clear HX9 HZ9 hB9 hg
    go_wp2_with fail
    refine bodyPost_ret (results_D2 Try.results35 _ _ (w.heap.size + 1) _ _ _ _ _ _ rfl rfl (by exact ZS.out)) rfl ?_
    exact two_is (HT9.out.ends (w.heap.size + 1) (by omega) _ _ _ _ _) BS.out HR.out
  ·
    refine region_inv [Fact.str (s), Fact.is (.bool true), Fact.is (.bool false), Fact.is (.bool false), Fact.is (.agg #[.slice A n c, .int .i64 (rm : Int), .bool fu, .int .i64 left, .bool true]), Fact.is (.int .i64 ((usedP D.files : Nat) : Int)), Fact.is (.slice bA bn bc), Fact.is (.int .i64 ((bn : Nat) : Int)), Fact.is (.int .i64 ((usedP D.files + bn : Nat) : Int)), Fact.is (.pointer (some ⟨w.heap.size, 1, none⟩)), Fact.is (.int .i64 (rm : Int)), Fact.is (.bool false), Fact.is (.bool false), Fact.is (.bool false), Fact.is (.int .i64 (iv)), Fact.is (.bool true), Fact.is (.bool true), Fact.is (.pointer (some ⟨w.heap.size, 0, none⟩)), Fact.is (.slice A n c), Fact.is (.int .i64 (n : Int)), Fact.is (.bool false), Fact.is (.bool false), Fact.is (.bool false), Fact.is (.bool false), Fact.is (.pointer (some ⟨w.heap.size, 4, none⟩)), Fact.is (.bool true), Fact.is (.bool true)] (by kernel_rfl) (by kernel_rfl) ⟨fun a w1 m => ?_, fun a w1 m => ?_, fun a w1 m => ?_, fun a w1 m => ?_, fun a w1 m => ?_, fun a w1 m => ?_, fun a w1 m => ?_, fun a w1 m => ?_, fun a w1 m => ?_, fun a w1 m => ?_, fun a w1 m => ?_, fun a w1 m => ?_, fun a w1 m => ?_, fun a w1 m => ?_, fun a w1 m => ?_, fun a w1 m => ?_, fun a w1 m => ?_, fun a w1 m => ?_, fun a w1 m => ?_, fun a w1 m => ?_, fun a w1 m => ?_, fun a w1 m => ?_, fun a w1 m => ?_, fun a w1 m => ?_, fun a w1 m => ?_, fun a w1 m => ?_, fun a w1 m => ?_, trivial⟩ ?_
    · exact ok_move (wanted_none rfl) (.tmp 1) rfl (m.old 1 rfl)
    · exact ok_fn (wanted_none rfl) _ _ _ rfl _ (map1 (m.has 0 18 rfl rfl)) go_rname (HM.out w1) (fun e w' ⟨h1, h2⟩ => ⟨_, h1, rfl, by rw [h2]; exact Below.refl _ _⟩)
    · exact ok_not1 (wanted_none rfl) _ (.tmp 19) rfl true (m.has 1 19 rfl rfl) rfl
    · exact ok_move (wanted_none rfl) (.tmp 20) rfl (m.has 2 20 rfl rfl)
    · exact ok_loadTT (wanted_some 3 false rfl 21 rfl false (m.has 3 21 rfl rfl)) (.tmp 3) rfl (w.heap.size) _ _ _ _ _ (m.old 3 rfl) (HX1.out.keep (m.grew.block _ HLX.out))
    · exact ok_fn (wanted_some 3 false rfl 21 rfl false (m.has 3 21 rfl rfl)) _ _ _ rfl _ (map1 (m.has 4 22 rfl rfl)) go_rused (HU.out w1 m.grew) (fun e w' ⟨h1, h2⟩ => ⟨_, h1, rfl, h2⟩)
    · exact ok_move (wanted_some 3 false rfl 21 rfl false (m.has 3 21 rfl rfl)) (.tmp 2) rfl (m.old 2 rfl)
    · exact ok_len (wanted_some 3 false rfl 21 rfl false (m.has 3 21 rfl rfl)) (.tmp 24) rfl _ _ _ (m.has 6 24 rfl rfl)
    · exact ok_bin (wanted_some 3 false rfl 21 rfl false (m.has 3 21 rfl rfl)) _ _ _ (.tmp 23) (.tmp 25) rfl _ _ _ (m.has 5 23 rfl rfl) (m.has 7 25 rfl rfl) rfl (run_add47 _ _ HUS.out HBN.out)
    · exact ok_fieldTT (wanted_some 3 false rfl 21 rfl false (m.has 3 21 rfl rfl)) (.tmp 3) 1 (by decide) rfl (w.heap.size) (m.old 3 rfl)
    · exact ok_ldI (wanted_some 3 false rfl 21 rfl false (m.has 3 21 rfl rfl)) (.tmp 27) rfl ⟨w.heap.size, 1, none⟩ _ (m.has 9 27 rfl rfl) ((m.grew.cell (p := ⟨w.heap.size, 1, none⟩) HLX.out).trans s1)
    · exact ok_bin (wanted_some 3 false rfl 21 rfl false (m.has 3 21 rfl rfl)) _ _ _ (.tmp 26) (.tmp 28) rfl _ _ _ (m.has 8 26 rfl rfl) (m.has 10 28 rfl rfl) rfl (run_gt64 _ _ _ HFU.out)
    · exact ok_pickF (wanted_none rfl) (.tmp 21) _ _ rfl (m.has 3 21 rfl rfl) (m.has 11 29 rfl rfl)
    · exact ok_move (wanted_none rfl) (.tmp 30) rfl (m.has 12 30 rfl rfl)
    · exact ok_move (wanted_some 13 false rfl 31 rfl false (m.has 13 31 rfl rfl)) (.tmp 8) rfl (m.old 8 rfl)
    · exact ok_bin (wanted_some 13 false rfl 31 rfl false (m.has 13 31 rfl rfl)) _ _ _ (.tmp 32) _ rfl _ _ _ (m.has 14 32 rfl rfl) (rfl) rfl (run_lt64 _ _ _ HNG.out)
    · exact ok_move (wanted_some 13 false rfl 31 rfl false (m.has 13 31 rfl rfl)) (.tmp 33) rfl (m.has 15 33 rfl rfl)
    · exact ok_fieldTT (wanted_some 16 true rfl 34 rfl true (m.has 16 34 rfl rfl)) (.tmp 3) 0 (by decide) rfl (w.heap.size) (m.old 3 rfl)
    · exact ok_ldFs (wanted_some 16 true rfl 34 rfl true (m.has 16 34 rfl rfl)) (.tmp 35) rfl ⟨w.heap.size, 0, none⟩ _ (m.has 17 35 rfl rfl) ((m.grew.cell (p := ⟨w.heap.size, 0, none⟩) HLX.out).trans s0)
    · exact ok_lenFl (wanted_some 16 true rfl 34 rfl true (m.has 16 34 rfl rfl)) (.tmp 36) rfl _ _ _ (m.has 18 36 rfl rfl)
    · exact ok_bin (wanted_some 16 true rfl 34 rfl true (m.has 16 34 rfl rfl)) _ _ _ (.tmp 37) _ rfl _ _ _ (m.has 19 37 rfl rfl) (rfl) rfl (run_ge64 _ _ _ HN8.out)
    · exact ok_pickT (wanted_some 13 false rfl 31 rfl false (m.has 13 31 rfl rfl)) (.tmp 34) _ _ rfl (m.has 16 34 rfl rfl) (m.has 20 38 rfl rfl)
    · exact ok_pickF (wanted_none rfl) (.tmp 31) _ _ rfl (m.has 13 31 rfl rfl) (m.has 21 39 rfl rfl)
    · exact ok_move (wanted_none rfl) (.tmp 40) rfl (m.has 22 40 rfl rfl)
    · exact ok_fieldTT (wanted_some 23 false rfl 41 rfl false (m.has 23 41 rfl rfl)) (.tmp 3) 4 (by decide) rfl (w.heap.size) (m.old 3 rfl)
    · exact ok_ldO (wanted_some 23 false rfl 41 rfl false (m.has 23 41 rfl rfl)) (.tmp 42) rfl ⟨w.heap.size, 4, none⟩ _ (m.has 24 42 rfl rfl) ((m.grew.cell (p := ⟨w.heap.size, 4, none⟩) HLX.out).trans s4)
    · exact ok_pickF (wanted_none rfl) (.tmp 41) _ _ rfl (m.has 23 41 rfl rfl) (m.has 25 43 rfl rfl)
    intro f w9 hg hf
    have e26 : f 26 = .bool true := hf 26 (by decide)
    have B9 := hideIt (below_then HW.out hg)
    clear hf
    simp only [List.take, List.drop, putAll, Act.put, List.setIfInBounds_toArray, List.set_cons_succ, List.set_cons_zero]
    rw [e26]
    clear e26
    have HZ9 := HZ1.out.keep (B9.out.block (w.heap.size + 1) (by have := HS1.out; omega))
    have HX9 := HX1.out.keep (B9.out.block w.heap.size (by have := HS1.out; omega))
    have hB9 := HB1.out.trans (B9.out.mono (by have := HS1.out; omega))
    have HT9 := hideIt (HT1.out.keep B9.out)
    clear s0 s1 s2 s3 s4 t0 t1 t2 t3 t4 tl
    obtain ⟨p0, p1, p2, p3, p4, d0, d1, d2, d3, d4, pl⟩ := HX9.all
    obtain ⟨z0, z1, z2, z3, z4, y0, y1, y2, y3, y4, _⟩ := HZ9.all
    have ZS := hideIt (HZ9.set5 (.slice A n c) (.int .i64 (rm : Int)) (.bool fu) (.int .i64 left) (.bool true))
    have BS := hideIt (below_set5 hB9 (by omega : w.heap.size ≤ w.heap.size + 1) (.slice A n c) (.int .i64 (rm : Int)) (.bool fu) (.int .i64 left) (.bool true))
    clear HX9 HZ9 hB9 hg
    go_wp2_with fail
    refine bodyPost_ret (results_D2 Try.results35 _ _ (w.heap.size + 1) _ _ _ _ _ _ rfl rfl (by exact ZS.out)) rfl ?_
    exact two_is (HT9.out.ends (w.heap.size + 1) (by omega) _ _ _ _ _) BS.out HR.out
  ·
    refine region_inv [Fact.str (s), Fact.is (.bool true), Fact.is (.bool false), Fact.is (.bool false), Fact.is (.agg #[.slice A n c, .int .i64 (rm : Int), .bool fu, .int .i64 left, .bool true]), Fact.is (.int .i64 ((usedP D.files : Nat) : Int)), Fact.is (.slice bA bn bc), Fact.is (.int .i64 ((bn : Nat) : Int)), Fact.is (.int .i64 ((usedP D.files + bn : Nat) : Int)), Fact.is (.pointer (some ⟨w.heap.size, 1, none⟩)), Fact.is (.int .i64 (rm : Int)), Fact.is (.bool false), Fact.is (.bool false), Fact.is (.bool false), Fact.is (.int .i64 (iv)), Fact.is (.bool false), Fact.is (.bool false), Fact.is (undef), Fact.is (undef), Fact.is (undef), Fact.is (undef), Fact.is (.bool false), Fact.is (.bool false), Fact.is (.bool false), Fact.is (.pointer (some ⟨w.heap.size, 4, none⟩)), Fact.is (.bool true), Fact.is (.bool true)] (by kernel_rfl) (by kernel_rfl) ⟨fun a w1 m => ?_, fun a w1 m => ?_, fun a w1 m => ?_, fun a w1 m => ?_, fun a w1 m => ?_, fun a w1 m => ?_, fun a w1 m => ?_, fun a w1 m => ?_, fun a w1 m => ?_, fun a w1 m => ?_, fun a w1 m => ?_, fun a w1 m => ?_, fun a w1 m => ?_, fun a w1 m => ?_, fun a w1 m => ?_, fun a w1 m => ?_, fun a w1 m => ?_, fun a w1 m => ?_, fun a w1 m => ?_, fun a w1 m => ?_, fun a w1 m => ?_, fun a w1 m => ?_, fun a w1 m => ?_, fun a w1 m => ?_, fun a w1 m => ?_, fun a w1 m => ?_, fun a w1 m => ?_, trivial⟩ ?_
    · exact ok_move (wanted_none rfl) (.tmp 1) rfl (m.old 1 rfl)
    · exact ok_fn (wanted_none rfl) _ _ _ rfl _ (map1 (m.has 0 18 rfl rfl)) go_rname (HM.out w1) (fun e w' ⟨h1, h2⟩ => ⟨_, h1, rfl, by rw [h2]; exact Below.refl _ _⟩)
    · exact ok_not1 (wanted_none rfl) _ (.tmp 19) rfl true (m.has 1 19 rfl rfl) rfl
    · exact ok_move (wanted_none rfl) (.tmp 20) rfl (m.has 2 20 rfl rfl)
    · exact ok_loadTT (wanted_some 3 false rfl 21 rfl false (m.has 3 21 rfl rfl)) (.tmp 3) rfl (w.heap.size) _ _ _ _ _ (m.old 3 rfl) (HX1.out.keep (m.grew.block _ HLX.out))
    · exact ok_fn (wanted_some 3 false rfl 21 rfl false (m.has 3 21 rfl rfl)) _ _ _ rfl _ (map1 (m.has 4 22 rfl rfl)) go_rused (HU.out w1 m.grew) (fun e w' ⟨h1, h2⟩ => ⟨_, h1, rfl, h2⟩)
    · exact ok_move (wanted_some 3 false rfl 21 rfl false (m.has 3 21 rfl rfl)) (.tmp 2) rfl (m.old 2 rfl)
    · exact ok_len (wanted_some 3 false rfl 21 rfl false (m.has 3 21 rfl rfl)) (.tmp 24) rfl _ _ _ (m.has 6 24 rfl rfl)
    · exact ok_bin (wanted_some 3 false rfl 21 rfl false (m.has 3 21 rfl rfl)) _ _ _ (.tmp 23) (.tmp 25) rfl _ _ _ (m.has 5 23 rfl rfl) (m.has 7 25 rfl rfl) rfl (run_add47 _ _ HUS.out HBN.out)
    · exact ok_fieldTT (wanted_some 3 false rfl 21 rfl false (m.has 3 21 rfl rfl)) (.tmp 3) 1 (by decide) rfl (w.heap.size) (m.old 3 rfl)
    · exact ok_ldI (wanted_some 3 false rfl 21 rfl false (m.has 3 21 rfl rfl)) (.tmp 27) rfl ⟨w.heap.size, 1, none⟩ _ (m.has 9 27 rfl rfl) ((m.grew.cell (p := ⟨w.heap.size, 1, none⟩) HLX.out).trans s1)
    · exact ok_bin (wanted_some 3 false rfl 21 rfl false (m.has 3 21 rfl rfl)) _ _ _ (.tmp 26) (.tmp 28) rfl _ _ _ (m.has 8 26 rfl rfl) (m.has 10 28 rfl rfl) rfl (run_gt64 _ _ _ HFU.out)
    · exact ok_pickF (wanted_none rfl) (.tmp 21) _ _ rfl (m.has 3 21 rfl rfl) (m.has 11 29 rfl rfl)
    · exact ok_move (wanted_none rfl) (.tmp 30) rfl (m.has 12 30 rfl rfl)
    · exact ok_move (wanted_some 13 false rfl 31 rfl false (m.has 13 31 rfl rfl)) (.tmp 8) rfl (m.old 8 rfl)
    · exact ok_bin (wanted_some 13 false rfl 31 rfl false (m.has 13 31 rfl rfl)) _ _ _ (.tmp 32) _ rfl _ _ _ (m.has 14 32 rfl rfl) (rfl) rfl (run_lt64 _ _ _ HNG.out)
    · exact ok_move (wanted_some 13 false rfl 31 rfl false (m.has 13 31 rfl rfl)) (.tmp 33) rfl (m.has 15 33 rfl rfl)
    · exact ok_not (wanted_some 16 true rfl 34 rfl false (m.has 16 34 rfl rfl)) rfl
    · exact ok_not (wanted_some 16 true rfl 34 rfl false (m.has 16 34 rfl rfl)) rfl
    · exact ok_not (wanted_some 16 true rfl 34 rfl false (m.has 16 34 rfl rfl)) rfl
    · exact ok_not (wanted_some 16 true rfl 34 rfl false (m.has 16 34 rfl rfl)) rfl
    · exact ok_pickF (wanted_some 13 false rfl 31 rfl false (m.has 13 31 rfl rfl)) (.tmp 34) _ _ rfl (m.has 16 34 rfl rfl) (rfl)
    · exact ok_pickF (wanted_none rfl) (.tmp 31) _ _ rfl (m.has 13 31 rfl rfl) (m.has 21 39 rfl rfl)
    · exact ok_move (wanted_none rfl) (.tmp 40) rfl (m.has 22 40 rfl rfl)
    · exact ok_fieldTT (wanted_some 23 false rfl 41 rfl false (m.has 23 41 rfl rfl)) (.tmp 3) 4 (by decide) rfl (w.heap.size) (m.old 3 rfl)
    · exact ok_ldO (wanted_some 23 false rfl 41 rfl false (m.has 23 41 rfl rfl)) (.tmp 42) rfl ⟨w.heap.size, 4, none⟩ _ (m.has 24 42 rfl rfl) ((m.grew.cell (p := ⟨w.heap.size, 4, none⟩) HLX.out).trans s4)
    · exact ok_pickF (wanted_none rfl) (.tmp 41) _ _ rfl (m.has 23 41 rfl rfl) (m.has 25 43 rfl rfl)
    intro f w9 hg hf
    have e26 : f 26 = .bool true := hf 26 (by decide)
    have B9 := hideIt (below_then HW.out hg)
    clear hf
    simp only [List.take, List.drop, putAll, Act.put, List.setIfInBounds_toArray, List.set_cons_succ, List.set_cons_zero]
    rw [e26]
    clear e26
    have HZ9 := HZ1.out.keep (B9.out.block (w.heap.size + 1) (by have := HS1.out; omega))
    have HX9 := HX1.out.keep (B9.out.block w.heap.size (by have := HS1.out; omega))
    have hB9 := HB1.out.trans (B9.out.mono (by have := HS1.out; omega))
    have HT9 := hideIt (HT1.out.keep B9.out)
    clear s0 s1 s2 s3 s4 t0 t1 t2 t3 t4 tl
    obtain ⟨p0, p1, p2, p3, p4, d0, d1, d2, d3, d4, pl⟩ := HX9.all
    obtain ⟨z0, z1, z2, z3, z4, y0, y1, y2, y3, y4, _⟩ := HZ9.all
    have ZS := hideIt (HZ9.set5 (.slice A n c) (.int .i64 (rm : Int)) (.bool fu) (.int .i64 left) (.bool true))
    have BS := hideIt (below_set5 hB9 (by omega : w.heap.size ≤ w.heap.size + 1) (.slice A n c) (.int .i64 (rm : Int)) (.bool fu) (.int .i64 left) (.bool true))
    clear HX9 HZ9 hB9 hg
    go_wp2_with fail
    refine bodyPost_ret (results_D2 Try.results35 _ _ (w.heap.size + 1) _ _ _ _ _ _ rfl rfl (by exact ZS.out)) rfl ?_
    exact two_is (HT9.out.ends (w.heap.size + 1) (by omega) _ _ _ _ _) BS.out HR.out
end Go.Proofs.Ythpbhfepiekchaa
