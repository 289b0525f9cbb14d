/- Responses in regions whose order is open. And what was RespLaw. -/
import Derived.Test.YtolikoediafkkaaDoorRespSame
import Derived.Test.YtolikoediafkkaaDoorRespFacts
import Derived.Test.YtolikoediafkkaaDoorRefRParse
import Derived.Test.YtolikoediafkkaaDoorCmp
import Derived.Deep.Cut
import Derived.Handy
namespace Go.Proofs.YtolikoediafkkaaDoor
open Go.ChangeShapes Go.WideShapes Go.ChangeAt Go.RowKit
set_option linter.unusedVariables false
set_option linter.unusedSimpArgs false

/-- a value that is a Response -/
def Fact.rsv (r : RespL) : Fact := ⟨fun v w => ∃ fv A c, v = respV r fv A c ∧ RespParts fv A c r w, fun _ _ _ ⟨fv, A, c, h1, h2⟩ hg => ⟨fv, A, c, h1, h2.keep hg⟩⟩
section
variable {ops : Array Oper} {Q : Exit → Act → World → Prop} {o : Oper} {a : Act} {w : World}
theorem ok_loadR (hg : Region.wanted o (yielded ops a.tmps) = true) (x : Operand) (ho : o.op = .load 25 x) (g : Nat) (r : RespL) (fv : Value) (A : Option Addr) (c : Nat) (h1 : a.eval x = .pointer (some ⟨g, 0, none⟩)) (hQ : RCell w g (.int .i64 r.status) fv (.slice A r.body.length c)) (hp : RespParts fv A c r w) : StepOk Tryd.prog ops Q (Fact.rsv r) o a w := by
  have hr := hQ.load
  exact ok_same hg (respV r fv A c) (by simp only [execOp, ho, h1, Instr.loadAt, Instr.sureAddr, Sem.run_bind, Sem.run_pure, Result.andThen_ok, hr]; rfl) ⟨fv, A, c, rfl, hp⟩
theorem ok_rsame (hg : Region.wanted o (yielded ops a.tmps) = true) (x y : Operand) (ts : Array TypeId) (ho : o.op = .call { callee := .value (.func 17), args := #[x, y], argTypes := ts }) (r q : RespL) (h1 : (Fact.rsv r).p (a.eval x) w) (h2 : (Fact.rsv q).p (a.eval y) w) (hl : r.fs.length ≤ 140737488355328) (b : Bool) (hb : sameR r q = b) : StepOk Tryd.prog ops Q (Fact.is (.bool b)) o a w := by
  subst hb
  obtain ⟨fv, A, c, e, hp⟩ := h1
  obtain ⟨gv, B, d, e', hq⟩ := h2
  exact ok_fn hg _ _ _ ho _ (map2 e e') go_rsame (rsame_any r q fv gv A B c d w hp hq hl) (by rintro e w' ⟨rfl, hb⟩; exact ⟨_, rfl, rfl, hb⟩)
theorem ok_refrsame (hg : Region.wanted o (yielded ops a.tmps) = true) (x y : Operand) (ts : Array TypeId) (ho : o.op = .call { callee := .value (.func 18), args := #[x, y], argTypes := ts }) (r q : RespL) (h1 : (Fact.rsv r).p (a.eval x) w) (h2 : (Fact.rsv q).p (a.eval y) w) (hl : r.fs.length ≤ 140737488355328) (b : Bool) (hb : sameR r q = b) : StepOk Tryd.prog ops Q (Fact.is (.bool b)) o a w := by
  subst hb
  obtain ⟨fv, A, c, e, hp⟩ := h1
  obtain ⟨gv, B, d, e', hq⟩ := h2
  exact ok_fn hg _ _ _ ho _ (map2 e e') go_refrsame (refrsame_any r q fv gv A B c d w hp hq hl) (by rintro e w' ⟨rfl, hb⟩; exact ⟨_, rfl, rfl, hb⟩)
end
end Go.Proofs.YtolikoediafkkaaDoor

/- wicketmanlaw10.heavy, prints, parses. -/
namespace Go.Proofs.YtolikoediafkkaaDoor
open Go.ChangeShapes Go.WideShapes Go.ChangeAt Go.RowKit
set_option linter.unusedVariables false
set_option linter.unusedSimpArgs false

def bulkR (fs : List PairL) : Nat := (fs.map fun x => 1 + x.1.length + x.2.length).sum
theorem bulkR_take (ps : List PairL) (j : Nat) (x : PairL) (h : ps[j]? = some x) : bulkR (ps.take (j + 1)) = bulkR (ps.take j) + (1 + x.1.length + x.2.length) := by
  obtain ⟨h1, h2⟩ := List.getElem?_eq_some_iff.1 h
  unfold bulkR
  rw [List.take_succ_eq_append_getElem h1, h2]
  simp
theorem bulkR_mem {ps : List PairL} {x : PairL} (h : x ∈ ps) : x.1.length + x.2.length ≤ bulkR ps := by
  induction ps with
  | nil => cases h
  | cons y l ih =>
    have e : bulkR (y :: l) = (1 + y.1.length + y.2.length) + bulkR l := by simp [bulkR]
    rw [e]
    rcases List.mem_cons.1 h with rfl | h
    · omega
    · have := ih h; omega
theorem bulkR_most (ps : List PairL) (h : ∀ x ∈ ps, x.1.length ≤ 140737488355328 ∧ x.2.length ≤ 140737488355328) : bulkR ps ≤ ps.length * 281474976710657 := by
  induction ps with
  | nil => simp [bulkR]
  | cons y l ih =>
    have e : bulkR (y :: l) = (1 + y.1.length + y.2.length) + bulkR l := by simp [bulkR]
    rw [e, List.length_cons, Nat.succ_mul]
    have h1 := h y (by simp)
    have h2 := ih fun x hx => h x (by simp [hx])
    omega
/-- what the guard of the law says: it adds up in an int, which may go round -/
def heavyR (r : RespL) : Bool := decide ((400 : Int) < IntKind.i64.wrap ((r.body.length + bulkR r.fs : Nat) : Int))
theorem heavy_few {r : RespL} (h : heavyR r = false) (h40 : r.fs.length ≤ 40) (hb : r.body.length ≤ 140737488355328) (hs : ∀ x ∈ r.fs, x.1.length ≤ 140737488355328 ∧ x.2.length ≤ 140737488355328) : ∀ p ∈ r.fs, p.1.length ≤ 400000 ∧ p.2.length ≤ 400000 := by
  have h1 := bulkR_most r.fs hs
  have h2 : r.fs.length * 281474976710657 ≤ 40 * 281474976710657 := Nat.mul_le_mul_right _ h40
  unfold heavyR at h
  rw [IntWalk.i64_in _ (by omega)] at h
  have h3 := of_decide_eq_false h
  intro p hp
  have := bulkR_mem hp
  exact ⟨by omega, by omega⟩
theorem wrap_sum (a b c : Int) (h : c = a + b) : IntKind.i64.wrap (IntKind.i64.wrap a + b) = IntKind.i64.wrap c := by
  subst h
  rw [IntKind.wrap_i64, IntKind.wrap_i64, IntKind.wrap_i64]
  omega
set_option maxRecDepth 8000 in
set_option maxHeartbeats 4000000 in
theorem heavy10_any (r : RespL) (fv : Value) (A : Option Addr) (c : Nat) (w : World) (hp : RespParts fv A c r w) (hs : ∀ x ∈ r.fs, x.1.length ≤ 140737488355328 ∧ x.2.length ≤ 140737488355328) (hm : r.fs.length ≤ 140737488355328) :
    Calls Tryd.prog 9 #[respV r fv A c] w fun e w' => e = .returned (.bool (heavyR r)) ∧ Below w.heap.size w w' := by
  obtain ⟨FA, fc, rfl, f1, f2, f3, f4⟩ := hp.fields.form
  have hqx := RCell.new w (.int .i64 r.status) (.slice FA r.fs.length fc) (.slice A r.body.length c)
  have hbx := below_new w (.cells #[.int .i64 r.status, .slice FA r.fs.length fc, .slice A r.body.length c] 25)
  have FT := hideIt (f4.keep hbx)
  have BX := hideIt hbx
  have QX := hideIt hqx
  have hbl := hp.body.long
  simp only at hbl
  have q2 := hqx.c2
  have q1 := hqx.c1
  have HSS := hideIt hs
  unfold respV heavyR
  have h0 : IntKind.i64.wrap ((r.body.length + bulkR (r.fs.take 0) : Nat) : Int) = (r.body.length : Int) := by rw [IntWalk.i64_in _ (by simp [bulkR]; omega)]; simp [bulkR]
  clear hp f1 f2 f3 f4 hqx hbx hs
  generalize hfs : r.fs = fs at *
  have HFS := hideIt hfs
  clear hfs
  generalize hnn : fs.length = nf at *
  have HNF := hideIt hnn
  clear hnn
  generalize r.body.length = nb at *
  generalize r.status = sst at *
  have H0 := hideIt h0
  obtain ⟨bo, hbo⟩ : ∃ bo, decide ((400 : Int) < IntKind.i64.wrap ((nb + bulkR fs : Nat) : Int)) = bo := ⟨_, rfl⟩
  rw [hbo]
  have HV := hideIt hbo
  clear hbo h0
  go_enter Tryd.func9, Tryd.ntmps9
  go_wp2_with fail
  generalize w.alloc (.cells #[.int .i64 sst, .slice FA nf fc, .slice A nb c] 25) = X at *
  go_loopw [3, 4] (fun t i wr => ∃ (j : Nat), j ≤ nf ∧ i = .int .i64 (j : Int) ∧ t = .int .i64 (IntKind.i64.wrap ((nb + bulkR (fs.take j) : Nat) : Int)) ∧ Below X.heap.size X wr) (fun _ i _ => nf - (intOf i).toNat)
  case atStart => exact ⟨0, by omega, rfl, by rw [H0.out], Below.refl _ _⟩
  case round =>
    obtain ⟨j, hj, rfl, rfl, hb⟩ := hrel
    have HB := hideIt hb
    have Q2 := hideIt (QX.out.keep hb QX.out.lt)
    have q1' := Q2.out.c1
    clear hb q1 q2
    by_cases hlt : j < nf
    · have hlt' : (j : Int) < (nf : Int) := by omega
      have hjn := hlt
      have hwj : IntKind.i64.wrap ((j : Int) + 1) = (j : Int) + 1 := IntWalk.i64_in _ (by omega)
      obtain ⟨x, hx⟩ : ∃ x, fs[j]? = some x := ⟨_, List.getElem?_eq_getElem (by have := HNF.out; omega)⟩
      have hbk := bulkR_take fs j x hx
      have hxx := HSS.out x (List.mem_of_getElem? hx)
      obtain ⟨p1, p2⟩ := x
      simp only at hbk hxx
      obtain ⟨b, off, rfl, lb, kb⟩ := (FT.out.keep HB.out) (by have := HNF.out; omega)
      obtain ⟨c1, c2⟩ := kb j _ hx
      rw [show off + 2 * j = off + j * 2 by omega] at c1 c2
      have HC1 := hideIt c1
      have HC2 := hideIt c2
      have HLB := hideIt lb
      have hz1 : IntKind.i64.wrap (1 + (p1.length : Int)) = 1 + (p1.length : Int) := IntWalk.i64_in _ (by omega)
      have hz2 : IntKind.i64.wrap (1 + (p1.length : Int) + (p2.length : Int)) = 1 + (p1.length : Int) + (p2.length : Int) := IntWalk.i64_in _ (by omega)
      have hz3 := wrap_sum ((nb + bulkR (fs.take j) : Nat) : Int) (1 + (p1.length : Int) + (p2.length : Int)) ((nb + bulkR (fs.take (j + 1)) : Nat) : Int) (by rw [hbk]; omega)
      obtain ⟨z, hz⟩ : ∃ z, IntKind.i64.wrap ((nb + bulkR (fs.take j) : Nat) : Int) = z := ⟨_, rfl⟩
      obtain ⟨zn, hzn⟩ : ∃ z, IntKind.i64.wrap ((nb + bulkR (fs.take (j + 1)) : Nat) : Int) = z := ⟨_, rfl⟩
      rw [hz, hzn] at hz3
      rw [hz]
      have HZN := hideIt hzn
      clear kb hx lb c1 c2 hbk hz hzn
      go_upto_region 5 with fail
      refine region_inv [Fact.is (.int .i64 z), Fact.is (.pointer (some ⟨w.heap.size, 0 + 1, none⟩)), Fact.is (.slice (some ⟨b, off, none⟩) nf fc), Fact.is (.int .i64 ((j : Nat) : Int)), Fact.is (.pointer (some ⟨b, off + j * 2, none⟩)), Fact.is (.pointer (some ⟨b, off + j * 2, none⟩)), Fact.str (p1), Fact.is (.int .i64 ((p1).length : Int)), Fact.is (.int .i64 (1 + (p1.length : Int))), Fact.is (.pointer (some ⟨w.heap.size, 0 + 1, none⟩)), Fact.is (.slice (some ⟨b, off, none⟩) nf fc), Fact.is (.int .i64 ((j : Nat) : Int)), Fact.is (.pointer (some ⟨b, off + j * 2, none⟩)), Fact.is (.pointer (some ⟨b, off + j * 2 + 1, none⟩)), Fact.str (p2), Fact.is (.int .i64 ((p2).length : Int)), Fact.is (.int .i64 (1 + (p1.length : Int) + (p2.length : Int))), Fact.is (.int .i64 zn), Fact.is (.int .i64 zn)] (by kernel_rfl) (by kernel_rfl) ⟨fun a w1 m => ?_, fun a w1 m => ?_, fun a w1 m => ?_, fun a w1 m => ?_, fun a w1 m => ?_, fun a w1 m => ?_, fun a w1 m => ?_, fun a w1 m => ?_, fun a w1 m => ?_, fun a w1 m => ?_, fun a w1 m => ?_, fun a w1 m => ?_, fun a w1 m => ?_, fun a w1 m => ?_, fun a w1 m => ?_, fun a w1 m => ?_, fun a w1 m => ?_, fun a w1 m => ?_, fun a w1 m => ?_, trivial⟩ ?_
      · exact ok_move (wanted_none rfl) (.tmp 3) rfl (m.old 3 rfl)
      · exact ok_fieldR1 (wanted_none rfl) (.tmp 1) rfl w.heap.size 0 (m.old 1 rfl)
      · exact ok_loadPv (wanted_none rfl) (.tmp 16) rfl ⟨w.heap.size, 0 + 1, none⟩ _ (m.has 1 16 rfl rfl) ((m.grew.cell (p := ⟨w.heap.size, 1, none⟩) Q2.out.lt).trans Q2.out.c1)
      · exact ok_move (wanted_none rfl) (.tmp 4) rfl (m.old 4 rfl)
      · exact ok_indexP (wanted_none rfl) (.tmp 17) (.tmp 18) rfl b off nf fc j (m.has 2 17 rfl rfl) (m.has 3 18 rfl rfl) hjn
      · exact ok_field0 (wanted_none rfl) (.tmp 19) rfl _ _ (m.has 4 19 rfl rfl)
      · exact ok_loadS (wanted_none rfl) (.tmp 20) rfl _ _ (m.has 5 20 rfl rfl) ((m.grew.cell (p := ⟨b, off + j * 2, none⟩) HLB.out).trans HC1.out)
      · exact ok_strlen (wanted_none rfl) (.tmp 21) rfl _ (m.has 6 21 rfl rfl)
      · exact ok_bin (wanted_none rfl) _ _ _ _ (.tmp 22) rfl _ _ _ (rfl) (m.has 7 22 rfl rfl) rfl (run_addz _ _ _ hz1)
      · exact ok_fieldR1 (wanted_none rfl) (.tmp 1) rfl w.heap.size 0 (m.old 1 rfl)
      · exact ok_loadPv (wanted_none rfl) (.tmp 24) rfl ⟨w.heap.size, 0 + 1, none⟩ _ (m.has 9 24 rfl rfl) ((m.grew.cell (p := ⟨w.heap.size, 1, none⟩) Q2.out.lt).trans Q2.out.c1)
      · exact ok_move (wanted_none rfl) (.tmp 4) rfl (m.old 4 rfl)
      · exact ok_indexP (wanted_none rfl) (.tmp 25) (.tmp 26) rfl b off nf fc j (m.has 10 25 rfl rfl) (m.has 11 26 rfl rfl) hjn
      · exact ok_field1 (wanted_none rfl) (.tmp 27) rfl _ _ (m.has 12 27 rfl rfl)
      · exact ok_loadS (wanted_none rfl) (.tmp 28) rfl _ _ (m.has 13 28 rfl rfl) ((m.grew.cell (p := ⟨b, off + j * 2 + 1, none⟩) HLB.out).trans HC2.out)
      · exact ok_strlen (wanted_none rfl) (.tmp 29) rfl _ (m.has 14 29 rfl rfl)
      · exact ok_bin (wanted_none rfl) _ _ _ (.tmp 23) (.tmp 30) rfl _ _ _ (m.has 8 23 rfl rfl) (m.has 15 30 rfl rfl) rfl (run_addz _ _ _ hz2)
      · exact ok_bin (wanted_none rfl) _ _ _ (.tmp 15) (.tmp 31) rfl _ _ _ (m.has 0 15 rfl rfl) (m.has 16 31 rfl rfl) rfl (run_addz _ _ _ hz3)
      · exact ok_assign (wanted_none rfl) (.tmp 32) rfl (m.has 17 32 rfl rfl)
      intro f w9 hg hf
      have e18 : f 18 = .int .i64 zn := hf 18 (by decide)
      have B9 := hideIt (below_then HB.out hg)
      clear hf hg
      simp only [List.take, List.drop, putAll, Act.put, List.setIfInBounds_toArray, List.set_cons_succ, List.set_cons_zero]
      rw [e18]
      clear e18 hz1 hz2 hz3 q1'
      go_wp2_with fail
      go_roundw
      case rel => exact ⟨j + 1, by omega, by go_num, by rw [HZN.out], B9.out⟩
      case measure => simp [intOf]; omega
    · obtain rfl : j = nf := by omega
      have hlt' : ¬ (j : Int) < (j : Int) := by omega
      have EV : Hid (decide ((400 : Int) < IntKind.i64.wrap ((nb + bulkR (fs.take j) : Nat) : Int)) = bo) := hideIt (by rw [← HV.out, List.take_of_length_le (by have := HNF.out; omega)])
      generalize IntKind.i64.wrap ((nb + bulkR (fs.take j) : Nat) : Int) = z at *
      have B9 := hideIt (below_then BX.out HB.out)
      go_wp2_with fail
      go_ret
      exact ⟨by rw [← EV.out]; rfl, B9.out⟩
theorem go_heavy10 : goFn Tryd.prog 9 = true := by kernel_rfl
set_option maxRecDepth 8000 in
set_option maxHeartbeats 4000000 in
theorem prints10_any (r : RespL) (fv : Value) (A : Option Addr) (c : Nat) (w : World) (hp : RespParts fv A c r w) (hl : r.fs.length ≤ 40 → ∀ p ∈ r.fs, p.1.length ≤ 400000 ∧ p.2.length ≤ 400000) (hT : PowOk w) :
    Calls Tryd.prog 13 #[respV r fv A c] w fun e w' => e = .returned (.bool true) ∧ Below w.heap.size w w' := by
  obtain ⟨FA, fc, rfl, _, _, _, _⟩ := hp.fields.form
  obtain ⟨X, hX⟩ : ∃ X, w.alloc (.cells #[.int .i64 r.status, .slice FA r.fs.length fc, .slice A r.body.length c] 25) = X := ⟨_, rfl⟩
  have hbx : Below w.heap.size w X := by rw [← hX]; exact below_new w _
  have hqx : RCell X w.heap.size (.int .i64 r.status) (.slice FA r.fs.length fc) (.slice A r.body.length c) := by rw [← hX]; exact RCell.new w _ _ _
  have BX := hideIt hbx
  have QX := hideIt hqx
  have HX := hideIt hX
  have HP1 := hideIt (rprint_any r (.slice FA r.fs.length fc) A c X (hp.keep hbx) hl (hT.keep hbx))
  have HP2 := hideIt (fun w1 (hb : Below w.heap.size w w1) => refrprint_any r (.slice FA r.fs.length fc) A c w1 (hp.keep hb) hl (hT.keep hb))
  unfold PrintRPost respV at HP1
  unfold RefPrintRPost respV at HP2
  unfold respV
  have hcode : (printR r).2 ≤ 1000 := by
    unfold printR
    split
    · simp
    · split
      · simp
      · cases hb : badF r.fs with
        | none => simp
        | some p => simp only; rcases printF_code p with h | h | h <;> omega
  obtain ⟨P, hP⟩ : ∃ P, printR r = P := ⟨_, rfl⟩
  obtain ⟨px, pk⟩ := P
  rw [hP] at HP1 HP2 hcode
  simp only at HP1 HP2 hcode
  have hwk : IntKind.i64.wrap (pk : Int) = (pk : Int) := IntWalk.i64_in _ (by omega)
  clear hp hl hT hbx hqx hX hP
  generalize r.status = sst at *
  generalize r.fs.length = nf at *
  generalize r.body.length = nb at *
  go_enter Tryd.func13, Tryd.ntmps13
  go_upto_region 1 with fail
  rw [HX.out]
  have d0 := QX.out.c0
  have d1 := QX.out.c1
  have d2 := QX.out.c2
  go_wp2_with fail
  refine HP1.out.mono ?_
  rintro e u1 ⟨A1, c1, rfl, hp1, _, hb⟩
  have B1 := hideIt (below_then BX.out hb)
  have Q1 := QX.out.keep hb QX.out.lt
  have P1 := hideIt hp1
  clear d0 d1 d2 hp1 hb HP1
  have d0 := Q1.c0
  have d1 := Q1.c1
  have d2 := Q1.c2
  go_wp2_with fail
  refine (HP2.out _ B1.out).mono ?_
  rintro e u2 ⟨A2, c2, rfl, hp2, _, hb⟩
  have B2 := hideIt (below_then B1.out hb)
  have hv1 := conv_bytes A1 px px.length c1 _ u2 (P1.out.keep hb).bytes rfl
  have hv2 := conv_bytes A2 px px.length c2 _ u2 hp2.bytes rfl
  clear hp2 hb HP2 Q1 d0 d1 d2
  generalize strOf px = sp at *
  generalize px.length = pn at *
  go_wp2_with fail
  go_ret
  exact ⟨rfl, B2.out⟩
theorem go_prints10 : goFn Tryd.prog 13 = true := by kernel_rfl
theorem parse_small2 (bs : List UInt8) : (parseR bs).1.fs.length ≤ bs.length := by
  rcases parseC_two (candL statP bs) bs with ⟨r, e⟩ | e
  · obtain ⟨h, _, _⟩ := parseC_ok e
    have := cand_small h
    unfold parseR
    rw [e]
    exact this.1
  · unfold parseR
    rw [e]
    simp [RespZ]
set_option maxRecDepth 8000 in
set_option maxHeartbeats 4000000 in
theorem parses10_any (A : Option Addr) (bs : List UInt8) (n c : Nat) (w : World) (hp : PieceOk w ⟨A, c, bs⟩) (hn : bs.length = n) (hl : n ≤ 100000) (hm : MaxOk w) (hT : PowOk w) :
    Calls Tryd.prog 14 #[.slice A n c] w fun e w' => e = .returned (.bool true) ∧ Below w.heap.size w w' := by
  have HP1 := hideIt (rparse_any A bs n c w hp hn hl hm hT)
  have HP2 := hideIt (fun w1 (hb : Below w.heap.size w w1) => refrparse_any A bs n c w1 (hp.keep hb) hn hl (hT.keep hb))
  have HPSM := hideIt (parse_small2 bs)
  have hcode : (parseR bs).2 ≤ 1000 := by
    rcases parseC_two (candL statP bs) bs with ⟨r, e⟩ | e
    · unfold parseR; rw [e]; simp
    · unfold parseR; rw [e]; simp
  unfold ParseRPost respV at HP1
  unfold RefParseRPost respV at HP2
  obtain ⟨P, hP⟩ : ∃ P, parseR bs = P := ⟨_, rfl⟩
  obtain ⟨r, pk⟩ := P
  rw [hP] at HP1 HP2 hcode HPSM
  simp only at HP1 HP2 hcode HPSM
  have hwk : IntKind.i64.wrap (pk : Int) = (pk : Int) := IntWalk.i64_in _ (by omega)
  have HFL : Hid (r.fs.length ≤ 100000) := hideIt (by have := HPSM.out; omega)
  clear hp hn hl hm hT hP
  go_enter Tryd.func14, Tryd.ntmps14
  go_wp2_with fail
  refine HP1.out.mono ?_
  rintro e u1 ⟨fv, A1, c1, rfl, hnew, hb⟩
  obtain ⟨FA, fc, rfl, hfm, hfx, _, _⟩ := hnew.fields.open
  have hbn := below_new u1 (.cells #[.int .i64 r.status, .slice FA r.fs.length fc, .slice A1 r.body.length c1] 25)
  have B1 := hideIt (below_then hb hbn)
  have G1 := hideIt (RCell.new u1 (.int .i64 r.status) (.slice FA r.fs.length fc) (.slice A1 r.body.length c1))
  have N1 := hideIt (hnew.parts.keep hbn)
  clear hnew hb hbn HP1
  go_upto_region 2 with fail
  generalize u1.alloc (.cells #[.int .i64 r.status, .slice FA r.fs.length fc, .slice A1 r.body.length c1] 25) = Y at *
  generalize u1.heap.size = g1 at *
  go_wp2_with fail
  refine (HP2.out _ B1.out).mono ?_
  rintro e u2 ⟨fv2, A2, c2, rfl, hpt, hb⟩
  obtain ⟨FB, fd, rfl, _, _, _, _⟩ := hpt.fields.form
  have hbn := below_new u2 (.cells #[.int .i64 r.status, .slice FB r.fs.length fd, .slice A2 r.body.length c2] 25)
  have B2 := hideIt (below_then (below_then B1.out hb) hbn)
  have G2 := hideIt (RCell.new u2 (.int .i64 r.status) (.slice FB r.fs.length fd) (.slice A2 r.body.length c2))
  have N2 := hideIt (hpt.keep hbn)
  have G1' := hideIt ((G1.out.keep hb G1.out.lt).keep hbn (G1.out.keep hb G1.out.lt).lt)
  have N1' := hideIt ((N1.out.keep hb).keep hbn)
  clear hpt hb hbn HP2 G1 N1
  go_upto_region 3 with fail
  generalize u2.alloc (.cells #[.int .i64 r.status, .slice FB r.fs.length fd, .slice A2 r.body.length c2] 25) = Z at *
  generalize u2.heap.size = g2 at *
  have HSA := hideIt (refrsame_any r r (.slice FA r.fs.length fc) (.slice FB r.fs.length fd) A1 A2 c1 c2 Z N1'.out N2.out (by have := HFL.out; omega))
  rw [sameR_refl] at HSA
  unfold respV at HSA
  have d0 := G1'.out.c0
  have d1 := G1'.out.c1
  have d2 := G1'.out.c2
  have e0 := G2.out.c0
  have e1 := G2.out.c1
  have e2 := G2.out.c2
  generalize r.status = sst at *
  generalize r.fs.length = nf at *
  generalize r.body.length = nb at *
  go_wp2_with fail
  refine HSA.out.mono ?_
  rintro e u3 ⟨rfl, hb⟩
  have B3 := hideIt (below_then B2.out hb)
  clear hb HSA d0 d1 d2 e0 e1 e2
  go_wp2_with fail
  go_ret
  exact ⟨rfl, B3.out⟩
theorem go_parses10 : goFn Tryd.prog 14 = true := by kernel_rfl
end Go.Proofs.YtolikoediafkkaaDoor
