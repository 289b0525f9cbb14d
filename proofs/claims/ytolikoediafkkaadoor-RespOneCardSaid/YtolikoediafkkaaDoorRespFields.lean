/- Contract of resp.fieldsOf. -/
import Derived.Test.YtolikoediafkkaaDoorLineRows
import Derived.Test.YtolikoediafkkaaDoorHeadField
import Derived.Test.YtolikoediafkkaaDoorPairOne
import Derived.Test.YtolikoediafkkaaDoorRespMem
import Derived.Handy
namespace Go.Proofs.YtolikoediafkkaaDoor
open Go.ChangeShapes Go.WideShapes Go.ChangeAt Go.RowKit
set_option linter.unusedVariables false
set_option linter.unusedSimpArgs false

/-- are all lines fields? -/
def allF (ls : List (List UInt8)) : Bool := ls.all fun x => decide ((fieldL x).2 = 0)
theorem allF_iff (ls : List (List UInt8)) : allF ls = true ↔ ∀ x ∈ ls, (fieldL x).2 = 0 := by simp [allF]
set_option maxRecDepth 8000 in
set_option maxHeartbeats 4000000 in
theorem rfieldsOf_any (A : Option Addr) (n c : Nat) (ls : List (List UInt8)) (w : World) (hp : StrsOff w A ls) (hn : ls.length = n) (hx : ∀ x ∈ ls, x.length ≤ 100000) (hnn : n ≤ 100000) :
    Calls Tryd.prog 47 #[.slice A n c] w fun e w' => ∃ v, e = .returned (.tuple #[v, .bool (allF ls)]) ∧ (allF ls = true → POwn w.heap.size v (ls.map fun x => (fieldL x).1) w') ∧ Below w.heap.size w w' := by
  obtain ⟨RR, hRR⟩ : ∃ R, allF ls = R := ⟨_, rfl⟩
  have HR := hideIt hRR
  rw [hRR]
  clear hRR
  have HP := hideIt hp
  have HX := hideIt hx
  have HL := hideIt hn
  have HNN := hideIt hnn
  clear hp hx hn
  go_enter Tryd.func47, Tryd.ntmps47
  go_wp2_with fail
  go_loopw [4, 11] (fun v i wr => ∃ j : Nat, j ≤ n ∧ i = .int .i64 (j : Int) ∧ POwn w.heap.size v (doneL ls j) wr ∧ (∀ y ∈ ls.take j, (fieldL y).2 = 0) ∧ Below w.heap.size w wr) (fun v i wr => n - (intOf i).toNat)
  case atStart => exact ⟨0, by omega, rfl, POwn.nil _ _, by simp, Below.refl _ _⟩
  case round =>
    obtain ⟨j, hj, rfl, ho, ha, hb⟩ := hrel
    have HO := hideIt ho
    have HA := hideIt ha
    have HB := hideIt hb
    clear ho ha hb
    have hdl := done_len ls j
    by_cases hlt : j < n
    · have hji : (j : Int) < (n : Int) := by omega
      obtain ⟨x, hxj⟩ : ∃ x, ls[j]? = some x := ⟨_, List.getElem?_eq_getElem (by have := HL.out; omega)⟩
      obtain ⟨b, off, rfl, hlt2, hc⟩ := (HP.out.keep HB.out) (by have := HL.out; omega)
      have c1 := hc j x hxj
      have HF := hideIt (fun w => field_any x w (by have := HX.out x (List.mem_of_getElem? hxj); omega))
      have DS := hideIt (done_succ ls j x hxj)
      have HXJ := hideIt hxj
      have hwj : IntKind.i64.wrap ((j : Int) + 1) = (j : Int) + 1 := IntWalk.i64_in _ (by omega)
      clear hc hxj
      by_cases hz : (fieldL x).2 = 0
      · have TS := hideIt (take_succ_all HA.out HXJ.out hz)
        rw [hz] at HF
        generalize (fieldL x).1 = p at *
        unfold pairV errV at HF
        clear hz
        generalize doneL ls j = done at *
        go_wp2_with fail
        refine (HF.out _).mono ?_
        rintro e u1 ⟨rfl, hb1⟩
        have P1 := hideIt (PCell.new u1 p)
        have B1 := hideIt (below_then (below_then HB.out hb1) (below_new u1 (.cells #[.string (strOf p.1), .string (strOf p.2)] 41)))
        have O1 := hideIt ((HO.out.keep hb1).keep (below_new u1 (.cells #[.string (strOf p.1), .string (strOf p.2)] 41)))
        have q0 := P1.out.cell0
        have q1 := P1.out.cell1
        have hdl' : Hid (done.length ≤ 100000) := hideIt (by omega)
        clear hb1 HB HO HF
        go_upto_region 6 with fail
        generalize u1.alloc (.cells #[.string (strOf p.1), .string (strOf p.2)] 41) = X1 at *
        generalize u1.heap.size = g1 at *
        go_wp2_with (at_builtin; refine wpList_appP1 rfl (.tmp 22) (.tmp 24) rfl w.heap.size _ done p rfl O1.out rfl (by have := hdl'.out; omega) B1.out.size ?_)
        intro v4 w4 o4 g4
        have O4 := hideIt o4
        have B4 : Hid (Below w.heap.size w w4) := hideIt (B1.out.trans (g4 _ (Nat.le_refl _)))
        clear o4 g4 q0 q1 P1 B1 O1
        go_wp2_with fail
        go_roundw
        case rel => exact ⟨j + 1, by omega, by go_num, by rw [DS.out]; exact O4.out, TS.out, B4.out⟩
        case measure => simp [intOf]; omega
      · have E : Hid (RR = false) := hideIt (by
          rw [← HR.out]
          cases hh : allF ls with
          | false => rfl
          | true => exact absurd ((allF_iff ls).1 hh x (List.mem_of_getElem? HXJ.out)) hz)
        obtain ⟨m, hm⟩ : ∃ m, (fieldL x).2 = m := ⟨_, rfl⟩
        rw [hm] at HF hz
        have hne : ((m : Int) == 0) = false := by rw [beq_eq_false_iff_ne]; omega
        have hne2 : ¬ (m : Int) = 0 := by omega
        generalize (fieldL x).1 = p at *
        unfold pairV errV at HF
        clear hm hz DS
        generalize doneL ls j = done at *
        go_wp2_with fail
        refine (HF.out _).mono ?_
        rintro e u1 ⟨rfl, hb1⟩
        have B1 := hideIt (below_then (below_then HB.out hb1) (below_new u1 (.cells #[.string (strOf p.1), .string (strOf p.2)] 41)))
        clear hb1 HB HO HF
        go_wp2_with fail
        go_ret2
        exact ⟨_, by rw [E.out]; rfl, (fun h => by rw [E.out] at h; exact absurd h (by decide)), B1.out⟩
    · obtain rfl : j = n := by omega
      have hji : ¬ (j : Int) < (j : Int) := by omega
      have ht : ls.take j = ls := List.take_of_length_le (by have := HL.out; omega)
      have E : Hid (RR = true) := hideIt (by
        have := HA.out
        rw [ht] at this
        rw [← HR.out]
        exact (allF_iff ls).2 this)
      have ED : Hid (doneL ls j = ls.map fun x => (fieldL x).1) := hideIt (by unfold doneL; rw [ht])
      clear ht
      obtain ⟨B, d, rfl, _⟩ := HO.out.open
      go_wp2_with fail
      go_ret2
      exact ⟨_, by rw [E.out]; rfl, (fun _ => by rw [← ED.out]; exact HO.out), HB.out⟩
theorem go_rfieldsOf : goFn Tryd.prog 47 = true := by kernel_rfl
end Go.Proofs.YtolikoediafkkaaDoor
