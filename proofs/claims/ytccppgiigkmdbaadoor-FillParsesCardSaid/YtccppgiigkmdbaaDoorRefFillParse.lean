/- The contract of the reference's Parse. -/
import Derived.Test.YtccppgiigkmdbaaDoorRefFillUn
import Derived.Test.YtccppgiigkmdbaaDoorRefFillSplit
import Derived.Test.YtccppgiigkmdbaaDoorFillParse
import Derived.Test.YtccppgiigkmdbaaDoorPairFacts
import Derived.Test.YtccppgiigkmdbaaDoorPairOne
import Derived.Deep.Cut
import Derived.Handy
namespace Go.Proofs.YtccppgiigkmdbaaDoor
open Go.ChangeShapes Go.WideShapes Go.ChangeAt Go.RowKit
set_option linter.unusedVariables false
set_option linter.unusedSimpArgs false

theorem cut_two (p : List UInt8) : p.take (cutN p).length = cutN p ∧ ((cutN p).length = p.length → cutV p = []) := by
  refine ⟨?_, fun h => by unfold cutV; rw [List.drop_of_length_le (by omega)]⟩
  by_cases h : ∀ j, j < p.length → p.getD j 0 ≠ 61
  · rw [(cut_none h).1, List.take_length]
  · have : ∃ k, k < p.length ∧ p.getD k 0 = 61 ∧ ∀ j, j < k → p.getD j 0 ≠ 61 := by
      apply Classical.byContradiction
      intro hn
      refine h fun j => ?_
      induction j using Nat.strongRecOn with
      | _ j ih => exact fun hj he => hn ⟨j, hj, he, fun i hi => ih i hi (by omega)⟩
    obtain ⟨k, hk, hc, hh⟩ := this
    rw [(cut_at hk hc hh).1, List.length_take, show min k p.length = k by omega]
theorem split_head (p : List UInt8) : (splitL 61 p)[0]? = some (cutN p) ∧ 0 < (splitL 61 p).length := by
  unfold cutN
  cases h : splitL 61 p with
  | nil => exact absurd h (split_ne 61 p)
  | cons a r => exact ⟨rfl, by simp⟩
set_option maxRecDepth 8000 in
set_option maxHeartbeats 8000000 in
theorem refparse_any (A : Option Addr) (bs : List UInt8) (n c : Nat) (w : World) (hp : PieceOk w ⟨A, c, bs⟩) (hn : bs.length = n) (hl : n ≤ 100000) :
    Calls Tryd.prog 25 #[.slice A n c] w fun e w' => ∃ v, e = .returned (.tuple #[v, .int .i64 ((parseL bs).2 : Int)]) ∧ POwn w.heap.size v (parseL bs).1 w' ∧ Below w.heap.size w w' := by
  have hfit : n ≤ c := by have := hp.fits; simp only at this; omega
  have hmost : c ≤ 9223372036854775807 := hp.most
  by_cases h0 : bs = []
  · subst h0
    obtain rfl : n = 0 := hn.symm
    rw [show parseL [] = ([], 0) from rfl]
    go_enter Tryd.func25, Tryd.ntmps25
    go_wp2
    go_ret2
    exact ⟨_, rfl, POwn.nil _ _, Below.refl _ _⟩
  have hpos : 0 < n := by rw [← hn]; exact List.length_pos_iff.2 h0
  have hne : ((n : Int) == 0) = false := by rw [beq_eq_false_iff_ne]; omega
  have hcv : (convert 22 9 (.slice A n c)).run Tryd.prog w = .ok (.string (strOf bs)) w := conv_bytes A bs n c _ w hp.bytes hn
  have HS := hideIt (refsplit_any bs 38 38 rfl w (by omega))
  have hml : ∀ p ∈ splitL 38 bs, p.length ≤ 100000 := fun p hp => by have := split_mem_len 38 bs p hp; omega
  have ML := hideIt hml
  have hsl := split_length 38 bs
  by_cases h30 : 30 < (splitL 38 bs).length
  · have hr : parseL bs = ([], 3) := by unfold parseL; rw [if_neg h0, if_pos h30]
    rw [hr]
    have h30' : (30 : Int) < ((splitL 38 bs).length : Int) := by omega
    clear hp hml ML hr h30 h0
    generalize splitL 38 bs = ps at *
    go_enter Tryd.func25, Tryd.ntmps25
    go_wp2_with fail
    refine HS.out.mono ?_
    rintro e w2 ⟨v2, rfl, ho2, hb2⟩
    obtain ⟨A2, c2, rfl, d1, d2, d3⟩ := ho2.open
    have B2 := hideIt hb2
    clear ho2 hb2 d3
    go_wp2_with fail
    go_ret2
    exact ⟨_, rfl, POwn.nil _ _, B2.out⟩
  have h30' : ((splitL 38 bs).length : Int) ≤ 30 := by omega
  have PI := hideIt (parse_is bs h0 (by omega))
  clear hp hml h0
  generalize splitL 38 bs = ps at *
  go_enter Tryd.func25, Tryd.ntmps25
  go_wp2_with fail
  refine HS.out.mono ?_
  rintro e w2 ⟨v2, rfl, ho2, hb2⟩
  obtain ⟨A2, c2, rfl, d1, d2, d3⟩ := ho2.open
  have B2 := hideIt hb2
  have D3 := hideIt d3
  have S2 : Hid (w.heap.size ≤ w2.heap.size) := hideIt hb2.size
  clear ho2 hb2 d3 HS hcv
  go_wp2_with fail
  go_loopw [5, 6] (fun v i wr => ∃ (j : Nat) (d : List PairL), j ≤ ps.length ∧ i = .int .i64 (j : Int) ∧ piecesL (ps.take j) = some d ∧ POwn w2.heap.size v d wr ∧ Below w2.heap.size w2 wr) (fun _ i _ => ps.length - (intOf i).toNat)
  case atStart => exact ⟨0, [], by omega, rfl, rfl, POwn.nil _ _, Below.refl _ _⟩
  case round =>
    obtain ⟨j, d, hj, rfl, hd, ho, hb⟩ := hrel
    have HD := hideIt hd
    have HO := hideIt ho
    have HB := hideIt hb
    clear hd ho hb
    have hwj : IntKind.i64.wrap ((j : Int) + 1) = (j : Int) + 1 := IntWalk.i64_in _ (by omega)
    by_cases hlt : j < ps.length
    · have hlt' : (j : Int) < (ps.length : Int) := by omega
      obtain ⟨p, hpj⟩ : ∃ p, ps[j]? = some p := ⟨_, List.getElem?_eq_getElem hlt⟩
      obtain ⟨b, rfl, lb, kb⟩ := (D3.out.keep HB.out) (by omega)
      have cp := kb j p hpj
      have HPJ := hideIt hpj
      have HBr := hideIt lb
      have CP := hideIt cp
      have hpl := ML.out p (List.mem_of_getElem? hpj)
      have hsp := strOf_size p
      have HSp := hideIt (refsplit_any p 61 61 rfl wr (by omega))
      have H0 := hideIt (split_head p).1
      have HNe := hideIt (split_head p).2
      have hcl := cutN_len p
      have hcs := strOf_size (cutN p)
      have HCT := hideIt (cut_two p)
      have hhi : ∀ w, (Instr.slice 9 (.string (strOf p)) none (some (.int .i64 ((cutN p).length : Int))) none).run Tryd.prog w = .ok (.string (strOf (cutN p))) w := fun w => by
        have := run_strhi p (cutN p).length hcl w
        rwa [HCT.out.1] at this
      have HU1 : Hid (∀ W, Calls Tryd.prog 26 #[.string (strOf (cutN p))] W fun e w' => e = .returned (.tuple #[.string (strOf ((unescL (cutN p)).getD [])), .bool (unescL (cutN p)).isSome]) ∧ Below W.heap.size W w') := hideIt fun W => refunesc_any (cutN p) W (by omega)
      have HU2 : Hid (∀ W, Calls Tryd.prog 26 #[.string (strOf (cutV p))] W fun e w' => e = .returned (.tuple #[.string (strOf ((unescL (cutV p)).getD [])), .bool (unescL (cutV p)).isSome]) ∧ Below W.heap.size W w') := hideIt fun W => refunesc_any (cutV p) W (by have := cutV_len p; omega)
      have PC := hideIt (piece_cases p)
      clear kb hpj lb
      by_cases hat : (cutN p).length < p.length
      · have hat' : ((cutN p).length : Int) < (p.length : Int) := by omega
        have hwa : IntKind.i64.wrap (((cutN p).length : Int) + 1) = ((cutN p).length : Int) + 1 := IntWalk.i64_in _ (by omega)
        have hlo : ∀ w, (Instr.slice 9 (.string (strOf p)) (some (.int .i64 (((cutN p).length : Int) + 1))) none none).run Tryd.prog w = .ok (.string (strOf (cutV p))) w := fun w => run_strlo p ((cutN p).length + 1) (by omega) w
        generalize hcn : (cutN p).length = at_ at *
        clear hcn
        rcases PC.out with ⟨hn1, hpx⟩ | ⟨nn, hn1, hv1, hpx⟩ | ⟨vv, hn1, hv1, hpx⟩ | ⟨nn, vv, hn1, hv1, hnn, hpx⟩
        · rw [hn1] at HU1
          simp only [Option.getD_none, Option.isSome_none] at HU1
          generalize (unescL (cutV p)).isSome = bo at *
          generalize (unescL (cutV p)).getD [] = so at *
          go_wp2_with fail
          refine HSp.out.mono ?_
          rintro e w3 ⟨v3, rfl, ho3, hb3⟩
          obtain ⟨A3, c3, rfl, d1, d2, d3⟩ := ho3.open
          obtain ⟨b3, rfl, l3, k3⟩ := d3 (by have := HNe.out; omega)
          have c30 := k3 0 (cutN p) H0.out
          have hsp1 : (0 : Int) < ((splitL 61 p).length : Int) := by have := HNe.out; omega
          have cp3 : w3.cell? ⟨b, j, none⟩ = some (.string (strOf p)) := (hb3.cell (p := ⟨b, j, none⟩) HBr.out).trans CP.out
          have HBr3 : Hid (b < w3.heap.size) := hideIt (Nat.lt_of_lt_of_le HBr.out hb3.size)
          have B3 := hideIt hb3
          clear ho3 hb3 d3 l3 k3
          generalize (splitL 61 p).length = spl at *
          go_wp2_with fail
          refine (HU1.out _).mono ?_
          rintro e w4 ⟨rfl, hb4⟩
          have cp4 : w4.cell? ⟨b, j, none⟩ = some (.string (strOf p)) := (hb4.cell (p := ⟨b, j, none⟩) HBr3.out).trans cp3
          have HBr4 : Hid (b < w4.heap.size) := hideIt (Nat.lt_of_lt_of_le HBr3.out hb4.size)
          have B4 := hideIt (below_then B3.out hb4)
          clear hb4 cp3 c30 B3 HBr3
          go_wp2_with fail
          refine (HU2.out _).mono ?_
          rintro e w5 ⟨rfl, hb5⟩
          have B5 := hideIt (below_then B4.out hb5)
          clear hb5 cp4
          have F := hideIt (B2.out.trans ((HB.out.trans (B5.out.mono HB.out.size)).mono S2.out))
          have R : Hid (parseL bs = ([], 10)) := hideIt (PI.out.2 (pieces_bad HPJ.out HD.out hpx))
          clear hpx
          go_wp2_with fail
          go_ret2
          exact ⟨_, by rw [R.out]; rfl, by rw [R.out]; exact POwn.nil _ _, F.out⟩
        · rw [hn1] at HU1
          rw [hv1] at HU2
          simp only [Option.getD_some, Option.getD_none, Option.isSome_some, Option.isSome_none] at HU1 HU2
          go_wp2_with fail
          refine HSp.out.mono ?_
          rintro e w3 ⟨v3, rfl, ho3, hb3⟩
          obtain ⟨A3, c3, rfl, d1, d2, d3⟩ := ho3.open
          obtain ⟨b3, rfl, l3, k3⟩ := d3 (by have := HNe.out; omega)
          have c30 := k3 0 (cutN p) H0.out
          have hsp1 : (0 : Int) < ((splitL 61 p).length : Int) := by have := HNe.out; omega
          have cp3 : w3.cell? ⟨b, j, none⟩ = some (.string (strOf p)) := (hb3.cell (p := ⟨b, j, none⟩) HBr.out).trans CP.out
          have HBr3 : Hid (b < w3.heap.size) := hideIt (Nat.lt_of_lt_of_le HBr.out hb3.size)
          have B3 := hideIt hb3
          clear ho3 hb3 d3 l3 k3
          generalize (splitL 61 p).length = spl at *
          go_wp2_with fail
          refine (HU1.out _).mono ?_
          rintro e w4 ⟨rfl, hb4⟩
          have cp4 : w4.cell? ⟨b, j, none⟩ = some (.string (strOf p)) := (hb4.cell (p := ⟨b, j, none⟩) HBr3.out).trans cp3
          have HBr4 : Hid (b < w4.heap.size) := hideIt (Nat.lt_of_lt_of_le HBr3.out hb4.size)
          have B4 := hideIt (below_then B3.out hb4)
          clear hb4 cp3 c30 B3 HBr3
          go_wp2_with fail
          refine (HU2.out _).mono ?_
          rintro e w5 ⟨rfl, hb5⟩
          have B5 := hideIt (below_then B4.out hb5)
          clear hb5 cp4
          have F := hideIt (B2.out.trans ((HB.out.trans (B5.out.mono HB.out.size)).mono S2.out))
          have R : Hid (parseL bs = ([], 10)) := hideIt (PI.out.2 (pieces_bad HPJ.out HD.out hpx))
          clear hpx
          go_wp2_with fail
          go_ret2
          exact ⟨_, by rw [R.out]; rfl, by rw [R.out]; exact POwn.nil _ _, F.out⟩
        · rw [hn1] at HU1
          rw [hv1] at HU2
          simp only [Option.getD_some, Option.isSome_some] at HU1 HU2
          rw [show strOf [] = ⟨#[]⟩ from rfl] at HU1
          go_wp2_with fail
          refine HSp.out.mono ?_
          rintro e w3 ⟨v3, rfl, ho3, hb3⟩
          obtain ⟨A3, c3, rfl, d1, d2, d3⟩ := ho3.open
          obtain ⟨b3, rfl, l3, k3⟩ := d3 (by have := HNe.out; omega)
          have c30 := k3 0 (cutN p) H0.out
          have hsp1 : (0 : Int) < ((splitL 61 p).length : Int) := by have := HNe.out; omega
          have cp3 : w3.cell? ⟨b, j, none⟩ = some (.string (strOf p)) := (hb3.cell (p := ⟨b, j, none⟩) HBr.out).trans CP.out
          have HBr3 : Hid (b < w3.heap.size) := hideIt (Nat.lt_of_lt_of_le HBr.out hb3.size)
          have B3 := hideIt hb3
          clear ho3 hb3 d3 l3 k3
          generalize (splitL 61 p).length = spl at *
          go_wp2_with fail
          refine (HU1.out _).mono ?_
          rintro e w4 ⟨rfl, hb4⟩
          have cp4 : w4.cell? ⟨b, j, none⟩ = some (.string (strOf p)) := (hb4.cell (p := ⟨b, j, none⟩) HBr3.out).trans cp3
          have HBr4 : Hid (b < w4.heap.size) := hideIt (Nat.lt_of_lt_of_le HBr3.out hb4.size)
          have B4 := hideIt (below_then B3.out hb4)
          clear hb4 cp3 c30 B3 HBr3
          go_wp2_with fail
          refine (HU2.out _).mono ?_
          rintro e w5 ⟨rfl, hb5⟩
          have B5 := hideIt (below_then B4.out hb5)
          clear hb5 cp4
          have F := hideIt (B2.out.trans ((HB.out.trans (B5.out.mono HB.out.size)).mono S2.out))
          have R : Hid (parseL bs = ([], 10)) := hideIt (PI.out.2 (pieces_bad HPJ.out HD.out hpx))
          clear hpx
          go_wp2_with fail
          go_ret2
          exact ⟨_, by rw [R.out]; rfl, by rw [R.out]; exact POwn.nil _ _, F.out⟩
        · rw [hn1] at HU1
          rw [hv1] at HU2
          simp only [Option.getD_some, Option.isSome_some] at HU1 HU2
          go_wp2_with fail
          refine HSp.out.mono ?_
          rintro e w3 ⟨v3, rfl, ho3, hb3⟩
          obtain ⟨A3, c3, rfl, d1, d2, d3⟩ := ho3.open
          obtain ⟨b3, rfl, l3, k3⟩ := d3 (by have := HNe.out; omega)
          have c30 := k3 0 (cutN p) H0.out
          have hsp1 : (0 : Int) < ((splitL 61 p).length : Int) := by have := HNe.out; omega
          have cp3 : w3.cell? ⟨b, j, none⟩ = some (.string (strOf p)) := (hb3.cell (p := ⟨b, j, none⟩) HBr.out).trans CP.out
          have HBr3 : Hid (b < w3.heap.size) := hideIt (Nat.lt_of_lt_of_le HBr.out hb3.size)
          have B3 := hideIt hb3
          clear ho3 hb3 d3 l3 k3
          generalize (splitL 61 p).length = spl at *
          go_wp2_with fail
          refine (HU1.out _).mono ?_
          rintro e w4 ⟨rfl, hb4⟩
          have cp4 : w4.cell? ⟨b, j, none⟩ = some (.string (strOf p)) := (hb4.cell (p := ⟨b, j, none⟩) HBr3.out).trans cp3
          have HBr4 : Hid (b < w4.heap.size) := hideIt (Nat.lt_of_lt_of_le HBr3.out hb4.size)
          have B4 := hideIt (below_then B3.out hb4)
          clear hb4 cp3 c30 B3 HBr3
          go_wp2_with fail
          refine (HU2.out _).mono ?_
          rintro e w5 ⟨rfl, hb5⟩
          have B5 := hideIt (below_then B4.out hb5)
          clear hb5 cp4
          have HO5 := hideIt (HO.out.keep B5.out)
          have HB5 : Hid (Below w2.heap.size w2 w5) := hideIt (HB.out.trans (B5.out.mono HB.out.size))
          have PS : Hid (piecesL (ps.take (j + 1)) = some (d ++ [(nn, vv)])) := hideIt (pieces_step HPJ.out HD.out hpx)
          have hne2 : (strOf nn).toList.isEmpty = false := strOf_some hnn
          have hdl : d.length ≤ 30 := by have := pieces_len HD.out; rw [List.length_take] at this; omega
          clear hpx hnn
          go_wp2_with (at_builtin; refine wpList_appP1 rfl (.tmp 77) (.tmp 81) rfl w2.heap.size _ d (nn, vv) rfl HO5.out rfl (by omega) HB5.out.size ?_)
          intro v7 w7 o7 g7
          have O7 := hideIt o7
          have B7 : Hid (Below w2.heap.size w2 w7) := hideIt (HB5.out.trans (g7 _ (Nat.le_refl _)))
          clear o7 g7
          go_wp2_with fail
          go_roundw
          case rel => exact ⟨j + 1, _, by omega, by go_num, PS.out, O7.out, B7.out⟩
          case measure => simp [intOf]; omega
      · have hat' : ¬ ((cutN p).length : Int) < (p.length : Int) := by omega
        have hcV := HCT.out.2 (by omega)
        rw [hcV, unesc_nil] at PC
        have hate : (cutN p).length = p.length := by omega
        generalize hcn : (cutN p).length = at_ at *
        clear hcn hate
        rcases PC.out with ⟨hn1, hpx⟩ | ⟨nn, hn1, hv1, hpx⟩ | ⟨vv, hn1, hv1, hpx⟩ | ⟨nn, vv, hn1, hv1, hnn, hpx⟩
        · rw [hn1] at HU1
          simp only [Option.getD_none, Option.isSome_none] at HU1
          go_wp2_with fail
          refine HSp.out.mono ?_
          rintro e w3 ⟨v3, rfl, ho3, hb3⟩
          obtain ⟨A3, c3, rfl, d1, d2, d3⟩ := ho3.open
          obtain ⟨b3, rfl, l3, k3⟩ := d3 (by have := HNe.out; omega)
          have c30 := k3 0 (cutN p) H0.out
          have hsp1 : (0 : Int) < ((splitL 61 p).length : Int) := by have := HNe.out; omega
          have cp3 : w3.cell? ⟨b, j, none⟩ = some (.string (strOf p)) := (hb3.cell (p := ⟨b, j, none⟩) HBr.out).trans CP.out
          have HBr3 : Hid (b < w3.heap.size) := hideIt (Nat.lt_of_lt_of_le HBr.out hb3.size)
          have B3 := hideIt hb3
          clear ho3 hb3 d3 l3 k3
          generalize (splitL 61 p).length = spl at *
          go_wp2_with fail
          refine (HU1.out _).mono ?_
          rintro e w4 ⟨rfl, hb4⟩
          have cp4 : w4.cell? ⟨b, j, none⟩ = some (.string (strOf p)) := (hb4.cell (p := ⟨b, j, none⟩) HBr3.out).trans cp3
          have HBr4 : Hid (b < w4.heap.size) := hideIt (Nat.lt_of_lt_of_le HBr3.out hb4.size)
          have B4 := hideIt (below_then B3.out hb4)
          clear hb4 cp3 c30 B3 HBr3
          have F := hideIt (B2.out.trans ((HB.out.trans (B4.out.mono HB.out.size)).mono S2.out))
          have R : Hid (parseL bs = ([], 10)) := hideIt (PI.out.2 (pieces_bad HPJ.out HD.out hpx))
          clear hpx
          go_wp2_with fail
          go_ret2
          exact ⟨_, by rw [R.out]; rfl, by rw [R.out]; exact POwn.nil _ _, F.out⟩
        · cases hv1
        · rw [hn1] at HU1
          simp only [Option.getD_some, Option.isSome_some] at HU1
          rw [show strOf [] = ⟨#[]⟩ from rfl] at HU1
          go_wp2_with fail
          refine HSp.out.mono ?_
          rintro e w3 ⟨v3, rfl, ho3, hb3⟩
          obtain ⟨A3, c3, rfl, d1, d2, d3⟩ := ho3.open
          obtain ⟨b3, rfl, l3, k3⟩ := d3 (by have := HNe.out; omega)
          have c30 := k3 0 (cutN p) H0.out
          have hsp1 : (0 : Int) < ((splitL 61 p).length : Int) := by have := HNe.out; omega
          have cp3 : w3.cell? ⟨b, j, none⟩ = some (.string (strOf p)) := (hb3.cell (p := ⟨b, j, none⟩) HBr.out).trans CP.out
          have HBr3 : Hid (b < w3.heap.size) := hideIt (Nat.lt_of_lt_of_le HBr.out hb3.size)
          have B3 := hideIt hb3
          clear ho3 hb3 d3 l3 k3
          generalize (splitL 61 p).length = spl at *
          go_wp2_with fail
          refine (HU1.out _).mono ?_
          rintro e w4 ⟨rfl, hb4⟩
          have cp4 : w4.cell? ⟨b, j, none⟩ = some (.string (strOf p)) := (hb4.cell (p := ⟨b, j, none⟩) HBr3.out).trans cp3
          have HBr4 : Hid (b < w4.heap.size) := hideIt (Nat.lt_of_lt_of_le HBr3.out hb4.size)
          have B4 := hideIt (below_then B3.out hb4)
          clear hb4 cp3 c30 B3 HBr3
          have F := hideIt (B2.out.trans ((HB.out.trans (B4.out.mono HB.out.size)).mono S2.out))
          have R : Hid (parseL bs = ([], 10)) := hideIt (PI.out.2 (pieces_bad HPJ.out HD.out hpx))
          clear hpx
          go_wp2_with fail
          go_ret2
          exact ⟨_, by rw [R.out]; rfl, by rw [R.out]; exact POwn.nil _ _, F.out⟩
        · rw [hn1] at HU1
          obtain rfl : [] = vv := Option.some.inj hv1
          simp only [Option.getD_some, Option.isSome_some] at HU1
          go_wp2_with fail
          refine HSp.out.mono ?_
          rintro e w3 ⟨v3, rfl, ho3, hb3⟩
          obtain ⟨A3, c3, rfl, d1, d2, d3⟩ := ho3.open
          obtain ⟨b3, rfl, l3, k3⟩ := d3 (by have := HNe.out; omega)
          have c30 := k3 0 (cutN p) H0.out
          have hsp1 : (0 : Int) < ((splitL 61 p).length : Int) := by have := HNe.out; omega
          have cp3 : w3.cell? ⟨b, j, none⟩ = some (.string (strOf p)) := (hb3.cell (p := ⟨b, j, none⟩) HBr.out).trans CP.out
          have HBr3 : Hid (b < w3.heap.size) := hideIt (Nat.lt_of_lt_of_le HBr.out hb3.size)
          have B3 := hideIt hb3
          clear ho3 hb3 d3 l3 k3
          generalize (splitL 61 p).length = spl at *
          go_wp2_with fail
          refine (HU1.out _).mono ?_
          rintro e w4 ⟨rfl, hb4⟩
          have cp4 : w4.cell? ⟨b, j, none⟩ = some (.string (strOf p)) := (hb4.cell (p := ⟨b, j, none⟩) HBr3.out).trans cp3
          have HBr4 : Hid (b < w4.heap.size) := hideIt (Nat.lt_of_lt_of_le HBr3.out hb4.size)
          have B4 := hideIt (below_then B3.out hb4)
          clear hb4 cp3 c30 B3 HBr3
          have HO5 := hideIt (HO.out.keep B4.out)
          have HB5 : Hid (Below w2.heap.size w2 w4) := hideIt (HB.out.trans (B4.out.mono HB.out.size))
          have PS : Hid (piecesL (ps.take (j + 1)) = some (d ++ [(nn, [])])) := hideIt (pieces_step HPJ.out HD.out hpx)
          have hne2 : (strOf nn).toList.isEmpty = false := strOf_some hnn
          have hdl : d.length ≤ 30 := by have := pieces_len HD.out; rw [List.length_take] at this; omega
          clear hpx hnn
          go_wp2_with (at_builtin; refine wpList_appP1 rfl (.tmp 77) (.tmp 81) rfl w2.heap.size _ d (nn, []) rfl HO5.out rfl (by omega) HB5.out.size ?_)
          intro v7 w7 o7 g7
          have O7 := hideIt o7
          have B7 : Hid (Below w2.heap.size w2 w7) := hideIt (HB5.out.trans (g7 _ (Nat.le_refl _)))
          clear o7 g7
          go_wp2_with fail
          go_roundw
          case rel => exact ⟨j + 1, _, by omega, by go_num, PS.out, O7.out, B7.out⟩
          case measure => simp [intOf]; omega
    · obtain rfl : j = ps.length := by omega
      have hlt' : ¬ (ps.length : Int) < (ps.length : Int) := by omega
      have hd : piecesL ps = some d := by have := HD.out; rwa [List.take_length] at this
      have R : Hid (parseL bs = (d, 0)) := hideIt (PI.out.1 d hd)
      have F := hideIt (B2.out.trans (HB.out.mono S2.out))
      clear hd
      go_wp2_with fail
      go_ret2
      exact ⟨_, by rw [R.out]; rfl, by rw [R.out]; exact HO.out.base S2.out, F.out⟩
theorem go_refparse : goFn Tryd.prog 25 = true := by kernel_rfl
end Go.Proofs.YtccppgiigkmdbaaDoor
