/- Contract of the reference's Parse (of cookies). -/
import Derived.Test.YtjfmlfakdijfjaaDoorRefCOne
import Derived.Test.YtjfmlfakdijfjaaDoorRefPcs
import Derived.Test.YtjfmlfakdijfjaaDoorCookSess
import Derived.Test.YtjfmlfakdijfjaaDoorPairOne
namespace Go.Proofs.YtjfmlfakdijfjaaDoor
open Go.ChangeShapes Go.WideShapes Go.ChangeAt Go.RowKit
set_option linter.unusedVariables false
set_option linter.unusedSimpArgs false

theorem pcs_len' (t : List UInt8) : (pcsL t).length ≤ t.length + 1 ∧ ∀ p ∈ pcsL t, p.length ≤ t.length := pcs_len (t.length + 1) t (Nat.lt_succ_self _)
set_option maxRecDepth 8000 in
set_option maxHeartbeats 4000000 in
theorem rcparse_any (t : List UInt8) (w : World) (ht : t.length ≤ 90000) :
    Calls Tryd.prog 27 #[.string (strOf t)] w (CParsePost t w) := by
  by_cases h0 : t = []
  · subst h0
    have hq : (strOf []).toList.isEmpty = true := by rw [strOf_toList]; rfl
    go_enter Tryd.func27, Tryd.ntmps27
    go_wp2_with fail
    go_ret2
    exact ⟨_, rfl, POwn.nil _ _, Below.refl _ _⟩
  have hq : (strOf t).toList.isEmpty = false := by rw [strOf_toList, List.isEmpty_eq_false_iff]; exact h0
  have HPC := hideIt (rpieces_any t w (by omega))
  obtain ⟨hp1, hp2⟩ := pcs_len' t
  have HML := hideIt hp2
  have HLN := hideIt hp1
  have EM : Hid (∀ qs p r, qs ++ p :: r = pcsL t → cookieL p = none → cookiesL t = none) := hideIt fun qs p r h hp => cookies_miss h0 h hp
  have ED : Hid (∀ d, allSome ((pcsL t).map cookieL) = some d → cookiesL t = some d) := hideIt fun d h => by unfold cookiesL; rw [if_neg h0]; exact h
  unfold CParsePost
  obtain ⟨RR, hRR⟩ : ∃ R, cookiesL t = R := ⟨_, rfl⟩
  rw [hRR] at EM ED ⊢
  have HT := hideIt ht
  clear hRR h0 hp1 hp2 ht
  generalize pcsL t = P at *
  go_enter Tryd.func27, Tryd.ntmps27
  go_wp2_with fail
  refine HPC.out.mono ?_
  rintro e w1 ⟨v, rfl, ho, hb⟩
  obtain ⟨A, c, rfl, hc1, hc2, hst⟩ := ho.open
  have B1 := hideIt hb
  have HST := hideIt hst
  clear ho hb hst HPC
  go_wp2_with fail
  go_loopw [5, 6] (fun a i wr => ∃ (j : Nat) (d : List PairL), i = .int .i64 (j : Int) ∧ j ≤ P.length ∧ POwn w1.heap.size a d wr ∧ allSome ((P.take j).map cookieL) = some d ∧ Below w1.heap.size w1 wr) (fun a i wr => P.length - (intOf i).toNat)
  case atStart => exact ⟨0, [], rfl, Nat.zero_le _, POwn.nil _ _, rfl, Below.refl _ _⟩
  case round =>
    obtain ⟨j, d, rfl, hj, ho, hd, hb⟩ := hrel
    have HO := hideIt ho
    have HD := hideIt hd
    have HB := hideIt hb
    clear ho hd hb
    have hwj : IntKind.i64.wrap ((j : Int) + 1) = (j : Int) + 1 := IntWalk.i64_in _ (by have := HLN.out; have := HT.out; omega)
    by_cases hjl : j < P.length
    · have hji : (j : Int) < (P.length : Int) := by omega
      obtain ⟨p, hp⟩ : ∃ p, P[j]? = some p := ⟨_, List.getElem?_eq_getElem hjl⟩
      obtain ⟨g, rfl, hg, hcs⟩ := HST.out (by omega)
      have k0 : wr.cell? ⟨g, 0 + j, none⟩ = some (.string (strOf p)) := by rw [Nat.zero_add]; exact (HB.out.cell (p := ⟨g, j, none⟩) hg).trans (hcs j p hp)
      have k0' : wr.cell? ⟨g, j, none⟩ = some (.string (strOf p)) := (HB.out.cell (p := ⟨g, j, none⟩) hg).trans (hcs j p hp)
      have H1 := hideIt (rone_any p wr (by have := HML.out p (List.mem_of_getElem? hp); have := HT.out; omega))
      have hdl := allSome_len HD.out
      rw [List.length_map, List.length_take] at hdl
      have HDL : Hid (d.length ≤ 100000) := hideIt (by have := HLN.out; have := HT.out; omega)
      have HPJ := hideIt hp
      unfold ROnePost at H1
      clear hcs hg hdl
      cases hx : cookieL p with
      | none =>
        rw [hx] at H1
        have E : Hid (RR = none) := hideIt (EM.out (P.take j) p (P.drop (j + 1)) (by
          obtain ⟨h1, h2⟩ := List.getElem?_eq_some_iff.1 HPJ.out
          rw [← h2, ← List.drop_eq_getElem_cons h1, List.take_append_drop]) hx)
        simp only [Option.isSome_none] at H1
        clear hx hp
        go_wp2_with fail
        refine H1.out.mono ?_
        rintro e w2 ⟨y, rfl, _, hb⟩
        have B2 := hideIt (below_then (below_then B1.out HB.out) (below_one hb (.cells #[.string (strOf y.1), .string (strOf y.2)] 30)))
        clear hb H1
        unfold pairV
        go_wp2_with fail
        go_ret2
        exact ⟨_, by rw [E.out]; rfl, by rw [E.out]; exact POwn.nil _ _, B2.out⟩
      | some x =>
        rw [hx] at H1
        have N : Hid (allSome ((P.take (j + 1)).map cookieL) = some (d ++ [x])) := hideIt (by rw [take_more HPJ.out]; exact allSome_snoc HD.out hx)
        simp only [Option.isSome_some] at H1
        clear hx hp
        go_wp2_with fail
        refine H1.out.mono ?_
        rintro e w2 ⟨y, rfl, hy, hb⟩
        obtain rfl := hy x rfl
        unfold pairV
        have P2 := hideIt (PCell.new w2 y)
        have B2 := hideIt (below_then HB.out (below_one hb (.cells #[.string (strOf y.1), .string (strOf y.2)] 30)))
        have O2 := hideIt ((HO.out.keep hb).keep (below_new w2 (.cells #[.string (strOf y.1), .string (strOf y.2)] 30)))
        have q0 := P2.out.cell0
        have q1 := P2.out.cell1
        clear hb H1 HB HO k0 k0' hy
        go_upto_region 11 with fail
        generalize w2.alloc (.cells #[.string (strOf y.1), .string (strOf y.2)] 30) = X1 at *
        generalize w2.heap.size = g1 at *
        go_wp2_with (at_builtin; refine wpList_appP1 rfl (.tmp 29) (.tmp 31) rfl w1.heap.size _ d y rfl O2.out rfl HDL.out B2.out.size ?_)
        intro v4 w4 o4 g4
        have O4 := hideIt o4
        have B4 : Hid (Below w1.heap.size w1 w4) := hideIt (B2.out.trans (g4 _ (Nat.le_refl _)))
        clear o4 g4 q0 q1 P2 B2 O2
        go_wp2_with fail
        go_roundw
        case rel => exact ⟨j + 1, d ++ [y], by go_num, by omega, O4.out, N.out, B4.out⟩
        case measure => simp [intOf]; omega
    · obtain rfl : j = P.length := by omega
      have E : Hid (RR = some d) := hideIt (ED.out d (by rw [← HD.out, List.take_length]))
      have O2 := hideIt (HO.out.base B1.out.size)
      have B2 := hideIt (below_then B1.out HB.out)
      clear HO HB HD
      go_wp2_with fail
      go_ret2
      exact ⟨_, by rw [E.out]; rfl, by rw [E.out]; exact O2.out, B2.out⟩
theorem go_rcparse : goFn Tryd.prog 27 = true := by kernel_rfl
end Go.Proofs.YtjfmlfakdijfjaaDoor
