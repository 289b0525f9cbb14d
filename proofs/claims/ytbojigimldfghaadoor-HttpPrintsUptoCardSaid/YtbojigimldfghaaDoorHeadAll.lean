/- Contract of head.All. -/
import Derived.Test.YtbojigimldfghaaDoorHeadPrint
import Derived.Test.YtbojigimldfghaaDoorClone
import Derived.Test.YtbojigimldfghaaDoorTexts
namespace Go.Proofs.YtbojigimldfghaaDoor
open Go.ChangeShapes Go.WideShapes Go.ChangeAt Go.RowKit
set_option linter.unusedVariables false
set_option linter.unusedSimpArgs false

theorem all_succ (ps : List PairL) (n : List UInt8) (j : Nat) (x : PairL) (h : ps[j]? = some x) : allL (ps.take (j + 1)) n = allL (ps.take j) n ++ if sameL x.1 n then [x.2] else [] := by
  rw [allL, List.take_add_one, List.filter_append, List.map_append, h]
  cases hs : sameL x.1 n <;> simp [allL, List.filter_cons, hs]
theorem all_le (ps : List PairL) (n : List UInt8) (j : Nat) : (allL (ps.take j) n).length ≤ j := by
  rw [allL, List.length_map]
  exact Nat.le_trans (List.length_filter_le ..) (by simp; omega)
set_option maxRecDepth 8000 in
set_option maxHeartbeats 2000000 in
theorem hall_any (A : Option Addr) (n c : Nat) (ps : List PairL) (name : List UInt8) (w : World) (hp : PairsAt w A ps) (hn : ps.length = n) (hl : n ≤ 100000) (hnm : name.length ≤ 1000000) (hv : ∀ x ∈ ps, x.1.length ≤ 140737488355328 ∧ x.2.length ≤ 140737488355328) (hnc : n ≤ c) (hcc : c ≤ 9223372036854775807) :
    Calls Tryd.prog 53 #[.slice A n c, .string (strOf name)] w fun e w' => ∃ v, e = .returned v ∧ SOwn w.heap.size v (allL ps name) w' ∧ Below w.heap.size w w' := by
  have HP := hideIt hp
  have HV := hideIt hv
  clear hp hv
  subst hn
  have HALL : Hid (allL (ps.take ps.length) name = allL ps name) := hideIt (by rw [List.take_length])
  obtain ⟨RR, hRR⟩ : ∃ R, allL ps name = R := ⟨_, rfl⟩
  rw [hRR] at HALL ⊢
  clear hRR
  go_enter Tryd.func53, Tryd.ntmps53
  go_wp2
  go_loopw [5, 10] (fun v i wr => ∃ j : Nat, j ≤ ps.length ∧ i = .int .i64 (j : Int) ∧ SOwn w.heap.size v (allL (ps.take j) name) wr ∧ Below w.heap.size w wr) (fun v i wr => ps.length - (intOf i).toNat)
  case atStart => exact ⟨0, by omega, rfl, SOwn.nil _ _, Below.refl _ _⟩
  case round =>
    obtain ⟨j, hj, rfl, ho, hb⟩ := hrel
    have HO := hideIt ho
    have HB := hideIt hb
    clear ho hb
    have hle := all_le ps name j
    by_cases hlt : j < ps.length
    · have hji : (j : Int) < (ps.length : Int) := by omega
      obtain ⟨x, hx⟩ : ∃ x, ps[j]? = some x := ⟨_, List.getElem?_eq_getElem hlt⟩
      obtain ⟨hv1, hv2⟩ := HV.out x (List.mem_of_getElem? hx)
      obtain ⟨b, off, rfl, hlt2, hc⟩ := (HP.out.keep HB.out) (by omega)
      obtain ⟨c1, c2⟩ := hc j x hx
      have HX := hideIt (all_succ ps name j x hx)
      clear hc hx
      rw [show off + 2 * j = off + j * 2 by omega] at c1 c2
      have P1 := hideIt (PCell.new wr x)
      have B1 := hideIt (below_then HB.out (below_new wr (.cells #[.string (strOf x.1), .string (strOf x.2)] 40)))
      have O1 := hideIt (HO.out.keep (below_new wr (.cells #[.string (strOf x.1), .string (strOf x.2)] 40)))
      have HS := hideIt (fun w => same_any x.1 name w (by omega) hv1 (by omega))
      have HC := hideIt (fun w => clone_any (strOf x.2) w (by rw [strOf_size]; exact hv2))
      have hwj : IntKind.i64.wrap ((j : Int) + 1) = (j : Int) + 1 := IntWalk.i64_in _ (by omega)
      clear HB HO hv1 hv2
      generalize allL (ps.take j) name = done at *
      cases hs : sameL x.1 name
      · rw [hs] at HS HX
        clear hs
        go_wp2_with fail
        refine (HS.out _).mono ?_
        rintro e w2 ⟨rfl, hb2⟩
        have B2 := hideIt (below_then B1.out hb2)
        have O2 := hideIt (O1.out.keep hb2)
        clear hb2 HS HC B1 O1 P1
        go_wp2_with fail
        go_roundw
        case rel => exact ⟨j + 1, by omega, by go_num, by rw [HX.out]; simpa using O2.out, B2.out⟩
        case measure => simp [intOf]; omega
      · rw [hs] at HS HX
        clear hs
        go_wp2_with fail
        refine (HS.out _).mono ?_
        rintro e w2 ⟨rfl, hb2⟩
        have B2 := hideIt (below_then B1.out hb2)
        have O2 := hideIt (O1.out.keep hb2)
        have P2 := P1.out.keep hb2 P1.out.lt
        have q0 := P2.cell0
        have q1 := P2.cell1
        clear hb2 HS B1 O1 P1 P2
        go_wp2_with fail
        refine (HC.out _).mono ?_
        rintro e w3 ⟨rfl, hb3⟩
        have B3 := hideIt (below_then B2.out hb3)
        have O3 := hideIt (O2.out.keep hb3)
        clear hb3 HC B2 O2 q0 q1
        go_wp2_with (at_builtin; refine wpList_appT1 rfl (.tmp 18) (.tmp 22) rfl w.heap.size _ done x.2 rfl O3.out rfl (by omega) B3.out.size ?_)
        intro v4 w4 o4 g4
        have O4 := hideIt o4
        have B4 : Hid (Below w.heap.size w w4) := hideIt (B3.out.trans (g4 _ (Nat.le_refl _)))
        clear o4 g4 O3 B3
        go_wp2_with fail
        go_roundw
        case rel => exact ⟨j + 1, by omega, by go_num, by rw [HX.out]; exact O4.out, B4.out⟩
        case measure => simp [intOf]; omega
    · obtain rfl : j = ps.length := by omega
      rw [HALL.out] at HO
      go_wp2_with fail
      go_ret
      exact ⟨_, rfl, HO.out, HB.out⟩
theorem go_hall : goFn Tryd.prog 53 = true := by kernel_rfl
end Go.Proofs.YtbojigimldfghaaDoor
