/- The contracts of slices.Grow from nothing, and of slices.Concat, of rows of bytes. -/
import Derived.Test.YtflbdjlmkmmahaaDoorZeros
import Derived.Test.YtflbdjlmkmmahaaDoorShaOne
import Derived.Test.YtflbdjlmkmmahaaDoorSlices
namespace Go.Proofs.YtflbdjlmkmmahaaDoor
open Go.ChangeShapes Go.WideShapes Go.ChangeAt Go.RowKit
set_option linter.unusedVariables false

/-- an own row that has bytes has a place -/
theorem own_some1 {w : World} {base n : Nat} {e : TypeId} {v : Value} {xs : List Value} (h : w.ownsRow base e 1 v n xs) (hn : 1 ≤ n) : ∃ g cap, v = .slice (some ⟨g, 0, none⟩) n cap ∧ n ≤ cap ∧ cap ≤ maxLen := by
  rcases h.2 with ⟨_, h0⟩ | ⟨g, cap, cur, rfl, hb, hg, hnc, hcm, _⟩
  · omega
  · exact ⟨g, cap, rfl, hnc, hcm⟩
/-- an own row, cut to nothing -/
theorem own_cut0 {w : World} {base g n cap : Nat} {e : TypeId} {xs : List Value} (h : w.ownsRow base e 1 (.slice (some ⟨g, 0, none⟩) n cap) n xs) : w.ownsRow base e 1 (.slice (some ⟨g, 0, none⟩) 0 cap) 0 (cellsOf []) := by
  rcases h.2 with ⟨h0, _⟩ | ⟨g', cap', cur, hv, hb, hg, hnc, hcm, hs, ht⟩
  · cases h0
  · cases hv
    exact ⟨rfl, .inr ⟨g, cap, cur, rfl, hb, hg, Nat.zero_le _, hcm, hs, by simp [cellsOf]⟩⟩
/-- an own row of whatever room, as a piece -/
theorem own_piece2 {w : World} {base n : Nat} {v : Value} {bs : List UInt8} (h : w.ownsRow base 5 1 v n (cellsOf bs)) (hn : n ≤ 140737488355328) : ∃ A c, v = .slice A n c ∧ bs.length = n ∧ PieceOk w ⟨A, c, bs⟩ := by
  obtain ⟨A, c, e, hl, hlc, hcm, hnil, hb⟩ := own_open h
  exact ⟨A, c, e, hl, hb, by simp only; omega, by simp only; unfold maxLen at hcm; omega, by simp only; omega, hnil⟩

set_option maxHeartbeats 400000 in
theorem grow_nil (m : Nat) (w : World) (h1 : 1 ≤ m) (hm : m ≤ 1000000) :
    Calls Tryd.prog 30 #[.slice none 0 0, .int .i64 (m : Int)] w fun e w' => ∃ v, e = .returned v ∧ w'.ownsRow w.heap.size 5 1 v 0 (cellsOf []) ∧ Below w.heap.size w w' := by
  have h1' : (1 : Int) ≤ (m : Int) := by omega
  go_enter Tryd.func30, Tryd.ntmps30
  go_wp2_with (at_builtin; refine wpList_app0 rfl (.tmp 20) (.tmp 21) rfl w.heap.size (.slice none 0 0) 0 [] rfl (own_none _ _ _) m (by go_num) (by omega) (Nat.le_refl _) ?_; intro v' w1 o1 g1; obtain ⟨g, cap, rfl, hc1, hc2⟩ := own_some1 o1 (by omega))
  go_ret
  exact ⟨_, rfl, own_cut0 o1, below_made g1⟩

theorem own_from {w : World} {base n : Nat} {e : TypeId} {v : Value} {xs : List Value} (h : w.ownsRow base e 1 v n xs) {k : Nat} (hk : v.ownBlock = some k) : base ≤ k := by
  rcases h.2 with ⟨rfl, _⟩ | ⟨g, cap, cur, rfl, hb, _⟩
  · cases hk
  · cases hk; exact hb
theorem allL_take_le (ps : List Piece) (j : Nat) : (allL (ps.take j)).length ≤ (allL ps).length := by
  induction ps generalizing j with
  | nil => simp [allL]
  | cons p ps ih =>
    cases j with
    | zero => simp [allL]
    | succ j =>
      have := ih j
      simp only [allL, List.take_succ_cons, List.flatMap_cons, List.length_append] at *
      omega
set_option maxHeartbeats 1000000 in
theorem concat_any (L : Nat) (cs : Array Value) (ty : TypeId) (ps : List Piece) (n cp : Nat) (w : World) (hL : w.heap[L]? = some (.cells cs ty (0, 0))) (hcs : cs.toList = ps.map Piece.val) (hp : ∀ p ∈ ps, PieceOk w p) (hn : ps.length = n) (hn1 : n ≤ 1000) (l : List UInt8) (hl : allL ps = l) (h1 : 1 ≤ l.length) (hm : l.length ≤ 1000000) :
    Calls Tryd.prog 21 #[.slice (some ⟨L, 0, none⟩) n cp] w fun e w' => ∃ v, e = .returned v ∧ w'.ownsRow w.heap.size 5 1 v l.length (cellsOf l) ∧ Below w.heap.size w w' := by
  subst hl hn
  have hLt : L < w.heap.size := (Array.getElem?_eq_some_iff.1 hL).1
  have hcell : ∀ (j : Nat) (h : j < ps.length), w.cell? ⟨L, j, none⟩ = some (ps[j]).val := fun j hj => by
    rw [cell_of_row w _ _ _ _ _ hL, ← Array.getElem?_toList, hcs]
    simp [hj]
  have HC := hideIt hcell
  have HP := hideIt hp
  have HM := hideIt hm
  have EA : Hid (allL (ps.take 0) = []) := hideIt rfl
  have EZ : Hid (allL (ps.take ps.length) = allL ps) := hideIt (by rw [List.take_of_length_le (Nat.le_refl _)])
  clear hcell hp hL hcs hm
  go_enter Tryd.func21, Tryd.ntmps21
  go_wp2_with fail
  go_loopw [3, 11] (fun s i wr => ∃ j : Nat, j ≤ ps.length ∧ i = .int .i64 j ∧ s = .int .i64 ((allL (ps.take j)).length : Nat) ∧ wr = w) (fun _ i _ => ps.length - (intOf i).toNat)
  case atStart => exact ⟨0, by omega, rfl, by rw [EA.out]; rfl, rfl⟩
  case round =>
    obtain ⟨j, hj, rfl, rfl, hw⟩ := hrel
    replace hw := hw.symm
    subst hw
    by_cases hlt : j < ps.length
    · have hc := HC.out j hlt
      have HN : Hid ((allL (ps.take (j + 1))).length = (allL (ps.take j)).length + (ps[j]).bs.length) := hideIt (by rw [allL_next ps j hlt, List.length_append])
      have hle := allL_take_le ps (j + 1)
      rw [HN.out] at hle
      have hmm := HM.out
      generalize ps[j] = pc at *
      obtain ⟨A, c, bs⟩ := pc
      replace hc : w.cell? ⟨L, j, none⟩ = some (.slice A bs.length c) := hc
      simp only at hle
      generalize (allL (ps.take j)).length = k at *
      generalize bs.length = m at *
      have hji : (j : Int) < (ps.length : Int) := by omega
      go_wp2_with fail
      go_roundw
      case rel => exact ⟨j + 1, by omega, by go_num, by rw [HN.out]; go_num, by first | rfl | trivial⟩
      case measure => simp [intOf]; omega
    · obtain rfl : j = ps.length := by omega
      rw [EZ.out]
      have hg := grow_nil (allL ps).length w h1 HM.out
      go_wp2_with fail
      refine hg.mono ?_
      rintro e w1 ⟨v, rfl, o1, b1⟩
      clear hg
      have O1 := hideIt o1
      have B1 := hideIt b1
      clear o1 b1
      go_wp2_with fail
      go_loopw [6, 27] (fun v i wr => ∃ j : Nat, j ≤ ps.length ∧ i = .int .i64 j ∧ wr.ownsRow w.heap.size 5 1 v (allL (ps.take j)).length (cellsOf (allL (ps.take j))) ∧ Below w.heap.size w wr) (fun _ i _ => ps.length - (intOf i).toNat)
      case atStart => exact ⟨0, by omega, rfl, by rw [EA.out]; exact O1.out, B1.out⟩
      case round =>
        clear O1 B1
        obtain ⟨j, hj, rfl, o2, b2⟩ := hrel
        by_cases hlt : j < ps.length
        · have hc := (b2.cell (p := ⟨L, j, none⟩) hLt).trans (HC.out j hlt)
          have hpj := (HP.out (ps[j]) (List.getElem_mem hlt)).keep b2
          have HN : Hid (allL (ps.take (j + 1)) = allL (ps.take j) ++ (ps[j]).bs) := hideIt (allL_next ps j hlt)
          have hle := allL_take_le ps (j + 1)
          rw [HN.out, List.length_append] at hle
          have hmm := HM.out
          generalize ps[j] = pc at *
          obtain ⟨A, c, bs⟩ := pc
          replace hc : wr.cell? ⟨L, j, none⟩ = some (.slice A bs.length c) := hc
          simp only at hle
          have hji : (j : Int) < (ps.length : Int) := by omega
          have O2 := hideIt o2
          have B2 := hideIt b2
          have PJ := hideIt hpj
          have HL : Hid ((allL (ps.take j)).length + bs.length ≤ 140737488355328) := hideIt (by omega)
          clear o2 b2 hpj hle hmm
          go_wp2_with (at_builtin; refine wpList_app rfl (.tmp 31) (.tmp 32) rfl w.heap.size _ (allL (ps.take j)).length (allL (ps.take j)) rfl (by exact O2.out) A bs.length c wr.heap.size bs rfl rfl PJ.out.nil PJ.out.bytes HL.out B2.out.size ?_; intro v3 w3 o3 g3; have O3 : Hid (_ ∧ _) := hideIt ⟨o3, B2.out.grown g3 B2.out.size (by have := O2.out; intro x hx; exact own_from this hx)⟩; clear o3 g3)
          go_roundw
          case rel => exact ⟨j + 1, by omega, by go_num, by rw [HN.out, List.length_append]; exact O3.out.1, O3.out.2⟩
          case measure => simp [intOf]; omega
        · obtain rfl : j = ps.length := by omega
          rw [EZ.out] at o2
          have R : Hid (_ ∧ _) := hideIt ⟨o2, b2⟩
          clear o2 b2
          go_wp2_with fail
          go_ret
          exact ⟨_, rfl, R.out.1, R.out.2⟩
end Go.Proofs.YtflbdjlmkmmahaaDoor
