/- Contract of fill.Parse. -/
import Derived.Test.YtccppgiigkmdbaaDoorFillCut
import Derived.Test.YtccppgiigkmdbaaDoorCount
import Derived.Test.YtccppgiigkmdbaaDoorFillUnesc
namespace Go.Proofs.YtccppgiigkmdbaaDoor
open Go.ChangeShapes Go.WideShapes Go.ChangeAt Go.RowKit
set_option linter.unusedVariables false
set_option linter.unusedSimpArgs false

theorem pieces_app (a b : List (List UInt8)) : piecesL (a ++ b) = (piecesL a).bind fun x => (piecesL b).map (x ++ ·) := by
  induction a with
  | nil => simp [piecesL]
  | cons p r ih =>
    rw [List.cons_append, piecesL, piecesL]
    cases pieceL p with
    | none => rfl
    | some x =>
      simp only []
      rw [ih]
      cases piecesL r with
      | none => rfl
      | some d =>
        cases piecesL b with
        | none => rfl
        | some e => rfl
theorem pieces_one (p : List UInt8) : piecesL [p] = (pieceL p).map (fun x => [x]) := by
  simp only [piecesL]
  cases pieceL p <;> rfl
theorem take_snoc {ps : List (List UInt8)} {j : Nat} {p : List UInt8} (h : ps[j]? = some p) : ps.take (j + 1) = ps.take j ++ [p] := by
  rw [List.take_add_one, h]; rfl
theorem pieces_step {ps : List (List UInt8)} {j : Nat} {p : List UInt8} {d : List PairL} {x : PairL} (h : ps[j]? = some p) (hd : piecesL (ps.take j) = some d) (hx : pieceL p = some x) : piecesL (ps.take (j + 1)) = some (d ++ [x]) := by
  rw [take_snoc h, pieces_app, hd, pieces_one, hx]; rfl
theorem pieces_bad {ps : List (List UInt8)} {j : Nat} {p : List UInt8} {d : List PairL} (h : ps[j]? = some p) (hd : piecesL (ps.take j) = some d) (hx : pieceL p = none) : piecesL ps = none := by
  rw [← List.take_append_drop (j + 1) ps, take_snoc h, pieces_app, pieces_app, hd, pieces_one, hx]; rfl
theorem pieces_len {ps : List (List UInt8)} {d : List PairL} (h : piecesL ps = some d) : d.length = ps.length := by
  induction ps generalizing d with
  | nil => simp [piecesL] at h; subst h; rfl
  | cons p r ih =>
    rw [piecesL] at h
    cases hp : pieceL p with
    | none => rw [hp] at h; cases h
    | some x =>
      rw [hp] at h
      simp only [] at h
      cases hr : piecesL r with
      | none => rw [hr] at h; cases h
      | some e => rw [hr] at h; simp at h; subst h; simp [ih hr]
/-- what the row holds, when j pieces are done -/
def rowAt (ps : List (List UInt8)) (d : List PairL) (j : Nat) : List PairL := d ++ (ps.drop j).map rawP
theorem rowAt_get {ps : List (List UInt8)} {d : List PairL} {j : Nat} {p : List UInt8} (h : ps[j]? = some p) (hd : d.length = j) : (rowAt ps d j)[j]? = some (rawP p) := by
  unfold rowAt
  rw [List.getElem?_append_right (by omega), hd, Nat.sub_self, List.getElem?_map, List.getElem?_drop]
  simp [h]
theorem rowAt_set {ps : List (List UInt8)} {d : List PairL} {j : Nat} {p : List UInt8} (x : PairL) (h : ps[j]? = some p) (hd : d.length = j) : (rowAt ps d j).set j x = rowAt ps (d ++ [x]) (j + 1) := by
  unfold rowAt
  have hj : j < ps.length := (List.getElem?_eq_some_iff.1 h).1
  rw [List.set_append_right _ _ (by omega), hd, Nat.sub_self, List.drop_eq_getElem_cons hj, List.map_cons, List.set_cons_zero, List.append_assoc]
  rfl
theorem rowAt_len {ps : List (List UInt8)} {d : List PairL} {j : Nat} (hj : j ≤ ps.length) (hd : d.length = j) : (rowAt ps d j).length = ps.length := by
  unfold rowAt; simp; omega
theorem POwn.stored {base g N cap : Nat} {ps : List PairL} {w : World} (h : POwn base (.slice (some ⟨g, 0, none⟩) N cap) ps w) (hN : ps.length = N) (j : Nat) (x : PairL) :
    POwn base (.slice (some ⟨g, 0, none⟩) N cap) (ps.set j x) ((w.setCell ⟨g, j * 2, none⟩ (.string (strOf x.1))).setCell ⟨g, j * 2 + 1, none⟩ (.string (strOf x.2))) ∧ w.grownBy ((w.setCell ⟨g, j * 2, none⟩ (.string (strOf x.1))).setCell ⟨g, j * 2 + 1, none⟩ (.string (strOf x.2))) (some g) := by
  subst hN
  have h1 := World.ownsRow.stored h (j * 2) (.string (strOf x.1))
  have h2 := World.ownsRow.stored h1.1 (j * 2 + 1) (.string (strOf x.2))
  refine ⟨?_, ?_⟩
  · have e := pairCells_set ps j x
    rw [show 2 * j = j * 2 by omega] at e
    unfold POwn
    rw [List.length_set, ← e]
    exact h2.1
  · refine ⟨h2.2.os.trans h1.2.os, h2.2.tape.trans h1.2.tape, h2.2.output.trans h1.2.output, Nat.le_trans h1.2.size h2.2.size, fun i hi hne => ?_⟩
    rw [h2.2.block i (Nat.lt_of_lt_of_le hi h1.2.size) hne, h1.2.block i hi hne]
theorem POwn.cells {base g N cap : Nat} {ps : List PairL} {w : World} (h : POwn base (.slice (some ⟨g, 0, none⟩) N cap) ps w) (hN : ps.length = N) {j : Nat} {x : PairL} (hj : ps[j]? = some x) :
    w.cell? ⟨g, j * 2, none⟩ = some (.string (strOf x.1)) ∧ w.cell? ⟨g, j * 2 + 1, none⟩ = some (.string (strOf x.2)) ∧ w.frozen? ⟨g, j * 2, none⟩ = false ∧ w.frozen? ⟨g, j * 2 + 1, none⟩ = false := by
  subst hN
  have hjl : j < ps.length := (List.getElem?_eq_some_iff.1 hj).1
  obtain ⟨h1, h2⟩ := pairCells_at ps j x hj
  rw [show 2 * j = j * 2 by omega] at h1 h2
  refine ⟨?_, ?_, World.ownsRow.frozenAt h _, World.ownsRow.frozenAt h _⟩
  · rw [World.ownsRow.cellAt h (j * 2) (by omega)]; exact h1
  · rw [World.ownsRow.cellAt h (j * 2 + 1) (by omega)]; exact h2
theorem POwn.form {base : Nat} {v : Value} {ps : List PairL} {w : World} (h : POwn base v ps w) (h0 : 0 < ps.length) : ∃ g cap, v = .slice (some ⟨g, 0, none⟩) ps.length cap ∧ base ≤ g ∧ g < w.heap.size ∧ ps.length ≤ cap ∧ cap ≤ maxLen := by
  have hlt := h.lt
  rcases h.2 with ⟨rfl, h1⟩ | ⟨g, cap, cur, rfl, hb, hg, hnc, hcm, _⟩
  · omega
  · exact ⟨g, cap, rfl, hb, (hlt g rfl).2, hnc, hcm⟩
theorem cutN_len (p : List UInt8) : (cutN p).length ≤ p.length := by
  by_cases h : ∀ j, j < p.length → p.getD j 0 ≠ 61
  · rw [(cut_none h).1]; exact Nat.le_refl _
  · have : ∃ k, k < p.length ∧ p.getD k 0 = 61 ∧ ∀ j, j < k → p.getD j 0 ≠ 61 := by
      apply Classical.byContradiction
      intro hn
      refine h fun j => ?_
      induction j using Nat.strongRecOn with
      | _ j ih => exact fun hj he => hn ⟨j, hj, he, fun i hi => ih i hi (by omega)⟩
    obtain ⟨k, hk, hc, hh⟩ := this
    rw [(cut_at hk hc hh).1, List.length_take]; omega
theorem cutV_len (p : List UInt8) : (cutV p).length ≤ p.length := by unfold cutV; simp
theorem split_mem_len (sep : UInt8) (l : List UInt8) : ∀ p ∈ splitL sep l, p.length ≤ l.length := by
  induction l with
  | nil => intro p hp; simp [splitL] at hp; subst hp; simp
  | cons a r ih =>
    intro p hp
    by_cases h : a = sep
    · subst h
      rw [split_sep] at hp
      rcases List.mem_cons.1 hp with rfl | hp
      · simp
      · have := ih p hp; simp; omega
    · obtain ⟨q, qs, h1, h2⟩ := split_other sep a r h
      rw [h2] at hp
      rw [h1] at ih
      rcases List.mem_cons.1 hp with rfl | hp
      · have := ih q (by simp); simp; omega
      · have := ih p (by simp [hp]); simp; omega
/-- how the loop of Parse stands -/
structure FPI (w : World) (ps : List (List UInt8)) (g cap : Nat) (j : Nat) (d : List PairL) (wr : World) : Prop where
  le : j ≤ ps.length
  done : piecesL (ps.take j) = some d
  own : POwn w.heap.size (.slice (some ⟨g, 0, none⟩) ps.length cap) (rowAt ps d j) wr
  below : Below w.heap.size w wr
theorem FPI.len {w : World} {ps : List (List UInt8)} {g cap j : Nat} {d : List PairL} {wr : World} (h : FPI w ps g cap j d wr) : d.length = j := by
  have := pieces_len h.done; rw [List.length_take] at this; have := h.le; omega
theorem FPI.next {w : World} {ps : List (List UInt8)} {g cap j : Nat} {d : List PairL} {wr w3 : World} (h : FPI w ps g cap j d wr) (hg : w.heap.size ≤ g ∧ g < wr.heap.size) (hb : Below wr.heap.size wr w3) {p : List UInt8} (hp : ps[j]? = some p) {x : PairL} (hx : pieceL p = some x) :
    FPI w ps g cap (j + 1) (d ++ [x]) ((w3.setCell ⟨g, j * 2, none⟩ (.string (strOf x.1))).setCell ⟨g, j * 2 + 1, none⟩ (.string (strOf x.2))) := by
  have hj : j < ps.length := (List.getElem?_eq_some_iff.1 hp).1
  have s := (h.own.keep hb).stored (rowAt_len h.le h.len) j x
  rw [rowAt_set x hp h.len] at s
  refine ⟨hj, pieces_step hp h.done hx, s.1, ?_⟩
  have hb2 := below_then h.below hb
  exact hb2.grown s.2 (by have := hb2.size; omega) (by intro y hy; cases hy; omega)
theorem parse_is (bs : List UInt8) (h0 : bs ≠ []) (h30 : (splitL 38 bs).length ≤ 30) : (∀ d, piecesL (splitL 38 bs) = some d → parseL bs = (d, 0)) ∧ (piecesL (splitL 38 bs) = none → parseL bs = ([], 10)) := by
  refine ⟨fun d hd => ?_, fun hd => ?_⟩ <;> (unfold parseL; rw [if_neg h0, if_neg (by omega), hd])
theorem piece_cases (p : List UInt8) : (unescL (cutN p) = none ∧ pieceL p = none) ∨ (∃ n, unescL (cutN p) = some n ∧ unescL (cutV p) = none ∧ pieceL p = none) ∨ (∃ v, unescL (cutN p) = some [] ∧ unescL (cutV p) = some v ∧ pieceL p = none) ∨ (∃ n v, unescL (cutN p) = some n ∧ unescL (cutV p) = some v ∧ n ≠ [] ∧ pieceL p = some (n, v)) := by
  unfold pieceL
  cases hn : unescL (cutN p) with
  | none => exact .inl ⟨rfl, rfl⟩
  | some n =>
    cases hv : unescL (cutV p) with
    | none => exact .inr (.inl ⟨n, rfl, rfl, rfl⟩)
    | some v =>
      by_cases h : n = []
      · subst h; exact .inr (.inr (.inl ⟨v, rfl, rfl, by simp⟩))
      · exact .inr (.inr (.inr ⟨n, v, rfl, rfl, h, by simp [h]⟩))
theorem strOf_some {l : List UInt8} (h : l ≠ []) : (strOf l).toList.isEmpty = false := by rw [strOf_toList, List.isEmpty_eq_false_iff]; exact h
set_option maxRecDepth 8000 in
set_option maxHeartbeats 2000000 in
theorem fparse_any (A : Option Addr) (bs : List UInt8) (n c : Nat) (w : World) (hp : PieceOk w ⟨A, c, bs⟩) (hn : bs.length = n) (hl : n ≤ 100000) :
    Calls Tryd.prog 22 #[.slice A n c] w fun e w' => ∃ v, e = .returned (.tuple #[v, .int .u16 ((parseL bs).2 : Int)]) ∧ POwn w.heap.size v (parseL bs).1 w' ∧ Below w.heap.size w w' := by
  have hfit : n ≤ c := by have := hp.fits; simp only at this; omega
  have hmost : c ≤ 9223372036854775807 := hp.most
  by_cases h0 : bs = []
  · subst h0
    obtain rfl : n = 0 := hn.symm
    have hr : parseL [] = ([], 0) := rfl
    have N0 := hideIt (POwn.nil w.heap.size w)
    rw [hr]
    clear hr
    go_enter Tryd.func22, Tryd.ntmps22
    go_wp2
    go_ret2
    exact ⟨_, rfl, N0.out, Below.refl _ _⟩
  · have hpos : 0 < n := by rw [← hn]; exact List.length_pos_iff.2 h0
    obtain ⟨w1, e1⟩ : ∃ w1, w.alloc (.cells #[.int .u8 38] 5) = w1 := ⟨_, rfl⟩
    have b1 : Below w.heap.size w w1 := by rw [← e1]; exact below_one (Below.refl _ _) _
    have c1 : w1.cell? ⟨w.heap.size, 0, none⟩ = some (.int .u8 38) := by rw [← e1, cell_of_row _ _ _ _ _ _ (heap_alloc_new w _)]; rfl
    have hp1 := hp.keep b1
    have HC := hideIt (count_any A bs n c w.heap.size 1 w1 hp1.bytes hn hpos c1)
    have hcl : bs.count 38 ≤ bs.length := List.count_le_length
    have hsc := split_count 38 bs
    have N1 := hideIt (POwn.nil w.heap.size w1)
    have B1 := hideIt b1
    have E1 := hideIt e1
    have hne : ((n : Int) == 0) = false := by rw [beq_eq_false_iff_ne]; omega
    by_cases h30 : 30 < (splitL 38 bs).length
    · have hr : parseL bs = ([], 3) := by unfold parseL; rw [if_neg h0, if_pos h30]
      rw [hr]
      have hk : (30 : Int) < (bs.count 38 : Int) + 1 := by omega
      have hk2 : (bs.count 38 : Int) ≤ 100000 := by omega
      have hk3 : (0 : Int) ≤ (bs.count 38 : Int) := by omega
      clear hr h30 hsc hcl hp hp1 h0 c1 e1 b1
      generalize (bs.count 38 : Int) = k at *
      go_enter Tryd.func22, Tryd.ntmps22
      go_wp2_with fail
      rw [E1.out]
      refine HC.out.mono ?_
      rintro e w2 ⟨rfl, rfl⟩
      go_wp2_with fail
      go_ret2
      exact ⟨_, rfl, N1.out, B1.out⟩
    · have hk : (bs.count 38 : Int) + 1 ≤ 30 := by omega
      have hk3 : (0 : Int) ≤ (bs.count 38 : Int) := by omega
      have PI := hideIt (parse_is bs h0 (by omega))
      have hcv : (convert 22 9 (.slice A n c)).run Tryd.prog w1 = .ok (.string (strOf bs)) w1 := conv_bytes A bs n c _ w1 hp1.bytes hn
      have HCut := hideIt (cut_any bs w1 (by omega))
      have hml : ∀ p ∈ splitL 38 bs, p.length ≤ 100000 := fun p hp => by have := split_mem_len 38 bs p hp; omega
      have ML := hideIt hml
      have hlen : Hid (0 < (splitL 38 bs).length ∧ (splitL 38 bs).length ≤ 30) := hideIt (by omega)
      clear hsc hcl hp hp1 h0 c1 e1 b1 h30 hml
      generalize splitL 38 bs = ps at *
      generalize (bs.count 38 : Int) = k at *
      go_enter Tryd.func22, Tryd.ntmps22
      go_wp2_with fail
      rw [E1.out]
      refine HC.out.mono ?_
      rintro e w2 ⟨rfl, rfl⟩
      go_wp2_with fail
      refine HCut.out.mono ?_
      rintro e w2 ⟨v, rfl, ho, hb⟩
      have hb2 := below_then B1.out hb
      obtain ⟨g, cap, rfl, hg1, hg2, hc1, hc2⟩ := ho.form (by rw [List.length_map]; exact hlen.out.1)
      rw [List.length_map] at ho hc1 ⊢
      have I0 : Hid (FPI w ps g cap 0 [] w2) := hideIt ⟨Nat.zero_le _, rfl, by unfold rowAt; simpa using ho.base B1.out.size, hb2⟩
      have G0 : Hid (w.heap.size ≤ g ∧ g < w2.heap.size) := hideIt ⟨Nat.le_trans B1.out.size hg1, hg2⟩
      clear ho hb hb2 hg1 hg2 HCut HC hcv N1 E1 B1 hk hk3
      have hN1 := hlen.out.1
      have hN2 := hlen.out.2
      unfold maxLen at hc2
      go_wp2_with fail
      go_loopw [24] (fun i wr => ∃ (j : Nat) (d : List PairL), i = .int .i64 j ∧ FPI w ps g cap j d wr ∧ w2.heap.size ≤ wr.heap.size) (fun i wr => ps.length - (intOf i).toNat)
      case atStart => exact ⟨0, [], rfl, I0.out, Nat.le_refl _⟩
      case round =>
        obtain ⟨j, d, rfl, hI, hsz⟩ := hrel
        have HI := hideIt hI
        have HSZ := hideIt hsz
        have hjle := hI.le
        clear hI hsz I0
        by_cases hlt : j < ps.length
        · have hji : (j : Int) < (ps.length : Int) := by omega
          obtain ⟨p, hpj⟩ : ∃ p, ps[j]? = some p := ⟨_, List.getElem?_eq_getElem hlt⟩
          have hpl := ML.out p (List.mem_of_getElem? hpj)
          obtain ⟨k1, k2, -, -⟩ := HI.out.own.cells (rowAt_len HI.out.le HI.out.len) (rowAt_get hpj HI.out.len)
          simp only [rawP] at k1 k2
          obtain ⟨wp, ewp⟩ : ∃ wp, wr.alloc (.cells #[.string (strOf (cutN p)), .string (strOf (cutV p))] 33) = wp := ⟨_, rfl⟩
          have bp : Below wr.heap.size wr wp := by rw [← ewp]; exact below_one (Below.refl _ _) _
          have rp : wp.heap[wr.heap.size]? = some (.cells #[.string (strOf (cutN p)), .string (strOf (cutV p))] 33 (0, 0)) := by rw [← ewp]; exact heap_alloc_new wr _
          have HU1 := hideIt (unescape_any (cutN p) wp (by have := cutN_len p; omega))
          have hU2 : ∀ W, Calls Tryd.prog 21 #[.string (strOf (cutV p))] W fun e w' => e = .returned (.tuple #[.string (strOf ((unescL (cutV p)).getD [])), .bool (unescL (cutV p)).isSome]) ∧ Below W.heap.size W w' := fun W => unescape_any (cutV p) W (by have := cutV_len p; omega)
          have HU2 := hideIt hU2
          have EWP := hideIt ewp
          have BP := hideIt bp
          have RP := hideIt rp
          have HPJ := hideIt hpj
          have PC := hideIt (piece_cases p)
          clear hU2 ewp bp rp hpj hpl
          rcases PC.out with ⟨hn1, hpx⟩ | ⟨nn, hn1, hv1, hpx⟩ | ⟨vv, hn1, hv1, hpx⟩ | ⟨nn, vv, hn1, hv1, hnn, hpx⟩
          · rw [hn1] at HU1
            simp only [Option.getD_none, Option.isSome_none] at HU1
            generalize (unescL (cutV p)).isSome = bo at *
            generalize (unescL (cutV p)).getD [] = so at *
            go_wp2_with fail
            rw [EWP.out]
            refine HU1.out.mono ?_
            rintro e w3 ⟨rfl, hb3⟩
            have r3 := (hb3.block wr.heap.size (by have := (Array.getElem?_eq_some_iff.1 RP.out).1; omega)).trans RP.out
            have c2 : w3.cell? ⟨wr.heap.size, 1, none⟩ = some (.string (strOf (cutV p))) := by rw [cell_of_row _ _ _ _ _ _ r3]; rfl
            have B3 := hideIt (below_then BP.out hb3)
            clear hb3 r3
            go_wp2_with fail
            refine (HU2.out w3).mono ?_
            rintro e w4 ⟨rfl, hb4⟩
            have B4 := hideIt (below_then B3.out hb4)
            have F := hideIt (below_then HI.out.below B4.out)
            have N4 := hideIt (POwn.nil w.heap.size w4)
            have R : Hid (parseL bs = ([], 10)) := hideIt (PI.out.2 (pieces_bad HPJ.out HI.out.done hpx))
            clear hb4 c2 hpx HI PI ML B3 B4 HU1 HU2 k1 k2
            go_wp2_with fail
            go_ret2
            exact ⟨_, by rw [R.out]; rfl, by rw [R.out]; exact N4.out, F.out⟩
          · rw [hn1] at HU1
            rw [hv1] at HU2
            simp only [Option.getD_some, Option.getD_none, Option.isSome_some, Option.isSome_none] at HU1 HU2
            go_wp2_with fail
            rw [EWP.out]
            refine HU1.out.mono ?_
            rintro e w3 ⟨rfl, hb3⟩
            have r3 := (hb3.block wr.heap.size (by have := (Array.getElem?_eq_some_iff.1 RP.out).1; omega)).trans RP.out
            have c2 : w3.cell? ⟨wr.heap.size, 1, none⟩ = some (.string (strOf (cutV p))) := by rw [cell_of_row _ _ _ _ _ _ r3]; rfl
            have B3 := hideIt (below_then BP.out hb3)
            clear hb3 r3
            go_wp2_with fail
            refine (HU2.out w3).mono ?_
            rintro e w4 ⟨rfl, hb4⟩
            have B4 := hideIt (below_then B3.out hb4)
            have F := hideIt (below_then HI.out.below B4.out)
            have N4 := hideIt (POwn.nil w.heap.size w4)
            have R : Hid (parseL bs = ([], 10)) := hideIt (PI.out.2 (pieces_bad HPJ.out HI.out.done hpx))
            clear hb4 c2 hpx HI PI ML B3 B4 HU1 HU2 k1 k2
            go_wp2_with fail
            go_ret2
            exact ⟨_, by rw [R.out]; rfl, by rw [R.out]; exact N4.out, F.out⟩
          · rw [hn1] at HU1
            rw [hv1] at HU2
            simp only [Option.getD_some, Option.isSome_some] at HU1 HU2
            rw [show strOf [] = ⟨#[]⟩ from rfl] at HU1
            go_wp2_with fail
            rw [EWP.out]
            refine HU1.out.mono ?_
            rintro e w3 ⟨rfl, hb3⟩
            have r3 := (hb3.block wr.heap.size (by have := (Array.getElem?_eq_some_iff.1 RP.out).1; omega)).trans RP.out
            have c2 : w3.cell? ⟨wr.heap.size, 1, none⟩ = some (.string (strOf (cutV p))) := by rw [cell_of_row _ _ _ _ _ _ r3]; rfl
            have B3 := hideIt (below_then BP.out hb3)
            clear hb3 r3
            go_wp2_with fail
            refine (HU2.out w3).mono ?_
            rintro e w4 ⟨rfl, hb4⟩
            have B4 := hideIt (below_then B3.out hb4)
            have F := hideIt (below_then HI.out.below B4.out)
            have N4 := hideIt (POwn.nil w.heap.size w4)
            have R : Hid (parseL bs = ([], 10)) := hideIt (PI.out.2 (pieces_bad HPJ.out HI.out.done hpx))
            clear hb4 c2 hpx HI PI ML B3 B4 HU1 HU2 k1 k2
            go_wp2_with fail
            go_ret2
            exact ⟨_, by rw [R.out]; rfl, by rw [R.out]; exact N4.out, F.out⟩
          · rw [hn1] at HU1
            rw [hv1] at HU2
            simp only [Option.getD_some, Option.isSome_some] at HU1 HU2
            go_wp2_with fail
            rw [EWP.out]
            refine HU1.out.mono ?_
            rintro e w3 ⟨rfl, hb3⟩
            have r3 := (hb3.block wr.heap.size (by have := (Array.getElem?_eq_some_iff.1 RP.out).1; omega)).trans RP.out
            have c2 : w3.cell? ⟨wr.heap.size, 1, none⟩ = some (.string (strOf (cutV p))) := by rw [cell_of_row _ _ _ _ _ _ r3]; rfl
            have B3 := hideIt (below_then BP.out hb3)
            clear hb3 r3
            go_wp2_with fail
            refine (HU2.out w3).mono ?_
            rintro e w4 ⟨rfl, hb4⟩
            have B4 := hideIt (below_then B3.out hb4)
            have I4 := hideIt (HI.out.next ⟨G0.out.1, by have := G0.out.2; have := HSZ.out; omega⟩ B4.out HPJ.out hpx)
            obtain ⟨k3, k4, k5, k6⟩ := (HI.out.own.keep B4.out).cells (rowAt_len HI.out.le HI.out.len) (rowAt_get HPJ.out HI.out.len)
            simp only [rawP] at k3 k4
            have S4 : Hid (w2.heap.size ≤ ((w4.setCell ⟨g, j * 2, none⟩ (.string (strOf nn))).setCell ⟨g, j * 2 + 1, none⟩ (.string (strOf vv))).heap.size) := hideIt (by have h1 := HSZ.out; have h2 := B4.out.size; simp only [World.size_setCell]; omega)
            have hne2 : (strOf nn).toList.isEmpty = false := strOf_some hnn
            simp only [] at I4
            clear hb4 c2 hpx PI ML B3 B4 HU1 HU2 k1 k2 HI hnn
            go_wp2_with fail
            go_roundw
            case rel => exact ⟨j + 1, _, by go_num, I4.out, S4.out⟩
            case measure => simp [intOf]; omega
        · obtain rfl : j = ps.length := by omega
          have hd : piecesL ps = some d := by have := HI.out.done; rwa [List.take_length] at this
          have R : Hid (parseL bs = (d, 0)) := hideIt (PI.out.1 d hd)
          have O : Hid (POwn w.heap.size (.slice (some ⟨g, 0, none⟩) ps.length cap) d wr ∧ Below w.heap.size w wr) := hideIt ⟨by have := HI.out.own; unfold rowAt at this; simpa using this, HI.out.below⟩
          clear hd HI
          go_wp2_with fail
          go_ret2
          exact ⟨_, by rw [R.out]; rfl, by rw [R.out]; exact O.out.1, O.out.2⟩
theorem go_fparse : goFn Tryd.prog 22 = true := by kernel_rfl
end Go.Proofs.YtccppgiigkmdbaaDoor
