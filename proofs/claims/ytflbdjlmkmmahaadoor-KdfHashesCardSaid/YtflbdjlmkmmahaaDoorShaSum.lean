/- The contract of sha.Sum: the sum of bytes, in whatever pieces they come. -/
import Derived.Test.YtflbdjlmkmmahaaDoorShaTake2
namespace Go.Proofs.YtflbdjlmkmmahaaDoor
open Go.ChangeShapes Go.WideShapes Go.ChangeAt Go.RowKit
set_option linter.unusedVariables false
set_option linter.unusedSimpArgs false

/-- a piece of bytes: where it lies, its room, what it holds -/
structure Piece where
  A : Option Addr
  c : Nat
  bs : List UInt8
def Piece.val (p : Piece) : Value := .slice p.A p.bs.length p.c
structure PieceOk (w : World) (p : Piece) : Prop where
  bytes : BytesAt w w.heap.size p.A p.bs
  fits : p.bs.length ≤ p.c
  most : p.c ≤ 9223372036854775807
  long : p.bs.length ≤ 140737488355328
  nil : p.A = none → p.c = 0
/-- all bytes of pieces -/
def allL (ps : List Piece) : List UInt8 := ps.flatMap (·.bs)
def ListAt (w : World) (L : Option Addr) (ps : List Piece) : Prop :=
  0 < ps.length → ∃ b off, L = some ⟨b, off, none⟩ ∧ b < w.heap.size ∧ ∀ j (h : j < ps.length), w.cell? ⟨b, off + j, none⟩ = some (ps[j]).val
theorem PieceOk.keep {w w' : World} {p : Piece} (h : PieceOk w p) (hb : Below w.heap.size w w') : PieceOk w' p :=
  ⟨(h.bytes.keep fun p hp => hb.cell hp).more hb.size, h.fits, h.most, h.long, h.nil⟩
theorem allL_next (ps : List Piece) (j : Nat) (h : j < ps.length) : allL (ps.take (j + 1)) = allL (ps.take j) ++ (ps[j]).bs := by
  rw [List.take_succ_eq_append_getElem h, allL, allL, List.flatMap_append]; simp
theorem allL_len (ps : List Piece) (k : Nat) (h : ∀ p ∈ ps, p.bs.length ≤ 140737488355328) (hk : ps.length ≤ k) : (allL ps).length ≤ k * 140737488355328 := by
  induction ps generalizing k with
  | nil => simp [allL]
  | cons p ps ih =>
    have h1 := h p (by simp)
    simp only [List.length_cons] at hk
    have h2 := ih (k - 1) (fun q hq => h q (by simp [hq])) (by omega)
    have e : allL (p :: ps) = p.bs ++ allL ps := rfl
    rw [e, List.length_append]
    have : k * 140737488355328 = (k - 1) * 140737488355328 + 140737488355328 := by
      rw [← Nat.succ_mul]; congr 1; omega
    omega

/-- what stands in the midst of summing: S is what has been taken -/
structure SumAt (w wr : World) (g : Nat) (S : List UInt8) : Prop where
  now : Arr wr w.heap.size 47 (chainL firstL S)
  own : wr.ownsRow g 5 1 (.slice (some ⟨g, 0, none⟩) (tailL S).length 64) (tailL S).length (cellsOf (tailL S))
  below : Below w.heap.size w wr
  tabs : Tabs wr
  big : w.heap.size < g
  old : 2 ≤ w.heap.size
theorem SumAt.drew {w wr : World} {g : Nat} {S : List UInt8} (h : SumAt w wr g S) : SumAt w wr.drew g S := ⟨h.now, h.own, h.below.drew, h.tabs, h.big, h.old⟩
theorem SumAt.keep {w wr w2 : World} {g : Nat} {S : List UInt8} (h : SumAt w wr g S) (hb : Below wr.heap.size wr w2) : SumAt w w2 g S :=
  ⟨h.now.keep hb, own_keep h.own (hb.block g (own_lt h.own).2), h.below.trans (hb.mono h.below.size), h.tabs.keep hb, h.big, h.old⟩
theorem SumAt.next {w wr w2 : World} {g : Nat} {S : List UInt8} {bs : List UInt8} (h : SumAt w wr g S) (ho : w2.ownsRow g 5 1 (.slice (some ⟨g, 0, none⟩) (tailL (tailL S ++ bs)).length 64) (tailL (tailL S ++ bs)).length (cellsOf (tailL (tailL S ++ bs))))
    (hg : wr.grownBy w2 (some g)) : SumAt w (w2.setRow w.heap.size (wordsC (chainL firstL (S ++ bs)))) g (S ++ bs) := by
  have hb := h.big
  rw [← tailL_app S.length S bs (Nat.le_refl _)] at ho
  refine ⟨(h.now.grown hg (by omega)).row _, own_keep ho ?_, ?_, ?_, hb, h.old⟩
  · rw [setRow_other _ _ _ _ (by omega)]
  · exact below_setRow (h.below.grown hg h.below.size (by intro k hk; cases hk; omega)) (Nat.le_refl _) _
  · exact (h.tabs.grown hg (by have := h.old; omega)).below (below_setRow (B := w.heap.size) (Below.refl _ _) (Nat.le_refl _) _) h.old
set_option maxHeartbeats 1000000 in
theorem sum_any (L : Option Addr) (cp : Nat) (ps : List Piece) (w : World) (hT : Tabs w) (hL : ListAt w L ps) (hp : ∀ p ∈ ps, PieceOk w p) (hn : ps.length ≤ 1000) :
    Calls Tryd.prog 31 #[.slice L ps.length cp] w fun e w' => ∃ g, w.heap.size ≤ g ∧ e = .returned (.slice (some ⟨g, 0, none⟩) 32 32) ∧
      w'.ownsRow w.heap.size 5 1 (.slice (some ⟨g, 0, none⟩) 32 32) 32 (cellsOf (sumL (allL ps))) ∧ Below w.heap.size w w' := by
  obtain ⟨t, fr, h0⟩ := hT.1
  have hsz := hT.size
  have hi8 : (Tryd.prog.info? 47).map (·.size) = some (wordsC firstL).size := info_words8
  generalize e2 : (w.alloc (.cells (wordsC (List.replicate 8 0)) 47)).setRow w.heap.size (wordsC firstL) = X2
  have b2 : Below w.heap.size w X2 := e2 ▸ below_setRow (below_one (Below.refl _ _) _) (Nat.le_refl _) _
  have a2 : Arr X2 w.heap.size 47 firstL := e2 ▸ (Arr.made w _ _).row _
  have s2 : X2.heap.size = w.heap.size + 1 := by rw [← e2, setRow_size, alloc_size]
  have E2 := hideIt e2
  have H0 := hideIt h0
  have HI := hideIt hi8
  clear e2 h0 hi8
  go_enter Tryd.func31, Tryd.ntmps31
  go_wp2_with (first
    | (at_make; refine wpList_makeCap rfl (.const (.int .i64 0)) (.const (.int .i64 64)) rfl 0 64 _ _ rfl rfl rfl rfl (by omega) (by omega) ?_; intro w1 o1 g1)
    | (refine wpList_load_row rfl 47 (.global 0) rfl 0 rfl t (wordsC firstL) fr _ H0.out Tryd.underlying47 rfl HI.out ?_)
    | (refine wpList_store8To rfl (.tmp 3) (.tmp 8) rfl w.heap.size 47 (List.replicate 8 0) firstL rfl rfl (by exact Arr.made w 47 (List.replicate 8 0)) rfl rfl (by exact E2.out) ?_))
  rw [s2] at o1
  have u0 : Hid (SumAt w w1 (w.heap.size + 1) []) := hideIt (by
    have e0 : chainL firstL [] = firstL := chainL_lt (by decide)
    have e1 : tailL [] = [] := tailL_lt (by decide)
    refine ⟨?_, ?_, b2.grown g1 b2.size (by intro k hk; cases hk), (hT.keep b2).keep (below_made g1), by omega, hsz⟩
    · rw [e0]; exact a2.keep (below_made g1)
    · rw [e1]; exact o1)
  have HL := hideIt hL
  have HP := hideIt hp
  have EA : Hid (ps.take 0 = []) := hideIt rfl
  clear hL hp o1 g1 b2 a2 hT hsz E2 H0 HI
  go_loopw [4, 5, 12] (fun v n i wr => ∃ j : Nat, j ≤ ps.length ∧ i = .int .i64 j ∧ n = .int .u64 ((allL (ps.take j)).length : Nat) ∧ v = .slice (some ⟨w.heap.size + 1, 0, none⟩) (tailL (allL (ps.take j))).length 64 ∧ SumAt w wr (w.heap.size + 1) (allL (ps.take j))) (fun _ _ i _ => ps.length - (intOf i).toNat)
  case atStart => exact ⟨0, by omega, rfl, rfl, by rw [EA.out, show allL [] = [] from rfl, tailL_lt (l := []) (by decide)]; rfl, u0.out⟩
  case round =>
    clear u0
    obtain ⟨j, hj, rfl, rfl, rfl, u0⟩ := hrel
    by_cases hlt : j < ps.length
    · obtain ⟨b, off, rfl, hbl, hcell⟩ := HL.out (by omega)
      have hc := (u0.below.cell (p := ⟨b, off + j, none⟩) hbl).trans (hcell j hlt)
      have hpj := HP.out (ps[j]) (List.getElem_mem hlt)
      have HN := hideIt (allL_next ps j hlt)
      have hlen : (allL (ps.take j)).length ≤ 1000 * 140737488355328 := allL_len _ 1000 (fun p hp => (HP.out p (List.mem_of_mem_take hp)).long) (by rw [List.length_take]; omega)
      generalize ps[j] = pc at *
      obtain ⟨A, c, bs⟩ := pc
      replace hc : wr.cell? ⟨b, off + j, none⟩ = some (.slice A bs.length c) := hc
      have hfit := hpj.fits
      have hmost := hpj.most
      have hb48 := hpj.long
      simp only at hfit hmost hb48
      have htl := tailL_short _ (Nat.le_refl (allL (ps.take j)).length)
      have hwd := chainL_words _ (Nat.le_refl (allL (ps.take j)).length) firstL_words
      generalize allL (ps.take j) = S at *
      have hji : (j : Int) < (ps.length : Int) := by omega
      have hwr : IntKind.u64.wrap ((S.length : Int) + (bs.length : Int)) = (((S ++ bs).length : Nat) : Int) := by
        rw [IntKind.wrap_u64, List.length_append]; omega
      replace u0 := hideIt u0
      replace hpj := hideIt hpj
      clear hcell
      go_wp2_with (refine wpList_load8 rfl (.tmp 3) rfl w.heap.size 47 (chainL firstL S) rfl (by exact u0.out.now) hwd.1 ?_)
      refine (take_any (chainL firstL S) A (tailL S) bs (tailL S).length bs.length c (w.heap.size + 1) wr rfl rfl htl hwd u0.out.tabs (by have := u0.out.old; omega) u0.out.own ((hpj.out.keep u0.out.below).bytes) (fun hn0 ad hd => by
        obtain ⟨b', off', e', hlt', _⟩ := hpj.out.bytes hn0
        have e'' : A = some ⟨b', off', none⟩ := e'
        rw [e''] at hd
        cases hd
        show b' ≠ w.heap.size + 1
        omega) hfit hmost hpj.out.nil).mono ?_
      rintro e w2 ⟨rfl, o2, g2⟩
      have N2 := hideIt (u0.out.next o2 g2)
      have a2 : Arr w2 w.heap.size 47 (chainL firstL S) := u0.out.now.grown g2 (by omega)
      have ec : chainL (chainL firstL S) (tailL S ++ bs) = chainL firstL (S ++ bs) := (chainL_app S.length firstL S bs (Nat.le_refl _)).symm
      have et : tailL (tailL S ++ bs) = tailL (S ++ bs) := (tailL_app S.length S bs (Nat.le_refl _)).symm
      rw [ec, et]
      have hwd2 := chainL_words _ (Nat.le_refl (S ++ bs).length) firstL_words
      generalize e3 : w2.setRow w.heap.size (wordsC (chainL firstL (S ++ bs))) = X at *
      replace e3 := hideIt e3
      have hSb : Hid ((S ++ bs).length = S.length + bs.length) := hideIt List.length_append
      generalize S ++ bs = S2 at *
      generalize chainL firstL S2 = h2 at *
      generalize chainL firstL S = h1 at *
      clear o2 g2 ec et
      go_wp2_with (refine wpList_store8To rfl (.tmp 3) (.tmp 26) rfl w.heap.size 47 h1 h2 rfl rfl (by exact a2) hwd.1 hwd2.1 (by exact e3.out) ?_)
      go_roundw
      case rel =>
        refine ⟨j + 1, by omega, by go_num, ?_, ?_, ?_⟩
        · rw [HN.out, hSb.out, Int.natCast_add]
        · rw [HN.out]
        · rw [HN.out]; exact N2.out
      case measure => simp [intOf]; omega
    · obtain rfl : j = ps.length := by omega
      have ET : ps.take ps.length = ps := List.take_of_length_le (Nat.le_refl _)
      rw [ET] at u0 ⊢
      have hlen : (allL ps).length ≤ 1000 * 140737488355328 := allL_len _ 1000 (fun p hp => (HP.out p hp).long) (by omega)
      have htl := tailL_short _ (Nat.le_refl (allL ps).length)
      have hwd := chainL_words _ (Nat.le_refl (allL ps).length) firstL_words
      clear ET HL HP EA
      generalize eS : allL ps = S at *
      replace eS := hideIt eS
      replace u0 := hideIt u0
      go_wp2_with fail
      refine wp_region_any (by kernel_rfl) ?_
      change wpAny _ _ _ _ _ _ _ (World.drew _)
      have D := u0.out.drew
      clear u0
      generalize wr.drew = wd at D ⊢
      replace D := hideIt D
      refine wpAny_take (i := 1) (v := .slice (some ⟨w.heap.size + 1, 0, none⟩) (tailL S).length 64) rfl (by kernel_rfl) (by kernel_rfl) (by kernel_rfl) (fun _ _ _ h => h) (Or.inl ⟨by rfl, ?_⟩) ?_
      · intro w; go_simp
      simp only [List.getElem_toArray, List.getElem_cons_succ, List.getElem_cons_zero, Act.put, List.setIfInBounds_toArray, List.set_cons_succ, List.set_cons_zero]
      refine wpAny_take (i := 2) (v := .int .u64 (S.length : Nat)) rfl (by kernel_rfl) (by kernel_rfl) (by kernel_rfl) (fun _ _ _ h => h) (Or.inl ⟨by rfl, ?_⟩) ?_
      · intro w; go_simp
      simp only [List.getElem_toArray, List.getElem_cons_succ, List.getElem_cons_zero, Act.put, List.setIfInBounds_toArray, List.set_cons_succ, List.set_cons_zero]
      refine wpAny_ready (rs := [0, 3]) (by kernel_rfl) (by simp) ?_
      refine AllReady.cons rfl (fun K hK => ?_) (AllReady.cons rfl (fun K hK => ?_) AllReady.nil)
      · have DD := D
        refine step_load8 (by simp [Region.wanted]) (.tmp 3) rfl w.heap.size 47 (chainL firstL S) (by simp [Act.eval, Act.put]) (by exact DD.out.now) hwd.1 ?_
        refine hK _ _ ?_
        clear hK K
        simp only [List.getElem_toArray, List.getElem_cons_succ, List.getElem_cons_zero, Act.put, List.setIfInBounds_toArray, List.set_cons_succ, List.set_cons_zero]
        refine wpAny_ready (rs := [3]) (by kernel_rfl) (by simp) (AllReady.cons rfl (fun K hK => ?_) AllReady.nil)
        go_simp
        refine (pad_any S.length wd (by omega)).mono ?_
        rintro e w2 ⟨rfl, o2, hb2⟩
        refine hK _ _ ?_
        clear hK K
        try simp only [List.getElem_toArray, List.getElem_cons_succ, List.getElem_cons_zero, Act.put, List.setIfInBounds_toArray, List.set_cons_succ, List.set_cons_zero]
        have D2 := hideIt (D.out.keep hb2)
        have GW : Hid (wd.heap.size ≤ w2.heap.size ∧ w.heap.size + 1 < wd.heap.size) := hideIt ⟨hb2.size, (own_lt D.out.own).2⟩
        have OB := hideIt (own_bytes o2)
        clear hb2 o2
        refine wpAny_ready (rs := [4]) (by kernel_rfl) (by simp) (AllReady.cons rfl (fun K hK => ?_) AllReady.nil)
        go_simp
        refine (take_any (chainL firstL S) (some ⟨wd.heap.size, 0, none⟩) (tailL S) (padL S.length) (tailL S).length (padL S.length).length (padL S.length).length (w.heap.size + 1) w2 rfl rfl htl hwd D2.out.tabs (by have := D2.out.old; omega) D2.out.own OB.out (fun hn0 ad hd => by
          cases hd
          show wd.heap.size ≠ w.heap.size + 1
          have := GW.out
          omega) (Nat.le_refl _) (by rw [padL_length]; omega) (fun h => by cases h)).mono ?_
        rintro e w3 ⟨rfl, o3, g3⟩
        have N2 := hideIt (D2.out.next o3 g3)
        have A4 := hideIt N2.out.now
        have a3 : Arr w3 w.heap.size 47 (chainL firstL S) := D2.out.now.grown g3 (by omega)
        have ec : chainL (chainL firstL S) (tailL S ++ padL S.length) = chainL firstL (S ++ padL S.length) := (chainL_app S.length firstL S _ (Nat.le_refl _)).symm
        rw [ec]
        have hwd2 := chainL_words _ (Nat.le_refl (S ++ padL S.length).length) firstL_words
        generalize tailL (tailL S ++ padL S.length) = tl
        clear o3 g3 ec D2 GW OB DD
        generalize eh : chainL firstL (S ++ padL S.length) = h2 at *
        replace eh := hideIt eh
        generalize e3 : w3.setRow w.heap.size (wordsC h2) = X at *
        generalize chainL firstL S = h1 at *
        have hq : ∀ (K : Act → World → Prop) (Q : Exit → Act → World → Prop) (o : Oper) (a : Act), o.op = .store 47 (.tmp 3) (.tmp 35) → a.eval (.tmp 3) = .pointer (some ⟨w.heap.size, 0, none⟩) → a.eval (.tmp 35) = wordsV h2 → K (a.put o.dst undef) X → Oper.wp Tryd.prog o a w3 K Q := fun K Q o a q1 q2 q3 q4 => wp_store8 (X := X) (.tmp 3) (.tmp 35) q1 w.heap.size 47 h1 h2 q2 q3 a3 hwd.1 hwd2.1 e3 q4
        replace hq := hideIt hq
        refine hK _ _ ?_
        clear hK K
        refine wpAny_take (i := 5) (v := .tuple #[wordsV h2, .slice (some ⟨w.heap.size + 1, 0, none⟩) tl.length 64]) rfl (by kernel_rfl) (by kernel_rfl) (by kernel_rfl) (fun _ _ _ h => h) (Or.inl ⟨by rfl, ?_⟩) ?_
        · intro w; go_simp
        simp only [List.getElem_toArray, List.getElem_cons_succ, List.getElem_cons_zero, Act.put, List.setIfInBounds_toArray, List.set_cons_succ, List.set_cons_zero]
        refine wpAny_take (i := 6) (v := wordsV h2) rfl (by kernel_rfl) (by kernel_rfl) (by kernel_rfl) (fun _ _ _ h => h) (Or.inl ⟨by rfl, ?_⟩) ?_
        · intro w; go_simp
        simp only [List.getElem_toArray, List.getElem_cons_succ, List.getElem_cons_zero, Act.put, List.setIfInBounds_toArray, List.set_cons_succ, List.set_cons_zero]
        refine wpAny_take (i := 7) (v := .slice (some ⟨w.heap.size + 1, 0, none⟩) tl.length 64) rfl (by kernel_rfl) (by kernel_rfl) (by kernel_rfl) (fun _ _ _ h => h) (Or.inl ⟨by rfl, ?_⟩) ?_
        · intro w; go_simp
        simp only [List.getElem_toArray, List.getElem_cons_succ, List.getElem_cons_zero, Act.put, List.setIfInBounds_toArray, List.set_cons_succ, List.set_cons_zero]
        refine wpAny_ready (rs := [8]) (by kernel_rfl) (by simp) (AllReady.cons rfl (fun K hK => ?_) AllReady.nil)
        rw [if_pos (by simp [Region.wanted])]
        refine hq.out _ _ _ _ ?_ ?_ ?_ ?_
        · rfl
        · simp [Act.eval, Act.put]
        · simp [Act.eval, Act.put]
        refine hK _ _ ?_
        clear hK K hq
        simp only [List.getElem_toArray, List.getElem_cons_succ, List.getElem_cons_zero, Act.put, List.setIfInBounds_toArray, List.set_cons_succ, List.set_cons_zero]
        refine wpAny_done (by kernel_rfl) ?_ _
        go_wp2_with (refine wpList_load8 rfl (.tmp 3) rfl w.heap.size 47 h2 rfl (by exact A4.out) hwd2.1 ?_)
        refine (told_any h2 X hwd2).mono ?_
        rintro e w4 ⟨g, hg, rfl, o4, b4⟩
        have R4 := hideIt (own_base o4 (Nat.le_trans N2.out.below.size hg))
        have B4 := hideIt (below_then N2.out.below b4)
        have G4 : Hid (w.heap.size ≤ g) := hideIt (Nat.le_trans N2.out.below.size hg)
        clear o4 b4 hg
        go_wp2_with fail
        go_ret
        refine ⟨g, G4.out, rfl, ?_, B4.out⟩
        rw [eS.out, sumL, eh.out]
        exact R4.out
      · skip
        go_simp
        refine (pad_any S.length wd (by omega)).mono ?_
        rintro e w2 ⟨rfl, o2, hb2⟩
        refine hK _ _ ?_
        clear hK K
        try simp only [List.getElem_toArray, List.getElem_cons_succ, List.getElem_cons_zero, Act.put, List.setIfInBounds_toArray, List.set_cons_succ, List.set_cons_zero]
        have D2 := hideIt (D.out.keep hb2)
        have GW : Hid (wd.heap.size ≤ w2.heap.size ∧ w.heap.size + 1 < wd.heap.size) := hideIt ⟨hb2.size, (own_lt D.out.own).2⟩
        have OB := hideIt (own_bytes o2)
        clear hb2 o2
        have DD := D2
        refine wpAny_ready (rs := [0]) (by kernel_rfl) (by simp) (AllReady.cons rfl (fun K hK => ?_) AllReady.nil)
        refine step_load8 (by simp [Region.wanted]) (.tmp 3) rfl w.heap.size 47 (chainL firstL S) (by simp [Act.eval, Act.put]) (by exact DD.out.now) hwd.1 ?_
        refine hK _ _ ?_
        clear hK K
        simp only [List.getElem_toArray, List.getElem_cons_succ, List.getElem_cons_zero, Act.put, List.setIfInBounds_toArray, List.set_cons_succ, List.set_cons_zero]
        refine wpAny_ready (rs := [4]) (by kernel_rfl) (by simp) (AllReady.cons rfl (fun K hK => ?_) AllReady.nil)
        go_simp
        refine (take_any (chainL firstL S) (some ⟨wd.heap.size, 0, none⟩) (tailL S) (padL S.length) (tailL S).length (padL S.length).length (padL S.length).length (w.heap.size + 1) w2 rfl rfl htl hwd D2.out.tabs (by have := D2.out.old; omega) D2.out.own OB.out (fun hn0 ad hd => by
          cases hd
          show wd.heap.size ≠ w.heap.size + 1
          have := GW.out
          omega) (Nat.le_refl _) (by rw [padL_length]; omega) (fun h => by cases h)).mono ?_
        rintro e w3 ⟨rfl, o3, g3⟩
        have N2 := hideIt (D2.out.next o3 g3)
        have A4 := hideIt N2.out.now
        have a3 : Arr w3 w.heap.size 47 (chainL firstL S) := D2.out.now.grown g3 (by omega)
        have ec : chainL (chainL firstL S) (tailL S ++ padL S.length) = chainL firstL (S ++ padL S.length) := (chainL_app S.length firstL S _ (Nat.le_refl _)).symm
        rw [ec]
        have hwd2 := chainL_words _ (Nat.le_refl (S ++ padL S.length).length) firstL_words
        generalize tailL (tailL S ++ padL S.length) = tl
        clear o3 g3 ec D2 GW OB DD
        generalize eh : chainL firstL (S ++ padL S.length) = h2 at *
        replace eh := hideIt eh
        generalize e3 : w3.setRow w.heap.size (wordsC h2) = X at *
        generalize chainL firstL S = h1 at *
        have hq : ∀ (K : Act → World → Prop) (Q : Exit → Act → World → Prop) (o : Oper) (a : Act), o.op = .store 47 (.tmp 3) (.tmp 35) → a.eval (.tmp 3) = .pointer (some ⟨w.heap.size, 0, none⟩) → a.eval (.tmp 35) = wordsV h2 → K (a.put o.dst undef) X → Oper.wp Tryd.prog o a w3 K Q := fun K Q o a q1 q2 q3 q4 => wp_store8 (X := X) (.tmp 3) (.tmp 35) q1 w.heap.size 47 h1 h2 q2 q3 a3 hwd.1 hwd2.1 e3 q4
        replace hq := hideIt hq
        refine hK _ _ ?_
        clear hK K
        refine wpAny_take (i := 5) (v := .tuple #[wordsV h2, .slice (some ⟨w.heap.size + 1, 0, none⟩) tl.length 64]) rfl (by kernel_rfl) (by kernel_rfl) (by kernel_rfl) (fun _ _ _ h => h) (Or.inl ⟨by rfl, ?_⟩) ?_
        · intro w; go_simp
        simp only [List.getElem_toArray, List.getElem_cons_succ, List.getElem_cons_zero, Act.put, List.setIfInBounds_toArray, List.set_cons_succ, List.set_cons_zero]
        refine wpAny_take (i := 6) (v := wordsV h2) rfl (by kernel_rfl) (by kernel_rfl) (by kernel_rfl) (fun _ _ _ h => h) (Or.inl ⟨by rfl, ?_⟩) ?_
        · intro w; go_simp
        simp only [List.getElem_toArray, List.getElem_cons_succ, List.getElem_cons_zero, Act.put, List.setIfInBounds_toArray, List.set_cons_succ, List.set_cons_zero]
        refine wpAny_take (i := 7) (v := .slice (some ⟨w.heap.size + 1, 0, none⟩) tl.length 64) rfl (by kernel_rfl) (by kernel_rfl) (by kernel_rfl) (fun _ _ _ h => h) (Or.inl ⟨by rfl, ?_⟩) ?_
        · intro w; go_simp
        simp only [List.getElem_toArray, List.getElem_cons_succ, List.getElem_cons_zero, Act.put, List.setIfInBounds_toArray, List.set_cons_succ, List.set_cons_zero]
        refine wpAny_ready (rs := [8]) (by kernel_rfl) (by simp) (AllReady.cons rfl (fun K hK => ?_) AllReady.nil)
        rw [if_pos (by simp [Region.wanted])]
        refine hq.out _ _ _ _ ?_ ?_ ?_ ?_
        · rfl
        · simp [Act.eval, Act.put]
        · simp [Act.eval, Act.put]
        refine hK _ _ ?_
        clear hK K hq
        simp only [List.getElem_toArray, List.getElem_cons_succ, List.getElem_cons_zero, Act.put, List.setIfInBounds_toArray, List.set_cons_succ, List.set_cons_zero]
        refine wpAny_done (by kernel_rfl) ?_ _
        go_wp2_with (refine wpList_load8 rfl (.tmp 3) rfl w.heap.size 47 h2 rfl (by exact A4.out) hwd2.1 ?_)
        refine (told_any h2 X hwd2).mono ?_
        rintro e w4 ⟨g, hg, rfl, o4, b4⟩
        have R4 := hideIt (own_base o4 (Nat.le_trans N2.out.below.size hg))
        have B4 := hideIt (below_then N2.out.below b4)
        have G4 : Hid (w.heap.size ≤ g) := hideIt (Nat.le_trans N2.out.below.size hg)
        clear o4 b4 hg
        go_wp2_with fail
        go_ret
        refine ⟨g, G4.out, rfl, ?_, B4.out⟩
        rw [eS.out, sumL, eh.out]
        exact R4.out
end Go.Proofs.YtflbdjlmkmmahaaDoor
