/- The contract of sha.take: words and what is left over, behind a piece more; the third way, and all. -/
import Derived.Test.YtflbdjlmkmmahaaDoorShaTake
import Derived.Laws.ResultCell
namespace Go.Proofs.YtflbdjlmkmmahaaDoor
open Go.ChangeShapes Go.WideShapes Go.ChangeAt Go.RowKit
set_option linter.unusedVariables false
set_option linter.unusedSimpArgs false


set_option maxHeartbeats 1000000 in
theorem take_more (h : List Nat) (A : Option Addr) (rs bs : List UInt8) (r m c g : Nat) (w : World) (hR : rs.length = r) (hM : bs.length = m) (hr : 0 < r) (hr64 : r < 64) (hrm : 64 ≤ r + m) (hh : Words8 h) (hT : Tabs w) (hg : 2 ≤ g)
    (ho : w.ownsRow g 5 1 (.slice (some ⟨g, 0, none⟩) r 64) r (cellsOf rs)) (hb : BytesAt w w.heap.size A bs) (hA : Apart A bs g) (hl : m ≤ c) (hc : c ≤ 9223372036854775807) (hnil : A = none → c = 0) :
    Calls Tryd.prog 36 #[wordsV h, .slice (some ⟨g, 0, none⟩) r 64, .slice A m c] w fun e w' => e = .returned (.tuple #[wordsV (chainL h (rs ++ bs)), .slice (some ⟨g, 0, none⟩) (tailL (rs ++ bs)).length 64]) ∧
      w'.ownsRow g 5 1 (.slice (some ⟨g, 0, none⟩) (tailL (rs ++ bs)).length 64) (tailL (rs ++ bs)).length (cellsOf (tailL (rs ++ bs))) ∧ w.grownBy w' (some g) := by
  have hgl := (own_lt ho).2
  generalize hW : (w.alloc (.cells (wordsC h) 47)).alloc (.cells (wordsC (List.replicate 8 0)) 47) = W
  obtain ⟨d1, d2, o0, g0, tb0, b0, s0⟩ := take_start h w g r rs bs A hT ho hb W hW
  obtain ⟨k, hk⟩ : ∃ k, r + k = 64 := ⟨64 - r, by omega⟩
  obtain ⟨A1, q1, q2, q3, q4⟩ := slice_lo A m c k (by omega) hl hnil
  have q0 := slice_hi A m c k (by omega)
  have i1 : (0 : Int) < (r : Int) := by omega
  have i2 : 64 - (r : Int) ≤ (m : Int) := by omega
  have i4 : (64 : Int) - (r : Int) = (k : Int) := by omega
  have hkm : k ≤ m := by omega
  have htl : (bs.take k).length = k := by rw [List.length_take, hM]; omega
  have hful : (rs ++ bs.take k).length = 64 := by rw [List.length_append, htl, hR, hk]
  have happ : rs ++ bs = (rs ++ bs.take k) ++ bs.drop k := by rw [List.append_assoc, List.take_append_drop]
  have HC : Hid (chainL h (rs ++ bs) = chainL (blockL h (rs ++ bs.take k)) ([] ++ bs.drop k)) := hideIt (by
    rw [happ, chainL_ge (by rw [List.length_append]; omega), List.take_append_of_le_length (by omega), List.drop_append_of_le_length (by omega), List.take_of_length_le (by omega), List.drop_of_length_le (by omega)])
  have HTl : Hid (tailL (rs ++ bs) = tailL ([] ++ bs.drop k)) := hideIt (by
    rw [happ, tailL_ge (by rw [List.length_append]; omega), List.drop_append_of_le_length (by omega), List.drop_of_length_le (by omega)])
  have HQ : Hid (∀ w1 w2, W.grownBy w1 (some g) → w1.ownsRow g 5 1 (.slice (some ⟨g, 0, none⟩) 64 64) 64 (cellsOf (rs ++ bs.take k)) → Below w1.heap.size w1 w2 →
      TakeAt w (w2.setRow w.heap.size (wordsC (blockL h (rs ++ bs.take k)))) g (chainL h (rs ++ bs)) (tailL (rs ++ bs)) [] 0 (blockL h (rs ++ bs.take k)) (bs.drop k) A1 (c - k)) := hideIt fun w1 w2 g1 o1 hb2 => by
    have hs1 := g1.size
    have e1 := d1.grown g1 (by omega)
    refine ⟨blockL_words hh _, (e1.keep hb2).row _, ((d2.grown g1 (by omega)).keep hb2).otherRow _ (by omega), ?_, rfl, ?_, ?_, ?_, q3 g bs hM hA, q4, by rw [List.length_drop]; omega, by omega, HC.out, HTl.out, Or.inl rfl, by decide, hg, hgl⟩
    · refine own_keep (own_cut o1) ?_
      rw [setRow_other _ _ _ _ (by omega)]
      exact hb2.block g (own_lt o1).2
    · exact grown_row (grown_then (grown_then g0 g1) (grown_below hb2 _)) _ _ (Nat.le_refl _)
    · exact ((tb0.grown g1 hg).keep hb2).below (below_setRow (B := w.heap.size) (Below.refl _ _) (Nat.le_refl _) _) (by omega)
    · have b1 : BytesAt w1 w.heap.size A bs := fun hn => by
        obtain ⟨b, off, e, hlt, hc⟩ := b0 hn
        refine ⟨b, off, e, hlt, fun j hj => ?_⟩
        rw [← hc j hj]
        exact World.cell?_of_block (w := W) (g1.block b (by omega) (by simpa using hA hn _ e))
      have b2 : BytesAt w2 w.heap.size A bs := b1.keep fun p hp => hb2.cell (by omega)
      exact (q2 w2 w.heap.size bs hM b2).keep fun p hp => cell_setRow_other w2 _ _ p (by omega)
  have HA1 : Hid (∀ w1 w2, W.grownBy w1 (some g) → Below w1.heap.size w1 w2 → Arr w1 w.heap.size 47 h ∧ Arr w2 w.heap.size 47 h ∧ Tabs w1) := hideIt fun w1 w2 g1 hb2 =>
    ⟨d1.grown g1 (by omega), (d1.grown g1 (by omega)).keep hb2, tb0.grown g1 hg⟩
  generalize chainL h (rs ++ bs) = C at *
  generalize tailL (rs ++ bs) = T at *
  subst hW
  replace o0 := hideIt o0
  replace b0 := hideIt (b0.front k)
  replace htl := hideIt htl
  replace hful := hideIt hful
  replace hnil := hideIt hnil
  replace hh := hideIt hh
  have hw8' := (blockL_words hh.out (rs ++ bs.take k)).1
  have HD : Hid ((bs.drop k).length = m - k) := hideIt (by rw [List.length_drop, hM])
  generalize hb2' : blockL h (rs ++ bs.take k) = h2 at *
  replace hb2' := hideIt hb2'
  clear hb ho hA hT d1 d2 g0 tb0 s0 hR q2 q3 q4 happ hM HC HTl
  show Calls Tryd.prog 36 #[.agg (wordsC h), .slice (some ⟨g, 0, none⟩) r 64, .slice A m c] w _
  go_enter Tryd.func36, Tryd.ntmps36
  go_wp2_with (first
    | (at_builtin; refine wpList_fit rfl (.tmp 18) (.tmp 21) rfl g g r 64 rs rfl (by exact o0.out) A k c w.heap.size (bs.take k) rfl htl.out hnil.out (by exact b0.out) (by omega) ?_; rw [hk]; intro w1 o1 g1)
    | (refine wpList_load8 rfl (.tmp 3) rfl w.heap.size 47 h rfl (by exact (HA1.out w1 w1 g1 (Below.refl _ _)).1) hh.out.1 ?_))
  have tb1 := (HA1.out w1 w1 g1 (Below.refl _ _)).2.2
  refine (block_is h (some ⟨g, 0, none⟩) (rs ++ bs.take k) 64 w1.heap.size w1 hh.out tb1 (own_bytes o1) (Nat.le_refl _) hful.out (Nat.le_refl _) (by omega)).mono ?_
  rintro e w2 ⟨rfl, hb2⟩
  rw [hb2'.out]
  have a2 := (HA1.out w1 w2 g1 hb2).2.1
  have t0 := HQ.out w1 w2 g1 o1 hb2
  have hw8 := hh.out.1
  generalize e3 : w2.setRow w.heap.size (wordsC h2) = X at *
  replace t0 := hideIt t0
  replace e3 := hideIt e3
  clear o1 g1 HQ o0 b0 q0 q1 hb2 HA1 tb1 hb2'
  go_wp2_with (refine wpList_store8To rfl (.tmp 3) (.tmp 31) rfl w.heap.size 47 h h2 rfl rfl (by exact a2) hw8 hw8' (by exact e3.out) ?_)
  clear a2 i1 i2 i4 hk hkm
  go_loopw [2] (fun v wr => ∃ hx bx Ax cx, v = .slice Ax (List.length bx) cx ∧ TakeAt w wr g C T ([]) (0) hx bx Ax cx) (fun v _ => lenV v)
  case atStart => exact ⟨h2, bs.drop k, A1, c - k, by rw [HD.out], t0.out⟩
  case round =>
    clear t0
    obtain ⟨hx, bx, Ax, cx, rfl, t0⟩ := hrel
    by_cases hlt : 64 ≤ bx.length
    · have hlt' : (64 : Int) ≤ (bx.length : Int) := by omega
      have hmost := t0.most
      have hfits := t0.fits
      have hbl : bx.length ≤ 9223372036854775807 := by omega
      obtain ⟨A1, q1, q2, q3, q4⟩ := slice_lo Ax bx.length cx 64 hlt hfits t0.nil
      have q0 := slice_hi Ax bx.length cx 64 (by omega)
      replace q1 : ∀ w, Sem.run Tryd.prog (Instr.slice 22 (.slice Ax bx.length cx) (some (.int .i64 64)) none none) w = .ok (.slice A1 (bx.length - 64) (cx - 64)) w := q1
      replace q0 : ∀ w, Sem.run Tryd.prog (Instr.slice 22 (.slice Ax bx.length cx) none (some (.int .i64 64)) none) w = .ok (.slice Ax 64 cx) w := q0
      replace q2 := hideIt q2
      replace q3 := hideIt q3
      replace q4 := hideIt q4
      replace t0 := hideIt t0
      go_wp2_with fail
      go_still_tail 3, (by kernel_rfl)
      refine wpStill_load8 rfl (.tmp 3) rfl w.heap.size 47 hx rfl (by exact t0.out.now) t0.out.words.1 ?_
      repeat still_step
      refine wpStill_nil ?_
      change wpList _ _ _ _ _ wr.drew
      go_wp2_with fail
      refine (block_is hx Ax (bx.take 64) cx w.heap.size wr.drew t0.out.words t0.out.tabs (t0.out.bytes.front 64) t0.out.grown.size (by rw [List.length_take]; omega) (by omega) hmost).mono ?_
      rintro e w2 ⟨rfl, hb2⟩
      have hA2 : Arr w2 w.heap.size 47 hx := t0.out.drew.now.keep hb2
      have T2 := hideIt (t0.out.drew.next hb2 hlt q2.out (q3.out g bx rfl t0.out.apart) q4.out)
      have hw8 := t0.out.words.1
      have hw8' := (blockL_words t0.out.words (bx.take 64)).1
      generalize blockL hx (bx.take 64) = h2 at *
      generalize e3 : w2.setRow w.heap.size (wordsC h2) = X at *
      replace e3 := hideIt e3
      clear hb2 t0
      go_wp2_with (refine wpList_store8To rfl (.tmp 3) (.tmp 40) rfl w.heap.size 47 hx h2 rfl rfl (by exact hA2) hw8 hw8' (by exact e3.out) ?_)
      go_roundw
      case rel => exact ⟨h2, bx.drop 64, A1, cx - 64, by rw [List.length_drop], T2.out⟩
      case measure => simp [lenV]; omega
    · have hlt' : ¬ (64 : Int) ≤ (bx.length : Int) := by omega
      have hbl : bx.length ≤ 9223372036854775807 := by omega
      obtain ⟨ec, et, es⟩ := t0.done (by omega)
      have EL : Hid (T.length = bx.length) := hideIt (by rw [et, List.length_append, t0.len]; omega)
      have EC := hideIt ec
      have ET := hideIt et
      clear ec et
      replace t0 := hideIt t0
      have Z1 : Hid (w.heap.size + 1 ≠ g) := hideIt (by have := t0.out.old; omega)
      have Z0 : Hid (w.heap.size ≠ g) := hideIt (by have := t0.out.old; omega)
      go_wp2_with fail
      refine wp_region_any (by kernel_rfl) ?_
      change wpAny _ _ _ _ _ _ _ (World.drew _)
      have D := t0.out.drew
      clear t0
      generalize wr.drew = wd at D ⊢
      replace D := hideIt D
      refine wpAny_take (i := 1) (v := .slice (some ⟨g, 0, none⟩) (0) 64) rfl (by kernel_rfl) (by kernel_rfl) (by kernel_rfl) (fun _ _ _ h => h) (Or.inl ⟨by rfl, ?_⟩) ?_
      · intro w; go_simp
      simp only [List.getElem_toArray, List.getElem_cons_succ, List.getElem_cons_zero, Act.put, List.setIfInBounds_toArray, List.set_cons_succ, List.set_cons_zero]
      refine wpAny_take (i := 2) (v := .slice Ax bx.length cx) rfl (by kernel_rfl) (by kernel_rfl) (by kernel_rfl) (fun _ _ _ h => h) (Or.inl ⟨by rfl, ?_⟩) ?_
      · intro w; go_simp
      simp only [List.getElem_toArray, List.getElem_cons_succ, List.getElem_cons_zero, Act.put, List.setIfInBounds_toArray, List.set_cons_succ, List.set_cons_zero]
      refine wpAny_ready (rs := [0, 3]) (by kernel_rfl) (by simp) ?_
      refine AllReady.cons rfl (fun K hK => ?_) (AllReady.cons rfl (fun K hK => ?_) AllReady.nil)
      · refine step_load8 (by simp [Region.wanted]) (.tmp 3) rfl w.heap.size 47 hx (by simp [Act.eval, Act.put]) (by exact D.out.now) D.out.words.1 ?_
        refine hK _ _ ?_
        clear hK K
        simp only [List.getElem_toArray, List.getElem_cons_succ, List.getElem_cons_zero, Act.put, List.setIfInBounds_toArray, List.set_cons_succ, List.set_cons_zero]
        refine wpAny_ready (rs := [3]) (by kernel_rfl) (by simp) (AllReady.cons rfl (fun K hK => ?_) AllReady.nil)
        refine step_fit (by simp [Region.wanted]) (.tmp 44) (.tmp 45) rfl g g (0) 64 ([]) (by simp [Act.eval, Act.put]) (by exact D.out.own) Ax bx.length cx w.heap.size bx (by simp [Act.eval, Act.put]) rfl D.out.nil (by exact D.out.bytes) (by omega) ?_
        intro w3 h3 hg3
        refine hK _ _ ?_
        clear hK K
        simp only [List.getElem_toArray, List.getElem_cons_succ, List.getElem_cons_zero, Act.put, List.setIfInBounds_toArray, List.set_cons_succ, List.set_cons_zero]
        have z6 : Arr w3 (w.heap.size + 1) 47 (List.replicate 8 0) := Arr.grown (w := wd) (k := g) D.out.out hg3 Z1.out
        generalize e3 : w3.setRow (w.heap.size + 1) (wordsC hx) = X
        have y1 := D.out.words.1
        have hq : ∀ (K : Act → World → Prop) (Q : Exit → Act → World → Prop) (o : Oper) (a : Act), o.op = .store 47 (.tmp 6) (.tmp 43) → a.eval (.tmp 6) = .pointer (some ⟨w.heap.size + 1, 0, none⟩) → a.eval (.tmp 43) = wordsV hx → K (a.put o.dst undef) X → Oper.wp Tryd.prog o a w3 K Q := fun K Q o a q1 q2 q3 q4 => wp_store8 (X := X) (.tmp 6) (.tmp 43) q1 (w.heap.size + 1) 47 (List.replicate 8 0) hx q2 q3 z6 rfl y1 e3 q4
        refine wpAny_ready (rs := [4]) (by kernel_rfl) (by simp) (AllReady.cons rfl (fun K hK => ?_) AllReady.nil)
        rw [if_pos (by simp [Region.wanted])]
        refine hq _ _ _ _ ?_ ?_ ?_ ?_
        · rfl
        · simp [Act.eval, Act.put]
        · simp [Act.eval, Act.put]
        refine hK _ _ ?_
        clear hK K
        simp only [List.getElem_toArray, List.getElem_cons_succ, List.getElem_cons_zero, Act.put, List.setIfInBounds_toArray, List.set_cons_succ, List.set_cons_zero]
        refine wpAny_ready (rs := [5]) (by kernel_rfl) (by simp) (AllReady.cons rfl (fun K hK => ?_) AllReady.nil)
        go_simp
        refine hK _ _ ?_
        clear hK K
        refine wpAny_done (by kernel_rfl) ?_ _
        go_wp2_with fail
        refine bodyPost_ret (v := .tuple #[wordsV hx, .slice (some ⟨g, 0, none⟩) (bx.length) 64]) ?_ rfl ⟨?_, ?_, ?_⟩
        · exact results_words Tryd.results36 _ X (w.heap.size + 1) 47 hx _ rfl rfl (e3 ▸ z6.row hx) y1
        · rw [EC.out, EL.out]
        · rw [EL.out, ET.out]
          rw [Nat.zero_add] at h3
          exact own_keep h3 (by rw [← e3, setRow_other _ _ _ _ (Ne.symm Z1.out)])
        · rw [← e3]
          exact grown_row (grown_then D.out.grown hg3) _ _ (Nat.le_succ _)
      · refine step_fit (by simp [Region.wanted]) (.tmp 44) (.tmp 45) rfl g g (0) 64 ([]) (by simp [Act.eval, Act.put]) (by exact D.out.own) Ax bx.length cx w.heap.size bx (by simp [Act.eval, Act.put]) rfl D.out.nil (by exact D.out.bytes) (by omega) ?_
        intro w3 h3 hg3
        refine hK _ _ ?_
        clear hK K
        simp only [List.getElem_toArray, List.getElem_cons_succ, List.getElem_cons_zero, Act.put, List.setIfInBounds_toArray, List.set_cons_succ, List.set_cons_zero]
        refine wpAny_ready (rs := [0]) (by kernel_rfl) (by simp) (AllReady.cons rfl (fun K hK => ?_) AllReady.nil)
        refine step_load8 (by simp [Region.wanted]) (.tmp 3) rfl w.heap.size 47 hx (by simp [Act.eval, Act.put]) (by exact Arr.grown (w := wd) (k := g) D.out.now hg3 Z0.out) D.out.words.1 ?_
        refine hK _ _ ?_
        clear hK K
        simp only [List.getElem_toArray, List.getElem_cons_succ, List.getElem_cons_zero, Act.put, List.setIfInBounds_toArray, List.set_cons_succ, List.set_cons_zero]
        have z6 : Arr w3 (w.heap.size + 1) 47 (List.replicate 8 0) := Arr.grown (w := wd) (k := g) D.out.out hg3 Z1.out
        generalize e3 : w3.setRow (w.heap.size + 1) (wordsC hx) = X
        have y1 := D.out.words.1
        have hq : ∀ (K : Act → World → Prop) (Q : Exit → Act → World → Prop) (o : Oper) (a : Act), o.op = .store 47 (.tmp 6) (.tmp 43) → a.eval (.tmp 6) = .pointer (some ⟨w.heap.size + 1, 0, none⟩) → a.eval (.tmp 43) = wordsV hx → K (a.put o.dst undef) X → Oper.wp Tryd.prog o a w3 K Q := fun K Q o a q1 q2 q3 q4 => wp_store8 (X := X) (.tmp 6) (.tmp 43) q1 (w.heap.size + 1) 47 (List.replicate 8 0) hx q2 q3 z6 rfl y1 e3 q4
        refine wpAny_ready (rs := [4]) (by kernel_rfl) (by simp) (AllReady.cons rfl (fun K hK => ?_) AllReady.nil)
        rw [if_pos (by simp [Region.wanted])]
        refine hq _ _ _ _ ?_ ?_ ?_ ?_
        · rfl
        · simp [Act.eval, Act.put]
        · simp [Act.eval, Act.put]
        refine hK _ _ ?_
        clear hK K
        simp only [List.getElem_toArray, List.getElem_cons_succ, List.getElem_cons_zero, Act.put, List.setIfInBounds_toArray, List.set_cons_succ, List.set_cons_zero]
        refine wpAny_ready (rs := [5]) (by kernel_rfl) (by simp) (AllReady.cons rfl (fun K hK => ?_) AllReady.nil)
        go_simp
        refine hK _ _ ?_
        clear hK K
        refine wpAny_done (by kernel_rfl) ?_ _
        go_wp2_with fail
        refine bodyPost_ret (v := .tuple #[wordsV hx, .slice (some ⟨g, 0, none⟩) (bx.length) 64]) ?_ rfl ⟨?_, ?_, ?_⟩
        · exact results_words Tryd.results36 _ X (w.heap.size + 1) 47 hx _ rfl rfl (e3 ▸ z6.row hx) y1
        · rw [EC.out, EL.out]
        · rw [EL.out, ET.out]
          rw [Nat.zero_add] at h3
          exact own_keep h3 (by rw [← e3, setRow_other _ _ _ _ (Ne.symm Z1.out)])
        · rw [← e3]
          exact grown_row (grown_then D.out.grown hg3) _ _ (Nat.le_succ _)

/-- take, whatever was left over -/
theorem take_any (h : List Nat) (A : Option Addr) (rs bs : List UInt8) (r m c g : Nat) (w : World) (hR : rs.length = r) (hM : bs.length = m) (hr64 : r < 64) (hh : Words8 h) (hT : Tabs w) (hg : 2 ≤ g)
    (ho : w.ownsRow g 5 1 (.slice (some ⟨g, 0, none⟩) r 64) r (cellsOf rs)) (hb : BytesAt w w.heap.size A bs) (hA : Apart A bs g) (hl : m ≤ c) (hc : c ≤ 9223372036854775807) (hnil : A = none → c = 0) :
    Calls Tryd.prog 36 #[wordsV h, .slice (some ⟨g, 0, none⟩) r 64, .slice A m c] w fun e w' => e = .returned (.tuple #[wordsV (chainL h (rs ++ bs)), .slice (some ⟨g, 0, none⟩) (tailL (rs ++ bs)).length 64]) ∧
      w'.ownsRow g 5 1 (.slice (some ⟨g, 0, none⟩) (tailL (rs ++ bs)).length 64) (tailL (rs ++ bs)).length (cellsOf (tailL (rs ++ bs))) ∧ w.grownBy w' (some g) := by
  by_cases hr : r = 0
  · exact take_none h A rs bs r m c g w hR hM hr hh hT hg ho hb hA hl hc hnil
  · by_cases hrm : r + m < 64
    · exact take_less h A rs bs r m c g w hR hM (by omega) hrm hh hT hg ho hb hA hl hc hnil
    · exact take_more h A rs bs r m c g w hR hM (by omega) hr64 (by omega) hh hT hg ho hb hA hl hc hnil
end Go.Proofs.YtflbdjlmkmmahaaDoor
