/- Contract of fill.cut. -/
import Derived.Test.YtccppgiigkmdbaaDoorFillCut0
import Derived.Test.YtccppgiigkmdbaaDoorScopeIn
namespace Go.Proofs.YtccppgiigkmdbaaDoor
open Go.ChangeShapes Go.WideShapes Go.ChangeAt Go.RowKit
set_option linter.unusedVariables false
set_option linter.unusedSimpArgs false
attribute [local go_sem] Oper.semAt_some

/-- how the loop of cut stands -/
def CI (w0 : World) (qs : List (List UInt8)) (W : World) (p : List UInt8) (k : Nat) (c m : Value) (wr : World) : Prop :=
  k ≤ p.length ∧ c = .int .u8 ((p.getD k 0).toNat : Int) ∧ m = .bool (decide (k < p.length)) ∧ CSt w0 qs W p (min (k + 1) p.length) wr ∧ ∀ j, j < k → p.getD j 0 ≠ 61
theorem less_ci {w0 : World} {qs : List (List UInt8)} {W : World} {p : List UInt8} {k j : Nat} {c m c' m' : Value} {wr w2 : World} (h : CI w0 qs W p k c m wr) (hk : k < p.length) (h' : CI w0 qs W p j c' m' w2) (hj : k < j) :
    2 * (p.length - rdPos w2 W.heap.size) + boolN m' < 2 * (p.length - rdPos wr W.heap.size) + boolN m := by
  obtain ⟨_, _, rfl, rb, _⟩ := h
  obtain ⟨hjl, _, rfl, rb', _⟩ := h'
  rw [rb.rd.pos, rb'.rd.pos, decide_eq_true hk]
  by_cases hlt : j < p.length
  · rw [decide_eq_true hlt]; simp only [boolN]; omega
  · rw [decide_eq_false hlt]; simp only [boolN]; omega
set_option maxRecDepth 8000 in
set_option maxHeartbeats 2000000 in
theorem cut_any (t : List UInt8) (w : World) (ht : t.length ≤ 100000) :
    Calls Tryd.prog 35 #[.string (strOf t)] w fun e w' => ∃ v, e = .returned v ∧ POwn w.heap.size v ((splitL 38 t).map rawP) w' ∧ Below w.heap.size w w' := by
  have hSL := split_length 38 t
  obtain ⟨X1, e1⟩ : ∃ X1, w.alloc (.cells #[.slice none 0 0] 29) = X1 := ⟨_, rfl⟩
  have s1 : X1.heap.size = w.heap.size + 1 := by rw [← e1, alloc_size]
  have b1 : Below w.heap.size w X1 := by rw [← e1]; exact below_one (Below.refl _ _) _
  have x1 : X1.heap[w.heap.size]? = some (.cells #[.slice none 0 0] 29 (0, 0)) := by rw [← e1]; exact heap_alloc_new w _
  have H := hideIt (SplitSeq_any t X1)
  have bs : Below X1.heap.size X1 (seqW t X1) := by unfold seqW; exact below_one (below_one (below_one (Below.refl _ _) _) _) _
  have q0 : (seqW t X1).heap[w.heap.size + 1]? = some (.cells #[.string (strOf t)] 9 (0, 0)) := by
    unfold seqW; rw [← s1]
    exact (Below.heap_alloc _ _ _ (by simp; omega)).trans ((Below.heap_alloc _ _ _ (by simp)).trans (heap_alloc_new X1 _))
  have q1 : (seqW t X1).heap[w.heap.size + 1 + 1]? = some (.cells #[.string ⟨#[38]⟩] 9 (0, 0)) := by
    unfold seqW; rw [← s1]
    have := heap_alloc_new (X1.alloc (.cells #[.string (strOf t)] 9)) (.cells #[.string ⟨#[38]⟩] 9)
    rw [alloc_size] at this
    exact (Below.heap_alloc _ _ _ (by simp)).trans this
  have q2 : (seqW t X1).heap[w.heap.size + 1 + 2]? = some (.cells #[.int .i64 0] 3 (0, 0)) := by
    unfold seqW; rw [← s1]
    have := heap_alloc_new ((X1.alloc (.cells #[.string (strOf t)] 9)).alloc (.cells #[.string ⟨#[38]⟩] 9)) (.cells #[.int .i64 0] 3)
    rw [alloc_size, alloc_size] at this
    exact this
  have ss : (seqW t X1).heap.size = w.heap.size + 4 := by unfold seqW; rw [alloc_size, alloc_size, alloc_size, s1]
  have P0 : PSt w [] (seqW t X1) := ⟨below_then b1 bs, .slice none 0 0, (bs.block _ (by omega)).trans x1, POwn.nil _ _⟩
  rw [s1] at H
  have E1 := hideIt e1
  have Q0 := hideIt q0
  have Q1 := hideIt q1
  have Q2 := hideIt q2
  have SS := hideIt ss
  have HP := hideIt P0
  clear e1 s1 b1 x1 bs q0 q1 q2 ss P0
  generalize seqW t X1 = X2 at *
  refine (callsIn_wide (n := 5)).1 ?_
  refine callsIn_of_wp_marks Tryd.func35 rfl trivial ?_ rfl
  simp only [Tryd.ntmps35, List.size_toArray, List.length_cons, List.length_nil, Nat.reduceAdd, Nat.reduceSub, Array.replicate_succ, Array.replicate_zero, List.push_toArray, List.append_toArray, List.nil_append, List.cons_append]
  gi_wp2
  apply wpIn_scope
  gi_wp2_with (apply wpIn_label)
  rw [E1.out]
  refine ⟨trivial, (callsIn_wide.2 H.out).mono ?_⟩
  rintro e w2 ⟨rfl, rfl⟩
  gi_wp2
  refine wp_range_cut (n := 5) (by omega) (by omega) w SS.out t (by omega) rfl rfl Q0.out Q1.out Q2.out HP.out
    (fun x => { tmps := #[.string (strOf t), undef, .slice none 0 0, .pointer (some ⟨w.heap.size, 0, none⟩), x, undef, undef, undef, .string (strOf t), seqF (w.heap.size + 1), x, undef, undef, undef, undef, undef, undef, undef, undef, undef, undef, undef, undef, undef, undef, undef, undef, undef, undef, undef, undef, undef, undef, undef, undef, undef, undef, undef, undef, undef, undef], defers := [] }) ?assign ?body ?done
  case assign =>
    intro l x W K hK
    gi_wp2
    exact hK
  case body =>
    intro l qs p W hpl hql hW hP
    have C0 := hideIt (CSt.start p hP)
    have HP0 := hideIt hP
    have HW := hideIt hW
    have HQ : Hid (qs.length < 100001) := hideIt (by omega)
    have HL := hideIt hpl
    clear hP hW hql hSL ht H Q0 Q1 Q2 SS HP E1
    gi_wp2
    generalize W.alloc (.cells #[.string (strOf p), .int .i64 0] 56) = wa at *
    refine ⟨trivial, ((Wide.round l).calls (next_all W.heap.size p 0 wa C0.out.rd (Nat.zero_le _) (by have := HL.out; omega))).mono ?_⟩
    rintro e w1 ⟨rfl, hr, hg⟩
    have I0 : Hid (CI w qs W p 0 (.int .u8 ((p.getD 0 0).toNat : Int)) (.bool (decide (0 < p.length))) w1) := hideIt ⟨Nat.zero_le _, rfl, rfl, C0.out.moved HW.out HP0.out hr hg, fun j hj => by omega⟩
    clear hr hg C0
    generalize ((p.getD 0 0).toNat : Int) = x0 at *
    generalize decide (0 < p.length) = b0 at *
    gi_wp2
    gi_loopw [6, 7] (fun c m wr => ∃ (k : Nat), CI w qs W p k c m wr) (fun c m wr => 2 * (p.length - rdPos wr W.heap.size) + boolN m)
    case atStart => exact ⟨0, I0.out⟩
    case round =>
      obtain ⟨k, hI⟩ := hrel
      have HI := hideIt hI
      obtain ⟨hk, rfl, rfl, cs, hn⟩ := hI
      have HC := hideIt cs
      have HN := hideIt hn
      clear cs hn I0
      obtain ⟨v, hv, ho⟩ := HC.out.st.pairs
      have c3 : wr.cell? ⟨w.heap.size, 0, none⟩ = some v := by rw [cell_of_row wr _ _ _ _ _ hv]; rfl
      have HV := hideIt hv
      have HO := hideIt ho
      have HS : Hid (w.heap.size + 6 ≤ wr.heap.size) := hideIt (by have := HC.out.rd.lt; have := HW.out; omega)
      clear hv ho
      by_cases hkl : k < p.length
      · rw [show min (k + 1) p.length = k + 1 by omega] at HC
        have hd : decide (k < p.length) = true := decide_eq_true hkl
        rw [hd] at HI ⊢
        obtain ⟨c, hc⟩ : ∃ c, p.getD k 0 = c := ⟨_, rfl⟩
        rw [hc] at HI ⊢
        clear hd
        by_cases h61 : c = 61
        · subst h61
          rw [show (((61 : UInt8).toNat : Nat) : Int) = 61 from rfl] at HI ⊢
          have hcut := cut_at hkl hc HN.out
          have HR : Hid (rawP p = (p.take k, p.drop (k + 1))) := hideIt (by unfold rawP; rw [hcut.1, hcut.2])
          have KP : Hid (k + 1 ≤ p.length) := hideIt (by omega)
          clear hcut hkl hc hk
          gi_wp2
          refine region_tail_in (Wide.round l) 7 [Fact.is v, Fact.is (.pointer (some ⟨W.heap.size, 0, none⟩)), Fact.str (p.take k), Fact.is (.pointer (some ⟨W.heap.size, 0, none⟩)), Fact.str (p.drop (k + 1)), Fact.is (.agg #[.string (strOf (p.take k)), .string (strOf (p.drop (k + 1)))]), Fact.pairs [(p.take k, p.drop (k + 1))]] (by kernel_rfl) (by kernel_rfl) (by kernel_rfl) (by kernel_rfl) ⟨fun a w1 m => ?_, fun a w1 m => ?_, fun a w1 m => ?_, fun a w1 m => ?_, fun a w1 m => ?_, fun a w1 m => ?_, fun a w1 m => ?_, trivial⟩ ?_
          · exact ok_loadP (wanted_none rfl) (.tmp 3) rfl _ _ (m.old 3 rfl) ((m.grew.cell (p := ⟨w.heap.size, 0, none⟩) (show w.heap.size < wr.heap.size by have := HS.out; omega)).trans c3)
          · exact ok_move (wanted_none rfl) (.tmp 5) rfl (m.old 5 rfl)
          · exact ok_fn (wanted_none rfl) _ _ _ rfl _ (map1 (m.has 1 28 rfl rfl)) go_ahead (ahead_any W.heap.size p k w1 (HC.out.rd.keep (m.grew.block _ HC.out.rd.lt)) KP.out (by have := HL.out; omega)) (by rintro e w' ⟨rfl, hb⟩; exact ⟨_, rfl, rfl, hb⟩)
          · exact ok_move (wanted_none rfl) (.tmp 5) rfl (m.old 5 rfl)
          · exact ok_fn (wanted_none rfl) _ _ _ rfl _ (map1 (m.has 3 30 rfl rfl)) go_behind (behind_any W.heap.size p (k + 1) w1 (HC.out.rd.keep (m.grew.block _ HC.out.rd.lt)) KP.out (by have := HL.out; omega)) (by rintro e w' ⟨rfl, hb⟩; exact ⟨_, rfl, rfl, hb⟩)
          · exact ok_pair (wanted_none rfl) (.tmp 29) (.tmp 31) rfl _ _ (m.has 2 29 rfl rfl) (m.has 4 31 rfl rfl)
          · exact ok_buildP (wanted_none rfl) (.tmp 32) rfl _ _ (m.has 5 32 rfl rfl)
          · intro f w3 hg3 hf3
            have h0 : f 0 = v := hf3 0 (by decide)
            obtain ⟨A, c, h6, _, hpa⟩ := hf3 6 (by decide)
            have hv3 : w3.heap[w.heap.size]? = some (.cells #[v] 29 (0, 0)) := (hg3.block _ (by have := HS.out; omega)).trans HV.out
            have ho3 := HO.out.keep hg3
            have hs3 : w.heap.size + 6 ≤ w3.heap.size := Nat.le_trans HS.out hg3.size
            have hst3 : PSt w qs w3 := ⟨HC.out.st.below.trans (hg3.mono (by have := HS.out; omega)), v, hv3, ho3⟩
            have hk3 : ∀ i, i < W.heap.size → w3.heap[i]? = W.heap[i]? := fun i hi => (hg3.block i (by have := HC.out.rd.lt; omega)).trans (HC.out.kept i hi)
            simp only [List.take, List.drop, putAll, Act.put, List.setIfInBounds_toArray, List.set_cons_succ, List.set_cons_zero]
            rw [h0, h6]
            refine wpListIn_appP rfl (.tmp 27) (.tmp 33) rfl (w.heap.size + 6) v _ rfl ho3 A c [(p.take k, p.drop (k + 1))] (Nat.zero_lt_succ _) rfl hpa (by simp only [List.length_map, List.length_cons, List.length_nil]; have := HQ.out; omega) hs3 ?_
            intro v' w' hp' hg'
            rw [← HR.out] at hp'
            obtain ⟨R1, R2, R3, R4⟩ := hst3.pushed hs3 hv3 ho3 hp' hg'
            obtain ⟨A', n', c', rfl⟩ : ∃ A n c, v' = .slice A n c := by obtain ⟨A', c', h, _⟩ := hp'.open; exact ⟨A', _, c', h⟩
            have F1 := hideIt R1
            have F2 : Hid (∀ i, w.heap.size < i → i < w.heap.size + 6 → (w'.setCell ⟨w.heap.size, 0, none⟩ (.slice A' n' c')).heap[i]? = W.heap[i]?) := hideIt fun i h1 h2 => (R2 i h1 h2).trans (hk3 i (by have := HW.out; omega))
            clear R1 R2 hk3 hst3 hs3 ho3 hv3 hpa h6 h0 hf3 hg3 hp' hg' HI HC HN HV HO HS HP0
            gi_wp2
            exact ⟨F1.out, F2.out⟩
        · have q61 : ((c.toNat : Int) == 61) = false := by
            rw [beq_eq_false_iff_ne]; intro h; exact h61 (UInt8.toNat_inj.1 (by have := Int.ofNat.inj h; exact this))
          gi_wp2
          refine ⟨trivial, ((Wide.round l).calls (next_all W.heap.size p (k + 1) wr HC.out.rd (by omega) (by have := HL.out; omega))).mono ?_⟩
          rintro e w9 ⟨rfl, hr, hg⟩
          have I3 : Hid (CI w qs W p (k + 1) (.int .u8 ((p.getD (k + 1) 0).toNat : Int)) (.bool (decide (k + 1 < p.length))) w9) := hideIt ⟨by omega, rfl, rfl, HC.out.moved HW.out HP0.out hr hg, fun j hj => by
            by_cases hjk : j = k
            · subst hjk; rw [hc]; exact h61
            · exact HN.out j (by omega)⟩
          have M3 := hideIt (less_ci HI.out hkl I3.out (by omega))
          clear hr hg HC
          generalize ((p.getD (k + 1) 0).toNat : Int) = x9 at *
          generalize decide (k + 1 < p.length) = b9 at *
          gi_wp2
          go_roundw
          case rel => exact ⟨_, I3.out⟩
          case measure => exact M3.out
      · have hd : decide (k < p.length) = false := decide_eq_false hkl
        rw [hd] at HI ⊢
        have hkp : k = p.length := by omega
        have hcut := cut_none (p := p) (by rw [← hkp]; exact HN.out)
        have HR : Hid (rawP p = (p, [])) := hideIt (by unfold rawP; rw [hcut.1, hcut.2])
        clear hcut hd hkp HI HN hk hkl
        generalize ((p.getD k 0).toNat : Int) = x at *
        have hb4 : Below wr.heap.size wr (wr.alloc (.cells #[.string (strOf p), .string ⟨#[]⟩] 33)) := below_one (Below.refl _ _) _
        have hpa : PairsAt (wr.alloc (.cells #[.string (strOf p), .string ⟨#[]⟩] 33)) (some ⟨wr.heap.size, 0, none⟩) [(p, [])] := pairs_one wr (p, [])
        obtain ⟨w3, hw3⟩ : ∃ w3, wr.alloc (.cells #[.string (strOf p), .string ⟨#[]⟩] 33) = w3 := ⟨_, rfl⟩
        rw [hw3] at hb4 hpa
        have hv3 : w3.heap[w.heap.size]? = some (.cells #[v] 29 (0, 0)) := (hb4.block _ (by have := HS.out; omega)).trans HV.out
        have ho3 := HO.out.keep hb4
        have hs3 : w.heap.size + 6 ≤ w3.heap.size := Nat.le_trans HS.out hb4.size
        have hst3 : PSt w qs w3 := ⟨HC.out.st.below.trans (hb4.mono (by have := HS.out; omega)), v, hv3, ho3⟩
        have hk3 : ∀ i, i < W.heap.size → w3.heap[i]? = W.heap[i]? := fun i hi => (hb4.block i (by have := HC.out.rd.lt; omega)).trans (HC.out.kept i hi)
        have A1 := hideIt hpa
        have A2 := hideIt hv3
        have A3 := hideIt ho3
        have A4 := hideIt hs3
        have A5 := hideIt hst3
        have A6 := hideIt hk3
        have A7 := hideIt hw3
        clear hb4 hpa hv3 ho3 hs3 hst3 hk3 hw3 HC HV HO HS HP0
        gi_wp2_with (rw [A7.out]; refine wpListIn_appP rfl (.tmp 35) (.tmp 38) rfl (w.heap.size + 6) v _ rfl A3.out (some ⟨wr.heap.size, 0, none⟩) 1 [(p, [])] (Nat.zero_lt_succ _) rfl A1.out (by simp only [List.length_map, List.length_cons, List.length_nil]; have := HQ.out; omega) A4.out ?_; fail_if_success done)
        intro v' w' hp' hg'
        rw [← HR.out] at hp'
        obtain ⟨R1, R2, R3, R4⟩ := A5.out.pushed A4.out A2.out A3.out hp' hg'
        obtain ⟨A', n', c', rfl⟩ : ∃ A n c, v' = .slice A n c := by obtain ⟨A', c', h, _⟩ := hp'.open; exact ⟨A', _, c', h⟩
        have F1 := hideIt R1
        have F2 : Hid (∀ i, w.heap.size < i → i < w.heap.size + 6 → (w'.setCell ⟨w.heap.size, 0, none⟩ (.slice A' n' c')).heap[i]? = W.heap[i]?) := hideIt fun i h1 h2 => (R2 i h1 h2).trans (A6.out i (by have := HW.out; omega))
        clear R1 R2 hp' hg' A1 A2 A3 A4 A5 A6 A7
        gi_wp2
        exact ⟨F1.out, F2.out⟩
  case done =>
    intro W2 hP2 hlt hdf
    obtain ⟨v, hv, ho⟩ := hP2.pairs
    have hb := hP2.below
    have c3 : W2.cell? ⟨w.heap.size, 0, none⟩ = some v := by rw [cell_of_row W2 _ _ _ _ _ hv]; rfl
    have R : Hid (POwn w.heap.size v ((splitL 38 t).map rawP) (W2.putObj (w.heap.size + 4) (.deferred none)) ∧ Below w.heap.size w (W2.putObj (w.heap.size + 4) (.deferred none))) := hideIt ⟨(ho.block fun g hg => World.putObj_heap_other (by have := (ho.lt g hg).1; omega)).base (by omega), ⟨hb.os, hb.tape, hb.output, by rw [World.putObj_size]; exact hb.size, fun i hi => (World.putObj_heap_other (by omega)).trans (hb.block i hi)⟩⟩
    clear hv ho hb hP2
    gi_wp2_with (simp only [Exit.noGoto])
    refine ⟨by simp, .inl ⟨_, _, rfl, run_takeDeferred hdf, ?_⟩⟩
    refine ⟨_, results_tmp (t := 2) rfl _ _ _, ?_⟩
    exact ⟨v, rfl, R.out.1, R.out.2⟩
theorem go_cut : goFn Tryd.prog 35 = true := by kernel_rfl
end Go.Proofs.YtccppgiigkmdbaaDoor
