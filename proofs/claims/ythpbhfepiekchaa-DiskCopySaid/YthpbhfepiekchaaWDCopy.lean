/- The walk of DiskCopy. -/
import Derived.Test.YthpbhfepiekchaaDeedFacts
namespace Go.Proofs.Ythpbhfepiekchaa
open Go.ChangeShapes Go.WideShapes Go.ChangeAt Go.RowKit
set_option linter.unusedVariables false
set_option linter.unusedSimpArgs false

/-- what stands at a round's head -/
structure CpSt (w wr : World) (d tb : Nat) (S : Nat → Prop) (D : DiskP) (A : Option Addr) (n c rm : Nat) (fu : Bool) (left : Int) (dd : Bool) : Prop where
  disk : DiskM wr d S D
  tl : TL wr (fun k => S k ∨ k = tb) A n c rm fu left dd D
  head : TAt wr tb #[.slice A n c, .int .i64 (rm : Int), .bool fu, .int .i64 left, .bool dd]
  low : ∀ k, S k → w.heap.size ≤ k
  ntb : ¬ S tb
  ltb : w.heap.size ≤ tb
  below : Below w.heap.size w wr
  zz : findP D.files zzS = none
/-- a deed, run by both -/
theorem CpSt.turned {w wr w' : World} {d tb : Nat} {S S' : Nat → Prop} {E : DiskP} {A : Option Addr} {n c rm : Nat} {fu : Bool} {left : Int} {dd : Bool} (hlow : ∀ k, S k → w.heap.size ≤ k) (hntb : ¬ S tb) (hltb : w.heap.size ≤ tb) (hbel : Below w.heap.size w wr) (hh : TAt wr tb #[.slice A n c, .int .i64 (rm : Int), .bool fu, .int .i64 left, .bool dd]) (ht : TL wr (fun k => S k ∨ k = tb) A n c rm fu left dd E)
    (hd : DiskM w' d S' E) (htn : Turn S wr w') (hs : ∀ k, S' k → S k ∨ wr.heap.size ≤ k) (hz : findP E.files zzS = none) : CpSt w w' d tb S' E A n c rm fu left dd := by
  have hsz := hbel.size
  refine ⟨hd, ?_, hh.keep (htn.block _ hh.lt hntb), fun k hk => ?_, fun h => ?_, hltb, hbel.trans (htn.below hsz hlow), hz⟩
  · have h1 := ht.fresh (Below.refl _ _) (fun k => (S k ∨ k = tb) ∨ wr.heap.size ≤ k) fun k hk => hk
    have h2 := h1.turn (htn.mono fun k hk => Or.inl (Or.inl hk))
    refine h2.weak _ fun k hk => ?_
    rcases hk with hk | hk
    · rcases hs k hk with h3 | h3
      · exact Or.inl (Or.inl h3)
      · exact Or.inr h3
    · exact Or.inl (Or.inr hk)
  · rcases hs k hk with h3 | h3
    · exact hlow k h3
    · omega
  · rcases hs _ h with h3 | h3
    · exact hntb h3
    · have := hh.lt; omega
set_option maxRecDepth 100000 in
set_option maxHeartbeats 16000000 in
theorem dcopy_walk {w : World} {A : Option Addr} {ds : List DeedR} (n c : Nat) (hn : ds.length = n) (hm : n ≤ 9223372036854775807) (hA : DeedsAt w A ds) (hx : ∀ x ∈ ds, x.ok w) (bA : Option Addr) (b : List UInt8) (bn bc : Nat) (hp : PieceOk w ⟨bA, bc, b⟩) (hbn : b.length = bn) : Calls Try.prog 4 #[.slice A n c, .slice bA bn bc] w fun e w' => e = .returned (.bool true) ∧ Below w.heap.size w w' := by
  have HH := hideIt (heavy_any hA n c hn hm)
  have HA := hideIt hA
  have HX := hideIt hx
  have HP := hideIt hp
  have HNN := hideIt hn
  have HBN := hideIt hbn
  have hlong : bn ≤ 9223372036854775807 := by have := hp.long; simp only at this; omega
  have HM := hideIt hm
  clear hA hx hp hn hbn hm
  go_enter Try.func4, Try.ntmps4
  go_wp2_with fail
  refine HH.out.mono ?_
  rintro e w1 ⟨⟨hv, rfl⟩, hb1⟩
  have HB1 := hideIt hb1
  have HKN := hideIt (known12_any w1)
  clear hb1
  cases hv with
  | true =>
    go_wp2_with fail
    refine HKN.out.mono ?_
    rintro e w2 ⟨rfl, hb2⟩
    have HB2 := hideIt (HB1.out.trans (hb2.mono HB1.out.size))
    clear hb2
    go_wp2_with fail
    go_ret
    exact ⟨rfl, HB2.out⟩
  | false =>
    by_cases h100 : 100 < bn
    · have hgt : (100 : Int) < (bn : Int) := by omega
      go_wp2_with fail
      refine HKN.out.mono ?_
      rintro e w2 ⟨rfl, hb2⟩
      have HB2 := hideIt (HB1.out.trans (hb2.mono HB1.out.size))
      clear hb2
      go_wp2_with fail
      go_ret
      exact ⟨rfl, HB2.out⟩
    · have hgt : ¬ (100 : Int) < (bn : Int) := by omega
      have hgt2 : decide (100 < bn) = false := decide_eq_false h100
      have hb100 : bn ≤ 100 := by omega
      clear HKN
      have HNW := hideIt (new_any 5000 w1)
      go_wp2_with fail
      refine HNW.out.mono ?_
      rintro e w2 ⟨d, S0, rfl, hD2, hB2, hS2⟩
      have HD2 := hideIt hD2
      have HB2 := hideIt (HB1.out.trans (hB2.mono HB1.out.size))
      have HS2 : Hid (∀ k, S0 k → w.heap.size ≤ k) := hideIt fun k hk => Nat.le_trans HB1.out.size (hS2 k hk)
      have HRN := hideIt (rnew_any w2 S0 5000)
      clear hD2 hB2 hS2
      go_wp2_with fail
      refine HRN.out.mono ?_
      rintro e w3 ⟨v3, rfl, hT3, hB3⟩
      obtain ⟨A3, n3, c3, rm3, fu3, left3, dd3, rfl, hTL3⟩ := hT3.letters
      unfold tV tC
      obtain ⟨hU, hBU, hSU⟩ := third_new w3 (.slice A3 n3 c3) (.int .i64 (rm3 : Int)) (.bool fu3) (.int .i64 left3) (.bool dd3)
      have hst : CpSt w (w3.alloc (.cells #[.slice A3 n3 c3, .int .i64 (rm3 : Int), .bool fu3, .int .i64 left3, .bool dd3] 37)) d w3.heap.size S0 (newP 5000) A3 n3 c3 rm3 fu3 left3 dd3 :=
        ⟨(HD2.out.below hB3).below hBU, hTL3.fresh hBU (fun k => S0 k ∨ k = w3.heap.size) (fun k hk => by rcases hk with h1 | h1; exact Or.inl h1; exact Or.inr (Nat.le_of_eq h1.symm)), hU, HS2.out, fun h => by have := (HD2.out.below hB3).low _ h; omega, Nat.le_trans HB2.out.size hB3.size, (HB2.out.trans (hB3.mono HB2.out.size)).trans (hBU.mono (Nat.le_trans HB2.out.size hB3.size)), rfl⟩
      have HST := hideIt hst
      clear hU hBU hSU hst hT3 hTL3 hB3
      go_upto_region 5 with fail
      generalize w3.alloc (.cells #[.slice A3 n3 c3, .int .i64 (rm3 : Int), .bool fu3, .int .i64 left3, .bool dd3] 37) = X4 at *
      generalize w3.heap.size = tb at *
      go_wp2_with fail
      go_loopw [7] (fun i wr => ∃ (j : Nat) (S : Nat → Prop) (D : DiskP) (A' : Option Addr) (n' c' rm' : Nat) (fu' : Bool) (left' : Int) (dd' : Bool), i = .int .i64 (j : Int) ∧ j ≤ n ∧ CpSt w wr d tb S D A' n' c' rm' fu' left' dd') (fun i wr => n - (intOf i).toNat)
      case atStart => exact ⟨0, _, _, _, _, _, _, _, _, _, rfl, by omega, HST.out⟩
      case round =>
        obtain ⟨j, S, D, A', n', c', rm', fu', left', dd', rfl, hj, hst⟩ := hrel
        have HSR := hideIt hst
        have HT := hideIt hst.head
        clear hst
        by_cases hlt : j < n
        · have hlt' : (j : Int) < (n : Int) := by omega
          have hwj : IntKind.i64.wrap ((j : Int) + 1) = (j : Int) + 1 := IntWalk.i64_in _ (by have := HM.out; omega)
          obtain ⟨x, hxj⟩ : ∃ x, ds[j]? = some x := ⟨_, List.getElem?_eq_getElem (by rw [HNN.out]; exact hlt)⟩
          have HOK := hideIt (HX.out x (List.mem_of_getElem? hxj))
          obtain ⟨bb, off, rfl, hbb, hc⟩ := (HA.out.keep HSR.out.below) (by rw [HNN.out]; omega)
          obtain ⟨k0, k1, k2, k3, k4⟩ := hc j x hxj
          have HC := hideIt (And.intro k0 (And.intro k1 (And.intro k2 (And.intro k3 k4))))
          have HBB := hideIt hbb
          have HJ := hideIt hlt
          have HTL := hideIt HT.out.lt
          have HOK2 := hideIt (HOK.out.keep HSR.out.below)
          have HXJ := hideIt hxj
          clear hc hxj hbb k0 k1 k2 k3 k4
          obtain ⟨R, hR⟩ : ∃ R, runP D (kindK x.kind) (nameK x.a) (nameK x.z) (numK x.kind x.n) x.b = R := ⟨_, rfl⟩
          have HR := hideIt hR
          have HROK : Hid (OkP R.1) := hideIt (by rw [← hR]; exact runP_ok HSR.out.disk.1 _ _ _ _ _)
          have HRZ : Hid (findP R.1.files zzS = none) := hideIt (by rw [← hR]; exact run_zz HSR.out.zz (nameK_zz _) (nameK_zz _) _ _)
          clear hR
          have hl1 := nameK_len x.a
          have hl2 := nameK_len x.z
          have HRR := hideIt (show ∀ u v, Below wr.heap.size wr u → v = tV (.slice A' n' c') rm' fu' left' dd' → _ from fun u v hu hv => hv ▸ rrun_all (HSR.out.tl.keep hu).is HSR.out.disk.1 (fun k hk => Nat.lt_of_lt_of_le (by rcases hk with h1 | rfl; exact HSR.out.disk.low k h1; exact HSR.out.head.lt) hu.size) (kindK x.kind) (kindK_in x.kind) (nameK x.a) (nameK x.z) (by omega) (by omega) (numK x.kind x.n) (numK_in _ _ HOK2.out.2.2.2.1) x.A x.c x.b.length x.b rfl (HOK2.out.2.2.2.2.keep hu))
          rw [HR.out] at HRR
          have HDO := hideIt (fun u (hu : Below wr.heap.size wr u) => do_any u x x.b.length (HOK2.out.keep hu) rfl)
          clear hl1 hl2
          obtain ⟨rr, hrr⟩ : ∃ rr, R.2 = rr := ⟨_, rfl⟩
          have HRB := hideIt hrr
          clear hrr
          go_upto_region 8 with fail
          refine region_tailX 11 9 [Fact.is (.agg #[.slice A' n' c', .int .i64 (rm' : Int), .bool fu', .int .i64 left', .bool dd']), Fact.is (.slice (some ⟨bb, off, none⟩) n c), Fact.is (.int .i64 (j : Int)), Fact.is (.pointer (some ⟨bb, off + j * 5, none⟩)), Fact.is (.agg #[.int .u8 (x.kind : Int), .int .u8 (x.a : Int), .int .u8 (x.z : Int), .int .i64 x.n, .slice x.A x.b.length x.c]), Fact.is (doV ((kindK x.kind : Nat) : Int) (nameK x.a) (nameK x.z) (numK x.kind x.n) x.A x.b.length x.c), Fact.two12 (fun k => S k ∨ k = tb) R, Fact.two12 (fun k => S k ∨ k = tb) R, Fact.tis (fun k => S k ∨ k = tb) R.1, Fact.is (.bool rr), Fact.newT wr.heap.size] (by kernel_rfl) (by kernel_rfl) (by kernel_rfl) rfl (by kernel_rfl) (fun _ _ _ _ h => h) (fun a w1 m => ?_) ⟨fun a w1 m => ?_, fun a w1 m => ?_, fun a w1 m => ?_, fun a w1 m => ?_, fun a w1 m => ?_, fun a w1 m => ?_, fun a w1 m => ?_, fun a w1 m => ?_, fun a w1 m => ?_, fun a w1 m => ?_, fun a w1 m => ?_, trivial⟩ ?_
          · obtain ⟨u, h1, h2⟩ := m.has 7 35 rfl rfl
            refine ⟨.bool rr, Or.inl ⟨by rfl, fun w => ?_⟩, rfl⟩
            have e : a.eval (.tmp 35) = .tuple #[u, .bool R.2] := h1
            rw [HRB.out] at e
            have hq : ∀ w, (Instr.extract (.tuple #[u, .bool rr]) 1).run Try.prog w = .ok (.bool rr) w := fun w => by go_simp
            simp [execOp, e, hq, Result.andThen]
          · exact ok_loadTT (wanted_none rfl) (.tmp 6) rfl (tb) _ _ _ _ _ (m.old 6 rfl) (HT.out.keep (m.grew.block _ HTL.out))
          · exact ok_move (wanted_none rfl) (.tmp 0) rfl (m.old 0 rfl)
          · exact ok_move (wanted_none rfl) (.tmp 7) rfl (m.old 7 rfl)
          · exact ok_indexDd (wanted_none rfl) (.tmp 37) (.tmp 38) rfl bb off n c j (m.has 1 37 rfl rfl) (m.has 2 38 rfl rfl) HJ.out
          · exact ok_loadDd (wanted_none rfl) (.tmp 39) rfl bb (off + j * 5) _ _ _ _ _ (m.has 3 39 rfl rfl) ((m.grew.cell (p := ⟨bb, off + j * 5, none⟩) HBB.out).trans HC.out.1) ((m.grew.cell (p := ⟨bb, off + j * 5 + 1, none⟩) HBB.out).trans HC.out.2.1) ((m.grew.cell (p := ⟨bb, off + j * 5 + 2, none⟩) HBB.out).trans HC.out.2.2.1) ((m.grew.cell (p := ⟨bb, off + j * 5 + 3, none⟩) HBB.out).trans HC.out.2.2.2.1) ((m.grew.cell (p := ⟨bb, off + j * 5 + 4, none⟩) HBB.out).trans HC.out.2.2.2.2)
          · exact ok_fn (wanted_none rfl) _ _ _ rfl _ (map1 (m.has 4 40 rfl rfl)) go_do (HDO.out w1 m.grew) (fun e w' ⟨h1, h2⟩ => ⟨_, h1, rfl, h2⟩)
          · exact ok_fn (wanted_none rfl) _ _ _ rfl _ (map2 (m.has 0 36 rfl rfl) (m.has 5 41 rfl rfl)) go_rrun (HRR.out w1 _ m.grew rfl) (fun e w' ⟨v, h1, h2, h3⟩ => ⟨_, h1, ⟨v, rfl, h2⟩, h3⟩)
          · exact ok_move (wanted_none rfl) (.tmp 42) rfl (m.has 6 42 rfl rfl)
          · exact ok_extract0 (wanted_none rfl) (.tmp 35) rfl _ _ (m.has 7 35 rfl rfl)
          · obtain ⟨u, h1, h2⟩ := m.has 7 35 rfl rfl
            exact ok_extract (wanted_none rfl) (.tmp 35) 1 rfl _ h1 _ (by rw [HRB.out]; rfl)
          · exact ok_allocT (wanted_none rfl) rfl wr.heap.size m.grew.size
          intro f w9 hg hf
          have e9 : f 9 = .bool rr := hf 9 (by decide)
          have e8 : TIs w9 (fun k => S k ∨ k = tb) (f 8) R.1 := hf 8 (by decide)
          obtain ⟨g, e10, hge, hZg⟩ := hf 10 (by decide)
          clear hf
          obtain ⟨A5, n5, c5, rm5, fu5, left5, dd5, e8', hT9⟩ := (e8.awayT hZg).letters
          clear e8
          unfold tV tC at e8'
          simp only [List.take, List.drop, putAll, Act.put, List.setIfInBounds_toArray, List.set_cons_succ, List.set_cons_zero]
          rw [e9, e8', show f 10 = _ from e10]
          clear e9 e8' e10
          have HX9 := hideIt (HT.out.keep (hg.block _ HTL.out))
          have HT9 := hideIt (hT9.turn (turn_set5 w9 g (Or.inr rfl) (.slice A5 n5 c5) (.int .i64 (rm5 : Int)) (.bool fu5) (.int .i64 left5) (.bool dd5)))
          have HGE := hideIt hge
          have HZS := hideIt (hZg.set5 (.slice A5 n5 c5) (.int .i64 (rm5 : Int)) (.bool fu5) (.int .i64 left5) (.bool dd5))
          have HX5 := hideIt (HX9.out.keep (heap_set5 w9 g (.slice A5 n5 c5) (.int .i64 (rm5 : Int)) (.bool fu5) (.int .i64 left5) (.bool dd5) tb (by have := HTL.out; omega)))
          have HB5 : Hid (Below wr.heap.size wr _) := hideIt (below_set5 hg hge (.slice A5 n5 c5) (.int .i64 (rm5 : Int)) (.bool fu5) (.int .i64 left5) (.bool dd5))
          obtain ⟨z0, z1, z2, z3, z4, y0, y1, y2, y3, y4, _⟩ := hZg.all
          clear hZg hT9 hge hg
          go_upto_region 9 with fail
          clear z0 z1 z2 z3 z4 y0 y1 y2 y3 y4
          generalize ((((w9.setCell ⟨g, 0, none⟩ (.slice A5 n5 c5)).setCell ⟨g, 1, none⟩ (.int .i64 (rm5 : Int))).setCell ⟨g, 2, none⟩ (.bool fu5)).setCell ⟨g, 3, none⟩ (.int .i64 left5)).setCell ⟨g, 4, none⟩ (.bool dd5) = X5 at *
          obtain ⟨v0, v1, v2, v3, v4, f0, f1, f2, f3, f4, vl⟩ := HZS.out.all
          obtain ⟨q0, q1, q2, q3, q4, e0, e1, e2, e3, e4, ql⟩ := HX5.out.all
          have HX6 := hideIt (HX5.out.set5 (.slice A5 n5 c5) (.int .i64 (rm5 : Int)) (.bool fu5) (.int .i64 left5) (.bool dd5))
          have HT6 := hideIt ((HT9.out.turn (turn_set5 X5 tb (Or.inl (Or.inr rfl)) (.slice A5 n5 c5) (.int .i64 (rm5 : Int)) (.bool fu5) (.int .i64 left5) (.bool dd5))).weak (fun k => S k ∨ k = tb) fun k hk => Or.inl hk)
          have HD6 := hideIt ((HSR.out.disk.below HB5.out).turn (turn_set5 (S := fun k => k = tb) X5 tb rfl (.slice A5 n5 c5) (.int .i64 (rm5 : Int)) (.bool fu5) (.int .i64 left5) (.bool dd5)) fun k hk e => HSR.out.ntb (e ▸ hk))
          have HB6 : Hid (Below w.heap.size w _) := hideIt (below_set5 (HSR.out.below.trans (HB5.out.mono HSR.out.below.size)) HSR.out.ltb (.slice A5 n5 c5) (.int .i64 (rm5 : Int)) (.bool fu5) (.int .i64 left5) (.bool dd5))
          go_upto_region 10 with fail
          clear v0 v1 v2 v3 v4 f0 f1 f2 f3 f4 vl q0 q1 q2 q3 q4 e0 e1 e2 e3 e4 ql
          generalize ((((X5.setCell ⟨tb, 0, none⟩ (.slice A5 n5 c5)).setCell ⟨tb, 1, none⟩ (.int .i64 (rm5 : Int))).setCell ⟨tb, 2, none⟩ (.bool fu5)).setCell ⟨tb, 3, none⟩ (.int .i64 left5)).setCell ⟨tb, 4, none⟩ (.bool dd5) = X6 at *
          obtain ⟨bb3, off3, e3, hbb3, hc⟩ := (HA.out.keep HB6.out) (by rw [HNN.out]; omega)
          obtain ⟨rfl, rfl⟩ : bb = bb3 ∧ off = off3 := by simpa using e3
          obtain ⟨k0, k1, k2, k3, k4⟩ := hc j x HXJ.out
          have HDO2 := hideIt (do_any X6 x x.b.length (HOK.out.keep HB6.out) rfl)
          clear e3 hbb3 hc
          go_wp2_with fail
          refine HDO2.out.mono ?_
          rintro e w7 ⟨rfl, hb7⟩
          have HB7 := hideIt (HB6.out.trans (hb7.mono HB6.out.size))
          have HD7 := hideIt (HD6.out.below hb7)
          have HT7 := hideIt (HT6.out.keep hb7)
          have HX7 := hideIt (HX6.out.keep (hb7.block _ HX6.out.lt))
          have hl1 := nameK_len x.a
          have hl2 := nameK_len x.z
          have hpr := prun_all HD7.out (kindK x.kind) (kindK_in x.kind) (nameK x.a) (nameK x.z) (by omega) (by omega) (numK x.kind x.n) (numK_in _ _ HOK.out.2.2.2.1) x.A x.c x.b.length x.b rfl (HOK.out.2.2.2.2.keep HB7.out) (fun k hk => rp_new HOK.out.2.2.2.2 (HSR.out.low k hk))
          rw [HR.out] at hpr
          have HPR := hideIt hpr
          clear hl1 hl2 hpr hb7 k0 k1 k2 k3 k4
          go_wp2_with fail
          refine HPR.out.mono ?_
          rintro e w8 ⟨rfl, S', hD8, ht8, hs8⟩
          have HST8 := hideIt (CpSt.turned HSR.out.low HSR.out.ntb HSR.out.ltb HB7.out HX7.out HT7.out hD8 ht8 hs8 HRZ.out)
          clear hD8 ht8 hs8
          go_wp2_with fail
          go_roundw
          case rel => exact ⟨j + 1, S', R.1, A5, n5, c5, rm5, fu5, left5, dd5, by simp, by omega, HST8.out⟩
          case measure => simp [intOf]; omega
        · have hlt' : ¬ (j : Int) < (n : Int) := by omega
          have hlt2 : decide (j < n) = false := decide_eq_false (by omega)
          have HCP := hideIt (copy_any HSR.out.disk)
          go_wp2_with fail
          refine HCP.out.mono ?_
          rintro e w5 ⟨d2, S2, rfl, hD5, hB5, hS5⟩
          have HD5 := hideIt hD5
          have HDO5 := hideIt (HSR.out.disk.below hB5)
          have HT5 := hideIt (HSR.out.tl.keep hB5)
          have HX5 := hideIt (HT.out.keep (hB5.block _ HT.out.lt))
          have HB5 := hideIt (HSR.out.below.trans (hB5.mono HSR.out.below.size))
          have HS5 : Hid (∀ k, S2 k → ¬ S k ∧ k ≠ tb ∧ w.heap.size ≤ k) := hideIt fun k hk => ⟨fun h => by have := HSR.out.disk.low k h; have := hS5 k hk; omega, by have := HT.out.lt; have := hS5 k hk; omega, Nat.le_trans HSR.out.below.size (hS5 k hk)⟩
          have HCR := hideIt (crash_any HDO5.out 0 (by omega))
          clear hD5 hB5 hS5
          go_wp2_with fail
          refine HCR.out.mono ?_
          rintro e w6 ⟨rfl, hD6, ht6⟩
          have HD6 := hideIt hD6
          have HC6 := hideIt (HD5.out.turn ht6 fun k hk => (HS5.out k hk).1)
          have HT6 := hideIt (HT5.out.turn (ht6.mono fun k hk => Or.inl hk))
          have HX6 := hideIt (HX5.out.keep (ht6.block _ HX5.out.lt HSR.out.ntb))
          have HB6 := hideIt (HB5.out.trans (ht6.below HB5.out.size HSR.out.low))
          have HP6 := hideIt (HP.out.keep HB6.out)
          clear hD6 ht6
          go_wp2_with (at_builtin; refine wpList_app rfl (.tmp 57) (.tmp 58) rfl w6.heap.size (.slice none 0 0) 0 [] rfl (own_none _ _ _) bA bn bc _ b rfl HBN.out HP6.out.nil HP6.out.bytes (by omega) (Nat.le_refl _) ?_)
          intro v7 w7 o7 g7
          have hb7 := below_made g7
          have o7' : w7.ownsRow w6.heap.size 5 1 v7 bn (cellsOf b) := by simpa using o7
          obtain ⟨XA, xc, rfl, _, hpx⟩ := own_pieceAny o7' (by omega)
          have HPX := hideIt hpx
          have HS67 : Hid (w6.heap.size ≤ w7.heap.size) := hideIt hb7.size
          have HB7 := hideIt (HB6.out.trans (hb7.mono HB6.out.size))
          have HD7 := hideIt (HD6.out.below hb7)
          have HC7 := hideIt (HC6.out.below hb7)
          have HT7 := hideIt (HT6.out.fresh hb7 (fun k => (S k ∨ k = tb) ∨ w6.heap.size ≤ k) fun k hk => hk)
          have HX7 := hideIt (HX6.out.keep (hb7.block _ HX6.out.lt))
          have HSP7 : Hid (bn = 0 ∨ ∃ gx, XA = some ⟨gx, 0, none⟩ ∧ w6.heap.size ≤ gx ∧ gx < w7.heap.size ∧ Spoil w7 gx bn) := hideIt (by
            rcases spoil_own o7' with ⟨_, h2, _⟩ | ⟨gx, cx, h1, h2, h3, h4⟩
            · exact Or.inl h2
            · obtain ⟨h5, _⟩ : XA = some ⟨gx, 0, none⟩ ∧ xc = cx := by simpa using h1
              exact Or.inr ⟨gx, h5, h2, h3, h4⟩)
          have HL6 : Hid (∀ k, S k → k < w6.heap.size) := hideIt HD6.out.low
          have HL62 : Hid (∀ k, S2 k → k < w6.heap.size) := hideIt HC6.out.low
          have HAP := hideIt (append_any HD7.out zzS (by decide) XA b bn xc HPX.out HBN.out (fun k hk hn ad e he => by
            rcases HSP7.out with h1 | ⟨gx, h1, h2, _⟩
            · have := HBN.out; omega
            · rw [h1] at e
              cases e
              have := HL6.out k hk
              simp only at he
              omega))
          clear o7 o7' g7 hb7 hpx
          obtain ⟨Q, hQ⟩ : ∃ Q, appendP (crashP D 0) zzS b = Q := ⟨_, rfl⟩
          rw [hQ] at HAP
          have HQY : Hid (readL Q.1 zzS = b ∨ readL Q.1 zzS = []) := hideIt (hQ ▸ read_zz HSR.out.zz b)
          clear hQ
          go_wp2_with fail
          refine HAP.out.mono ?_
          rintro e w8 ⟨rfl, S3, hD8, ht8, hs8⟩
          have HD8 := hideIt hD8
          have HC8 := hideIt (HC7.out.turn ht8 fun k hk => (HS5.out k hk).1)
          have HT8 := hideIt (HT7.out.turn (ht8.mono fun k hk => Or.inl (Or.inl hk)))
          have HW6 : Hid (w6.heap.size ≤ w8.heap.size) := hideIt (Nat.le_trans HS67.out ht8.size)
          have HX8 := hideIt (HX7.out.keep (ht8.block _ HX7.out.lt HSR.out.ntb))
          have HB8 := hideIt (HB7.out.trans (ht8.below HB7.out.size HSR.out.low))
          have HS8 : Hid (∀ k, S3 k → w.heap.size ≤ k) := hideIt fun k hk => by
            rcases hs8 k hk with h1 | h1
            · exact HSR.out.low k h1
            · exact Nat.le_trans HB7.out.size h1
          obtain ⟨gx, HGX⟩ : ∃ gx, Hid ((bn = 0 ∨ XA = some ⟨gx, 0, none⟩ ∧ Spoil w8 gx bn) ∧ ¬ S3 gx ∧ ¬ S2 gx ∧ ¬ S gx ∧ gx ≠ tb ∧ w.heap.size ≤ gx ∧ w6.heap.size ≤ gx) := by
            rcases HSP7.out with h1 | ⟨gx, h1, h2, h3, h4⟩
            · exact ⟨w8.heap.size, hideIt ⟨Or.inl h1, fun h => by have := HD8.out.low _ h; omega, fun h => by have := HC8.out.low _ h; omega, fun h => by have := HL6.out _ h; have := HB7.out.size; have := ht8.size; have := HD7.out.low _ h; omega, by have := HX8.out.lt; omega, HB8.out.size, HW6.out⟩⟩
            · have hns : ¬ S gx := fun h => by have := HL6.out gx h; omega
              exact ⟨gx, hideIt ⟨Or.inr ⟨h1, h4.keep (ht8.block gx h3 hns)⟩, fun h => by
                rcases hs8 gx h with h5 | h5
                · exact hns h5
                · omega, fun h => by have := HL62.out gx h; omega, hns, by have := HX6.out.lt; omega, Nat.le_trans HB6.out.size h2, h2⟩⟩
          clear hD8 ht8 hs8 HSP7
          generalize Q.2 = qb at *
          go_wp2_with fail
          go_loopw [12] (fun i wx => ∃ (j : Nat), i = .int .i64 (j : Int) ∧ j ≤ bn ∧ Turn (fun k => k = gx) w8 wx ∧ (bn = 0 ∨ Spoil wx gx bn)) (fun i _ => bn - (intOf i).toNat)
          case atStart => exact ⟨0, rfl, by omega, Turn.refl _ _, HGX.out.1.imp id And.right⟩
          case round =>
            obtain ⟨j3, rfl, hj3, ht, hsp⟩ := hrel
            by_cases hlt3 : j3 < bn
            · have hlt3' : (j3 : Int) < (bn : Int) := by omega
              have hwj3 : IntKind.i64.wrap ((j3 : Int) + 1) = (j3 : Int) + 1 := IntWalk.i64_in _ (by omega)
              obtain rfl : XA = some ⟨gx, 0, none⟩ := by
                rcases HGX.out.1 with h1 | h1
                · omega
                · exact h1.1
              have hsp2 : Spoil wr gx bn := by
                rcases hsp with h1 | h1
                · omega
                · exact h1
              obtain ⟨xb, hxb⟩ := hsp2.cell hlt3
              have hfz := hsp2.fz j3
              have hup := up8 xb
              have HSP3 := hideIt (hsp2.set j3 (xb + 1))
              have HTT := hideIt (ht.trans (turn_cell _ ⟨gx, j3, none⟩ (.int .u8 (((xb + 1).toNat : Nat) : Int)) (fun k => k = gx) rfl) fun i hi => Or.inl hi)
              clear hsp hsp2 ht
              generalize (xb + 1).toNat = xb1 at *
              generalize xb.toNat = xb0 at *
              go_wp2_with fail
              go_roundw
              case rel => exact ⟨j3 + 1, by simp, by omega, HTT.out, Or.inr HSP3.out⟩
              case measure => simp [intOf]; omega
            · have hlt3' : ¬ (j3 : Int) < (bn : Int) := by omega
              have hlt32 : decide (j3 < bn) = false := decide_eq_false hlt3
              have HDL := hideIt (HD8.out.turn ht fun k hk e => HGX.out.2.1 (e ▸ hk))
              have HCL := hideIt (HC8.out.turn ht fun k hk e => HGX.out.2.2.1 (e ▸ hk))
              have HTL := hideIt (HT8.out.turn (ht.mono fun k hk => Or.inr (by have := HGX.out.2.2.2.2.2.2; omega)))
              have HXL := hideIt (HX8.out.keep (ht.block _ HX8.out.lt fun e => HGX.out.2.2.2.2.1 e.symm))
              have HBL := hideIt (HB8.out.trans (ht.below HB8.out.size fun i hi => by have := HGX.out.2.2.2.2.2.1; omega))
              have HWL : Hid (w6.heap.size ≤ wr.heap.size) := hideIt (Nat.le_trans HW6.out ht.size)
              have HRD := hideIt (read_any HDL.out zzS)
              clear hsp ht
              go_wp2_with fail
              refine HRD.out.mono ?_
              rintro e w10 ⟨v10, rfl, hv10, hb10⟩
              obtain ⟨Y, hY⟩ : ∃ Y, readL Q.1 zzS = Y := ⟨_, rfl⟩
              have hYb := HQY.out
              rw [hY] at hv10 hYb
              have HYE := hideIt hY
              obtain ⟨yn, hyn⟩ : ∃ yn, Y.length = yn := ⟨_, rfl⟩
              rw [hyn] at hv10
              have HYN := hideIt hyn
              have hy100 : yn ≤ 100 := by
                rcases hYb with h1 | h1
                · have := HBN.out; rw [h1] at hyn; omega
                · rw [h1] at hyn; simp at hyn; omega
              have HSPY : Hid (yn = 0 ∨ ∃ gy, v10 = v10 ∧ (∃ yc, v10 = .slice (some ⟨gy, 0, none⟩) yn yc) ∧ wr.heap.size ≤ gy ∧ gy < w10.heap.size ∧ Spoil w10 gy yn) := hideIt (by
                rcases spoil_own hv10 with ⟨_, h2, _⟩ | ⟨gy, cy, h1, h2, h3, h4⟩
                · exact Or.inl h2
                · exact Or.inr ⟨gy, rfl, ⟨cy, h1⟩, h2, h3, h4⟩)
              obtain ⟨YA, yc, rfl, _, hpy⟩ := own_pieceAny hv10 (by omega)
              generalize (findP Q.1.files zzS).isSome = ys at *
              have HD10 := hideIt (HDL.out.below hb10)
              have HC10 := hideIt (HCL.out.below hb10)
              have HT10 := hideIt (HTL.out.keep hb10)
              have HX10 := hideIt (HXL.out.keep (hb10.block _ HXL.out.lt))
              have HB10 := hideIt (HBL.out.trans (hb10.mono HBL.out.size))
              have HP10 := hideIt (HP.out.keep HB10.out)
              have HL3 : Hid (∀ k, S3 k → k < wr.heap.size) := hideIt HDL.out.low
              have HL2 : Hid (∀ k, S2 k → k < wr.heap.size) := hideIt HCL.out.low
              have HLT : Hid (tb < wr.heap.size) := hideIt HXL.out.lt
              obtain ⟨gy, HGY⟩ : ∃ gy, Hid ((yn = 0 ∨ YA = some ⟨gy, 0, none⟩ ∧ Spoil w10 gy yn) ∧ ¬ S3 gy ∧ ¬ S2 gy ∧ gy ≠ tb ∧ w.heap.size ≤ gy ∧ w6.heap.size ≤ gy) := by
                have hsz := hb10.size
                rcases HSPY.out with h1 | ⟨gy, _, ⟨yc2, h1⟩, h2, h3, h4⟩
                · exact ⟨w10.heap.size, hideIt ⟨Or.inl h1, fun h => by have := HL3.out _ h; omega, fun h => by have := HL2.out _ h; omega, by have := HLT.out; omega, HB10.out.size, Nat.le_trans HWL.out hsz⟩⟩
                · obtain ⟨h5, _⟩ : YA = some ⟨gy, 0, none⟩ ∧ yc = yc2 := by simpa using h1
                  exact ⟨gy, hideIt ⟨Or.inr ⟨h5, h4⟩, fun h => by have := HL3.out _ h; omega, fun h => by have := HL2.out _ h; omega, by have := HLT.out; omega, Nat.le_trans HBL.out.size h2, Nat.le_trans HWL.out h2⟩⟩
              have hcv1 := conv_bytes YA Y yn yc _ w10 hpy.bytes hyn
              have hcv2 := conv_bytes bA b bn bc _ w10 HP10.out.bytes HBN.out
              clear hv10 hb10 hpy HSPY hY hyn
              by_cases hyb : Y = b
              · have heq := eq_text Y b true (decide_eq_true hyb)
                have HEQ := hideIt heq
                have H00 : Hid True := hideIt trivial
                clear hyb hYb
                go_upto_region 22 with fail
                try clear h00
                clear heq hcv1 hcv2
                go_wp2_with fail
                go_loopw [16] (fun i wz => ∃ (j : Nat), i = .int .i64 (j : Int) ∧ j ≤ yn ∧ Turn (fun k => k = gy) w10 wz ∧ (yn = 0 ∨ Spoil wz gy yn)) (fun i _ => yn - (intOf i).toNat)
                case atStart => exact ⟨0, rfl, by omega, Turn.refl _ _, HGY.out.1.imp id And.right⟩
                case round =>
                  obtain ⟨j4, rfl, hj4, ht, hsp⟩ := hrel
                  by_cases hlt4 : j4 < yn
                  · have hlt4' : (j4 : Int) < (yn : Int) := by omega
                    have hwj4 : IntKind.i64.wrap ((j4 : Int) + 1) = (j4 : Int) + 1 := IntWalk.i64_in _ (by omega)
                    obtain rfl : YA = some ⟨gy, 0, none⟩ := by
                      rcases HGY.out.1 with h1 | h1
                      · omega
                      · exact h1.1
                    have hsp2 : Spoil wr gy yn := by
                      rcases hsp with h1 | h1
                      · omega
                      · exact h1
                    obtain ⟨xb, hxb⟩ := hsp2.cell hlt4
                    have hfz := hsp2.fz j4
                    have hup := up8 xb
                    have HSP3 := hideIt (hsp2.set j4 (xb + 1))
                    have HTT := hideIt (ht.trans (turn_cell _ ⟨gy, j4, none⟩ (.int .u8 (((xb + 1).toNat : Nat) : Int)) (fun k => k = gy) rfl) fun i hi => Or.inl hi)
                    clear hsp hsp2 ht
                    generalize (xb + 1).toNat = xb1 at *
                    generalize xb.toNat = xb0 at *
                    go_wp2_with fail
                    go_roundw
                    case rel => exact ⟨j4 + 1, by simp, by omega, HTT.out, Or.inr HSP3.out⟩
                    case measure => simp [intOf]; omega
                  · have hlt4' : ¬ (j4 : Int) < (yn : Int) := by omega
                    have hlt42 : decide (j4 < yn) = false := decide_eq_false hlt4
                    have HDz := hideIt (HD10.out.turn ht fun k hk e => HGY.out.2.1 (e ▸ hk))
                    have HCz := hideIt (HC10.out.turn ht fun k hk e => HGY.out.2.2.1 (e ▸ hk))
                    have HTz := hideIt (HT10.out.turn (ht.mono fun k hk => Or.inr (by have := HGY.out.2.2.2.2.2; omega)))
                    have HXz := hideIt (HX10.out.keep (ht.block _ HX10.out.lt fun e => HGY.out.2.2.2.1 e.symm))
                    have HBz := hideIt (HB10.out.trans (ht.below HB10.out.size fun i hi => by have := HGY.out.2.2.2.2.1; omega))
                    have HRD2 := hideIt (read_any HDz.out zzS)
                    clear hsp ht
                    go_wp2_with fail
                    refine HRD2.out.mono ?_
                    rintro e w12 ⟨v12, rfl, hv12, hb12⟩
                    rw [HYE.out, HYN.out] at hv12
                    obtain ⟨ZA, zc, rfl, _, hpz⟩ := own_pieceAny hv12 (by omega)
                    generalize (findP Q.1.files zzS).isSome = zs at *
                    have HPZ := hideIt hpz
                    have HC12 := hideIt (HCz.out.below hb12)
                    have HT12 := hideIt (HTz.out.keep hb12)
                    have HX12 := hideIt (HXz.out.keep (hb12.block _ HXz.out.lt))
                    have HB12 := hideIt (HBz.out.trans (hb12.mono HBz.out.size))
                    have HK12 := hideIt (known12_any w12)
                    clear hv12 hb12 hpz
                    go_wp2_with fail
                    refine HK12.out.mono ?_
                    rintro e w13 ⟨rfl, hb13⟩
                    have HC13 := hideIt (HC12.out.below hb13)
                    have HT13 := hideIt (HT12.out.keep hb13)
                    have hX13 := HX12.out.keep (hb13.block _ HX12.out.lt)
                    have HB13 := hideIt (HB12.out.trans (hb13.mono HB12.out.size))
                    have HPZ13 := hideIt (HPZ.out.keep hb13)
                    obtain ⟨q0, q1, q2, q3, q4, e0, e1, e2, e3, e4, ql⟩ := hX13.all
                    have hlk := like_any HC13.out HT13.out.is
                    unfold tV tC at hlk
                    have HLK := hideIt hlk
                    have hne : (binOp .neq 24 (.pointer (some ⟨d2, 0, none⟩)) (.pointer none)).run Try.prog w13 = .ok (.bool true) w13 := by go_simp
                    clear hb13 hX13 hlk
                    go_wp2_with fail
                    refine HLK.out.mono ?_
                    rintro e w14 ⟨rfl, hb14⟩
                    have HB14 := hideIt (HB13.out.trans (hb14.mono HB13.out.size))
                    have hcv3 := conv_bytes ZA Y yn zc _ w14 (HPZ13.out.keep hb14).bytes HYN.out
                    have hcv4 := conv_bytes bA b bn bc _ w14 (HP.out.keep HB14.out).bytes HBN.out
                    have heq := HEQ.out
                    have h00 := H00.out
                    clear hb14 q0 q1 q2 q3 q4 e0 e1 e2 e3 e4 ql hne
                    go_wp2_with fail
                    go_ret
                    exact ⟨rfl, HB14.out⟩
              · have heq := eq_text Y b false (decide_eq_false hyb)
                have HEQ := hideIt heq
                have hyn0 : yn = 0 := by
                  rcases hYb with h1 | h1
                  · exact absurd h1 hyb
                  · have := HYN.out; rw [h1] at this; simpa using this.symm
                have h00 : ((yn : Int) == 0) = true := by rw [hyn0]; rfl
                have H00 := hideIt h00
                clear hyb hYb hyn0
                go_upto_region 22 with fail
                try clear h00
                clear heq hcv1 hcv2
                go_wp2_with fail
                go_loopw [16] (fun i wz => ∃ (j : Nat), i = .int .i64 (j : Int) ∧ j ≤ yn ∧ Turn (fun k => k = gy) w10 wz ∧ (yn = 0 ∨ Spoil wz gy yn)) (fun i _ => yn - (intOf i).toNat)
                case atStart => exact ⟨0, rfl, by omega, Turn.refl _ _, HGY.out.1.imp id And.right⟩
                case round =>
                  obtain ⟨j4, rfl, hj4, ht, hsp⟩ := hrel
                  by_cases hlt4 : j4 < yn
                  · have hlt4' : (j4 : Int) < (yn : Int) := by omega
                    have hwj4 : IntKind.i64.wrap ((j4 : Int) + 1) = (j4 : Int) + 1 := IntWalk.i64_in _ (by omega)
                    obtain rfl : YA = some ⟨gy, 0, none⟩ := by
                      rcases HGY.out.1 with h1 | h1
                      · omega
                      · exact h1.1
                    have hsp2 : Spoil wr gy yn := by
                      rcases hsp with h1 | h1
                      · omega
                      · exact h1
                    obtain ⟨xb, hxb⟩ := hsp2.cell hlt4
                    have hfz := hsp2.fz j4
                    have hup := up8 xb
                    have HSP3 := hideIt (hsp2.set j4 (xb + 1))
                    have HTT := hideIt (ht.trans (turn_cell _ ⟨gy, j4, none⟩ (.int .u8 (((xb + 1).toNat : Nat) : Int)) (fun k => k = gy) rfl) fun i hi => Or.inl hi)
                    clear hsp hsp2 ht
                    generalize (xb + 1).toNat = xb1 at *
                    generalize xb.toNat = xb0 at *
                    go_wp2_with fail
                    go_roundw
                    case rel => exact ⟨j4 + 1, by simp, by omega, HTT.out, Or.inr HSP3.out⟩
                    case measure => simp [intOf]; omega
                  · have hlt4' : ¬ (j4 : Int) < (yn : Int) := by omega
                    have hlt42 : decide (j4 < yn) = false := decide_eq_false hlt4
                    have HDz := hideIt (HD10.out.turn ht fun k hk e => HGY.out.2.1 (e ▸ hk))
                    have HCz := hideIt (HC10.out.turn ht fun k hk e => HGY.out.2.2.1 (e ▸ hk))
                    have HTz := hideIt (HT10.out.turn (ht.mono fun k hk => Or.inr (by have := HGY.out.2.2.2.2.2; omega)))
                    have HXz := hideIt (HX10.out.keep (ht.block _ HX10.out.lt fun e => HGY.out.2.2.2.1 e.symm))
                    have HBz := hideIt (HB10.out.trans (ht.below HB10.out.size fun i hi => by have := HGY.out.2.2.2.2.1; omega))
                    have HRD2 := hideIt (read_any HDz.out zzS)
                    clear hsp ht
                    go_wp2_with fail
                    refine HRD2.out.mono ?_
                    rintro e w12 ⟨v12, rfl, hv12, hb12⟩
                    rw [HYE.out, HYN.out] at hv12
                    obtain ⟨ZA, zc, rfl, _, hpz⟩ := own_pieceAny hv12 (by omega)
                    generalize (findP Q.1.files zzS).isSome = zs at *
                    have HPZ := hideIt hpz
                    have HC12 := hideIt (HCz.out.below hb12)
                    have HT12 := hideIt (HTz.out.keep hb12)
                    have HX12 := hideIt (HXz.out.keep (hb12.block _ HXz.out.lt))
                    have HB12 := hideIt (HBz.out.trans (hb12.mono HBz.out.size))
                    have HK12 := hideIt (known12_any w12)
                    clear hv12 hb12 hpz
                    go_wp2_with fail
                    refine HK12.out.mono ?_
                    rintro e w13 ⟨rfl, hb13⟩
                    have HC13 := hideIt (HC12.out.below hb13)
                    have HT13 := hideIt (HT12.out.keep hb13)
                    have hX13 := HX12.out.keep (hb13.block _ HX12.out.lt)
                    have HB13 := hideIt (HB12.out.trans (hb13.mono HB12.out.size))
                    have HPZ13 := hideIt (HPZ.out.keep hb13)
                    obtain ⟨q0, q1, q2, q3, q4, e0, e1, e2, e3, e4, ql⟩ := hX13.all
                    have hlk := like_any HC13.out HT13.out.is
                    unfold tV tC at hlk
                    have HLK := hideIt hlk
                    have hne : (binOp .neq 24 (.pointer (some ⟨d2, 0, none⟩)) (.pointer none)).run Try.prog w13 = .ok (.bool true) w13 := by go_simp
                    clear hb13 hX13 hlk
                    go_wp2_with fail
                    refine HLK.out.mono ?_
                    rintro e w14 ⟨rfl, hb14⟩
                    have HB14 := hideIt (HB13.out.trans (hb14.mono HB13.out.size))
                    have hcv3 := conv_bytes ZA Y yn zc _ w14 (HPZ13.out.keep hb14).bytes HYN.out
                    have hcv4 := conv_bytes bA b bn bc _ w14 (HP.out.keep HB14.out).bytes HBN.out
                    have heq := HEQ.out
                    have h00 := H00.out
                    clear hb14 q0 q1 q2 q3 q4 e0 e1 e2 e3 e4 ql hne
                    go_wp2_with fail
                    go_ret
                    exact ⟨rfl, HB14.out⟩
end Go.Proofs.Ythpbhfepiekchaa
