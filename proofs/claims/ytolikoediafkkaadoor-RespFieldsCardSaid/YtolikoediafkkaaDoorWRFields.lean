/- The walk of RespFields. -/
import Derived.Test.YtolikoediafkkaaDoorRespKnown
import Derived.Test.YtolikoediafkkaaDoorRespPage
import Derived.Test.YtolikoediafkkaaDoorRespLaid
import Derived.Test.YtolikoediafkkaaDoorLetter
import Derived.Test.YtolikoediafkkaaDoorPairOne
import Derived.Test.YtolikoediafkkaaDoorRefSame
import Derived.Deep.Cut
namespace Go.Proofs.YtolikoediafkkaaDoor
open Go.ChangeShapes Go.WideShapes Go.ChangeAt Go.RowKit
set_option linter.unusedVariables false
set_option linter.unusedSimpArgs false

/-- a field that a byte chooses -/
def pairX (c : UInt8) : PairL := ([88], [letC c])
def pairsX (bs : List UInt8) (j : Nat) : List PairL := (bs.take j).map pairX
theorem pairsX_succ (bs : List UInt8) (j : Nat) (h : j < bs.length) : pairsX bs (j + 1) = pairsX bs j ++ [pairX bs[j]] := by
  unfold pairsX
  rw [List.take_succ_eq_append_getElem h, List.map_append]
  rfl
theorem pairsX_len (bs : List UInt8) (j : Nat) : (pairsX bs j).length ≤ j := by unfold pairsX; rw [List.length_map, List.length_take]; omega
theorem pairsX_small (bs : List UInt8) (j : Nat) : ∀ p ∈ pairsX bs j, p.1.length = 1 ∧ p.2.length = 1 := by
  intro p hp
  obtain ⟨c, _, rfl⟩ := List.mem_map.1 hp
  exact ⟨rfl, rfl⟩
/-- x[n:] of pairs -/
theorem slice_prs (A : Option Addr) (m c n : Nat) (h1 : n ≤ m) (h2 : m ≤ c) (hnil : A = none → c = 0) (hm : c ≤ 9223372036854775807) : ∃ A1, (∀ w, (Instr.slice 22 (.slice A m c) (some (.int .i64 (n : Int))) none none).run Tryd.prog w = .ok (.slice A1 (m - n) (c - n)) w) ∧
    (∀ w ps, ps.length = m → PairsAt w A ps → PairsV (.slice A1 (m - n) (c - n)) (ps.drop n) w) := by
  obtain ⟨i0, hi, hz0, hz1, hz2⟩ := info_parts info_pair
  have e1 : (0 : Int) ≤ (n : Int) ∧ (n : Int) ≤ (m : Int) := by omega
  refine ⟨if c = n then A else A.map (·.add (n * 2)), fun w => ?_, fun w ps hp hb => ⟨_, _, by rw [List.length_drop, hp], by rw [List.length_drop, hp]; omega, by omega, ?_, ?_⟩⟩
  · simp [Instr.slice, Instr.sliceBounds, Instr.sliceBound, asIntOf, run_underlying Tryd.underlying22, sizeOf, typeInfo, hi, hz1, e1]
    intro h; omega
  · intro h
    by_cases hc : c = n
    · rw [if_pos hc] at h; have := hnil h; omega
    · rw [if_neg hc] at h
      cases A with
      | none => have := hnil rfl; omega
      | some a => simp at h
  · intro hn
    rw [List.length_drop] at hn
    obtain ⟨b, off, rfl, hlt, hc⟩ := hb (by omega)
    refine ⟨b, off + n * 2, ?_, hlt, fun j p hj => ?_⟩
    · rw [if_neg (by omega)]; simp [Addr.add]
    · rw [List.getElem?_drop] at hj
      have := hc (n + j) p hj
      rw [show off + n * 2 + 2 * j = off + 2 * (n + j) by omega]
      exact this
set_option maxRecDepth 8000 in
set_option maxHeartbeats 4000000 in
theorem respFields_walk (a0 : ByteArray) (a1 : Option Addr) (len1 cap1 : Nat) (z1 : List Int) (w : World) (w0 : a0.size ≤ maxLen) (w1 : IsRow .u8 w a1 len1 cap1 z1) (hT : Tabs w) (r0 : a0.size ≤ 140737488355328) (r1 : cap1 ≤ 140737488355328) :
    Calls Tryd.prog 8 #[.string a0, .slice a1 len1 cap1] w fun e w' => e = .returned (.bool true) ∧ Below w.heap.size w w' := by
  obtain ⟨hm, hpow⟩ := hT
  obtain ⟨bd, rfl, hbd⟩ := str_is a0
  obtain ⟨_, _, hlc, _⟩ := w1.bytes
  obtain ⟨cs, hcl, _, hcp⟩ := row_piece w1 (by omega)
  have HCP := hideIt hcp
  have HCL := hideIt hcl
  have HPW := hideIt hpow
  have HK := hideIt (fun w' (hb : Below w.heap.size w w') => known10_any w' (hpow.keep hb))
  clear w0 w1 hm hpow hcp hcl z1
  by_cases h200 : 200 < (strOf bd).size
  · have h1 : (200 : Int) < ((strOf bd).size : Int) := by omega
    generalize strOf bd = sb at *
    go_enter Tryd.func8, Tryd.ntmps8
    go_wp2_with fail
    refine (HK.out _ (Below.refl _ _)).mono ?_
    rintro e u1 ⟨rfl, hb⟩
    have B1 := hideIt hb
    clear hb
    go_wp2_with fail
    go_ret
    exact ⟨rfl, B1.out⟩
  have h1 : ¬ (200 : Int) < ((strOf bd).size : Int) := by omega
  have HBD : Hid (bd.length ≤ 200) := hideIt (by omega)
  clear h200 hbd r0
  have HSB : Hid (strOf bd = strOf bd) := hideIt rfl
  obtain ⟨sb, hsb⟩ : ∃ sb, strOf bd = sb := ⟨_, rfl⟩
  rw [hsb] at h1 ⊢
  have HSBB := hideIt hsb
  clear hsb HSB
  go_enter Tryd.func8, Tryd.ntmps8
  go_wp2_with fail
  clear h1
  go_loopw [5, 6] (fun v i wr => ∃ j : Nat, j ≤ len1 ∧ j ≤ 10 ∧ i = .int .i64 (j : Int) ∧ POwn w.heap.size v (pairsX cs j) wr ∧ Below w.heap.size w wr) (fun v i wr => len1 - (intOf i).toNat)
  case atStart => exact ⟨0, by omega, by omega, rfl, POwn.nil _ _, Below.refl _ _⟩
  case round =>
    obtain ⟨j, hj, hj10, rfl, ho, hb⟩ := hrel
    have HO := hideIt ho
    have HB := hideIt hb
    clear ho hb
    have hwj : IntKind.i64.wrap ((j : Int) + 1) = (j : Int) + 1 := IntWalk.i64_in _ (by omega)
    by_cases hlt : j < len1 ∧ j < 10
    · obtain ⟨hl1, hl2⟩ := hlt
      have hji : (j : Int) < (len1 : Int) := by omega
      have hji2 : (j : Int) < 10 := by omega
      have hcj : j < cs.length := by have := HCL.out; omega
      obtain ⟨b, off, rfl, hlt2, hc⟩ := (HCP.out.keep HB.out).bytes (by simp only; omega)
      have c1 := hc j (by simp only; exact hcj)
      simp only at c1
      have DS := hideIt (pairsX_succ cs j hcj)
      have HDL := hideIt (pairsX_len cs j)
      obtain ⟨x, hx⟩ : ∃ x, cs[j] = x := ⟨_, rfl⟩
      rw [hx] at c1 DS
      have hone := fun W => conv_one W (97 + ((x.toNat : Nat) : Int) % 26)
      have EN : (97 + ((x.toNat : Nat) : Int) % 26) = (((letC x).toNat : Nat) : Int) := by rw [letC_nat]; omega
      have EO : Hid (oneB (97 + ((x.toNat : Nat) : Int) % 26) = strOf [letC x]) := hideIt (by rw [EN]; exact oneB_let x)
      have HPX0 := hideIt (show pairX x = ([88], [letC x]) from rfl)
      have hbn := below_new wr (.cells #[.int .u8 (97 + ((x.toNat : Nat) : Int) % 26)] 5)
      have B1 := hideIt (below_then HB.out hbn)
      have O1 := hideIt (HO.out.keep hbn)
      rw [EO.out] at hone
      have hxl : x.toNat < 256 := x.toNat_lt
      clear hx hc hbn EN EO
      generalize pairsX cs j = done at *
      generalize letC x = cc at *
      generalize x.toNat = xn at *
      have hdl : done.length ≤ 100 := by have := HDL.out; omega
      go_wp2_with (at_builtin; refine wpList_appP1 rfl (.tmp 22) (.tmp 32) rfl w.heap.size _ done ([88], [cc]) rfl O1.out (by rw [alloc_size]; rfl) (by omega) B1.out.size ?_)
      intro v4 w4 o4 g4
      have O4 : Hid (POwn w.heap.size v4 (pairsX cs (j + 1)) w4) := hideIt (by rw [DS.out, HPX0.out]; exact o4)
      have B4 : Hid (Below w.heap.size w w4) := hideIt (B1.out.trans (g4 _ (Nat.le_refl _)))
      clear o4 g4 O1 B1 c1
      go_wp2_with fail
      go_roundw
      case rel => exact ⟨j + 1, by omega, by omega, by go_num, O4.out, B4.out⟩
      case measure => simp [intOf]; omega
    · obtain ⟨l, hl⟩ : ∃ l, pairsX cs j = l := ⟨_, rfl⟩
      have hll := pairsX_len cs j
      have HPS := hideIt (pairsX_small cs j)
      rw [hl] at hll HPS HO
      clear hl
      obtain ⟨FA, fc, rfl, hf1, hf2, hf3, hf4⟩ := HO.out.open
      have HPG0 := hideIt (page_any 200 bd (.slice FA l.length fc) l wr HO.out.reads (by omega) (fun p hp => by have := HPS.out p hp; omega) (by have := HBD.out; omega))
      rw [HSBB.out] at HPG0
      have HPG : Hid (Calls Tryd.prog 20 #[.int .i64 200, .string sb, .slice FA l.length fc] wr fun e w' => ∃ fv A' c', e = .returned (.agg #[.int .i64 200, fv, .slice A' bd.length c']) ∧ RespNew wr.heap.size fv A' c' (pageL 200 bd l) w' ∧ Below wr.heap.size wr w') := HPG0
      have hex : (¬ (j : Int) < (len1 : Int)) ∨ ((j : Int) < (len1 : Int) ∧ ¬ (j : Int) < 10) := by omega
      have HNW : Hid (l.length ≤ 10) := hideIt (by omega)
      obtain ⟨ll, hln⟩ : ∃ ll, l.length = ll := ⟨_, rfl⟩
      have HLN := hideIt hln
      rw [hln] at HPG ⊢
      clear hf1 hf2 hf3 hf4 HPG0 hll hln
      rcases hex with hA | ⟨hA, hB⟩
      all_goals
        go_upto_region 8 with fail
      all_goals
        go_wp2_with fail
        refine HPG.out.mono ?_
        rintro e u1 ⟨fv, A', c', rfl, hnew, hb⟩
        have hfl : (pageL 200 bd l).fs.length = ll + 2 := by unfold pageL; rw [List.length_append, HLN.out]; simp; omega
        obtain ⟨GA, gc, rfl, k1, k2, k3, k4⟩ := hnew.fields.open
        obtain ⟨pn, hpn⟩ : ∃ pn, ll + 2 = pn := ⟨_, rfl⟩
        rw [hpn] at hfl
        rw [hfl] at k1 ⊢
        obtain ⟨gb, off, rfl, hgl, hgc⟩ := k4 (by omega)
        have B2 := hideIt (below_then HB.out hb)
        have hbn := below_new u1 (.cells #[.int .i64 200, .slice (some ⟨gb, off, none⟩) pn gc, .slice A' bd.length c'] 25)
        have G2 := hideIt (RCell.new u1 (.int .i64 200) (.slice (some ⟨gb, off, none⟩) pn gc) (.slice A' bd.length c'))
        have B3 := hideIt (below_then B2.out hbn)
        have N3 := hideIt (hnew.parts.keep hbn)
        have O3 := hideIt ((HO.out.keep hb).keep hbn)
        have HGC := hideIt (fun jj x (h : (pageL 200 bd l).fs[jj]? = some x) => hgc jj x h)
        clear hb hbn hnew k4 hgc HPG
        go_upto_region 9 with fail
        generalize u1.alloc (.cells #[.int .i64 200, .slice (some ⟨gb, off, none⟩) pn gc, .slice A' bd.length c'] 25) = Y at *
        generalize u1.heap.size = g1 at *
        have hw2 : IntKind.i64.wrap (2 + (ll : Int)) = (pn : Int) := by rw [IntWalk.i64_in _ (by have := HNW.out; have := HLN.out; omega)]; omega
        go_wp2_with fail
        refine (HK.out _ B3.out).mono ?_
        rintro e u2 ⟨rfl, hb⟩
        have B4 := hideIt (below_then B3.out hb)
        have G4 := G2.out.keep hb G2.out.lt
        have N4 := hideIt (N3.out.keep hb)
        have O4 := hideIt (O3.out.keep hb)
        have q0 := G4.c0
        have q1 := G4.c1
        have q2 := G4.c2
        obtain ⟨_, _, e5, _, _, _, hpa⟩ := N4.out.fields.form
        cases e5
        obtain ⟨gb', off', e6, hgl2, hgc2⟩ := hpa (by rw [hfl]; omega)
        cases e6
        have c0 := (hgc2 0 kindP rfl).1
        have c1 := (hgc2 1 keptP rfl).2
        have c1' := c1
        rw [show off + 2 * 0 = off by omega] at c0
        rw [show off + 2 * 1 + 1 = off + 2 + 1 by omega] at c1
        rw [show off + 2 * 1 + 1 = off + 3 by omega] at c1'
        have hv1 := conv_bytes A' bd bd.length c' _ u2 N4.out.body.bytes rfl
        rw [HSBB.out] at hv1
        have HSM : Hid (∀ v, PairsV v l u2 → Calls Tryd.prog 22 #[v, .slice FA ll fc] u2 fun e w' => e = .returned (.bool true) ∧ Below u2.heap.size u2 w') := hideIt fun v hv => by
          have := refsame_any v (.slice FA ll fc) l l u2 hv (by have := O4.out.reads; rw [HLN.out] at this; exact this) (by have := HNW.out; omega)
          rw [decide_eq_true rfl] at this
          exact this
        have HCA := hideIt (fun jj x (h : (pageL 200 bd l).fs[jj]? = some x) => hgc2 jj x h)
        have kp0 : strOf kindP.1 = (⟨#[67, 111, 110, 116, 101, 110, 116, 45, 84, 121, 112, 101]⟩ : ByteArray) := rfl
        have kp1 : strOf keptP.2 = (⟨#[110, 111, 45, 115, 116, 111, 114, 101]⟩ : ByteArray) := rfl
        rw [kp0] at c0
        rw [kp1] at c1 c1'
        have h2p : 2 ≤ pn := by omega
        have h2i : (2 : Int) ≤ (pn : Int) := by omega
        have HGL2 := hideIt hgl2
        have HPF : Hid ((pageL 200 bd l).fs = [kindP, keptP] ++ l) := hideIt rfl
        have G4H := hideIt G4
        have HLL2 : Hid (l.length = pn - 2) := hideIt (by have := HLN.out; omega)
        clear hb hgc2 hpa hv1 kp0 kp1 q0 q2 G4
        by_cases hgc : gc = 2
        all_goals
          go_wp2_with fail
        all_goals
          refine (HSM.out _ (by first
            | exact ⟨some ⟨gb, off, none⟩, 0, by rw [HLL2.out], by have := HLL2.out; omega, by omega, (fun h => by cases h), fun hn => by have := HLL2.out; omega⟩
            | exact ⟨some ⟨gb, off + 4, none⟩, gc - 2, by rw [HLL2.out], by have := HLL2.out; omega, by omega, (fun h => by cases h), fun hn => ⟨gb, off + 4, rfl, HGL2.out, fun jj x hj => by
                have := HCA.out (jj + 2) x (by rw [HPF.out, List.getElem?_append_right (by simp)]; simpa using hj)
                rw [show off + 2 * (jj + 2) = off + 4 + 2 * jj by omega] at this
                exact this⟩⟩)).mono ?_
          rintro e u3 ⟨rfl, hb⟩
          have B5 := hideIt (below_then B4.out hb)
          have G5 := G4H.out.keep hb G4H.out.lt
          have q0 := G5.c0
          have q2 := G5.c2
          have hv1 := conv_bytes A' bd bd.length c' _ u3 (N4.out.body.keep hb).bytes rfl
          rw [HSBB.out] at hv1
          clear hb G5
          go_wp2_with fail
          go_ret
          exact ⟨rfl, B5.out⟩
end Go.Proofs.YtolikoediafkkaaDoor
