/- The walk of KdfApart. -/
import Derived.Test.YtflbdjlmkmmahaaDoorKdfKnown
import Derived.Test.YtflbdjlmkmmahaaDoorRight
import Derived.Test.YtflbdjlmkmmahaaDoorFacts5
import Derived.Test.YtflbdjlmkmmahaaDoorFacts3
namespace Go.Proofs.YtflbdjlmkmmahaaDoor
open Go.ChangeShapes Go.WideShapes Go.ChangeAt Go.RowKit
set_option linter.unusedVariables false
set_option linter.unusedSimpArgs false

set_option maxHeartbeats 4000000 in
theorem kdfApart_walk (a0 : Option Addr) (len0 cap0 : Nat) (z0 : List Int) (a1 : Option Addr) (len1 cap1 : Nat) (z1 : List Int) (a2 : Int) (a3 : Int) (w : World) (w0 : IsRow .u8 w a0 len0 cap0 z0) (w1 : IsRow .u8 w a1 len1 cap1 z1) (w2 : (Lit.int .u8 a2).wf = true) (w3 : (Lit.int .u8 a3).wf = true) (hT : Tabs w) (r0 : cap0 ≤ 140737488355328) (r1 : cap1 ≤ 140737488355328) :
    Calls Tryd.prog 6 #[.slice a0 len0 cap0, .slice a1 len1 cap1, .int .u8 a2, .int .u8 a3] w fun e w' => e = .returned (.bool true) ∧ Below w.heap.size w w' := by
  obtain ⟨_, _, hlc0, hcm0, _⟩ := w0.bytes
  have l0 : len0 ≤ 140737488355328 := by omega
  obtain ⟨_, _, hlc1, hcm1, _⟩ := w1.bytes
  have l1 : len1 ≤ 140737488355328 := by omega
  have hi2 := bounds_u8 w2
  have hi3 := bounds_u8 w3
  by_cases h200 : 200 < len0 + len1
  · have h200' : (200 : Int) < (len0 : Int) + (len1 : Int) := by omega
    have HK := hideIt (known4_any w hT)
    clear w0 w1 w2 w3 hT hcm0 hcm1 r0 r1 h200
    go_enter Tryd.func6, Tryd.ntmps6
    go_wp2_with fail
    refine HK.out.mono ?_
    rintro e w1 ⟨rfl, b1⟩
    go_wp2_with fail
    go_ret
    exact ⟨rfl, b1⟩
  have h200' : ¬ (200 : Int) < (len0 : Int) + (len1 : Int) := by omega
  obtain ⟨bs0, hl0, _, hp0⟩ := row_piece w0 (by omega)
  obtain ⟨bs1, hl1, _, hp1⟩ := row_piece w1 (by omega)
  obtain ⟨k, hk, hk1, hk2⟩ : ∃ k : Nat, 1 + a2 % 6 = (k : Int) ∧ 1 ≤ k ∧ k ≤ 1000 := ⟨(1 + a2 % 6).toNat, by omega, by omega, by omega⟩
  obtain ⟨i, hi, hi32⟩ : ∃ i : Nat, a3 % 32 = (i : Int) ∧ i < 32 := ⟨(a3 % 32).toNat, by omega, by omega⟩
  obtain ⟨sh, hq, hsh⟩ : ∃ e : Nat, a3 / 32 = (e : Int) ∧ e < 8 := ⟨(a3 / 32).toNat, by omega, by omega⟩
  obtain ⟨x, hx⟩ : ∃ x : Nat, 2 ^ sh = x := ⟨_, rfl⟩
  have hx8 : x < 256 := by rw [← hx]; exact Nat.pow_lt_pow_right (by omega) hsh
  have hxi : (2 : Int) ^ sh % 256 = (x : Int) := by
    have h1 : ((2 : Int) ^ sh) = ((2 ^ sh : Nat) : Int) := by simp
    rw [h1, hx]; omega
  have hT0 := hideIt hT
  have HP0 := hideIt hp0
  have HP1 := hideIt hp1
  have HL0 := hideIt hl0
  have HL1 := hideIt hl1
  have hn1 : len1 ≤ 1000 := by omega
  have s0 := hideIt (fun W (h : PieceOk W ⟨a0, cap0, bs0⟩) => conv_bytes a0 bs0 len0 cap0 _ W h.bytes hl0)
  have s1 := hideIt (fun W (h : PieceOk W ⟨a1, cap1, bs1⟩) => conv_bytes a1 bs1 len1 cap1 _ W h.bytes hl1)
  have c0 := s0.out w hp0
  have c1 := s1.out w hp1
  clear w0 w1 w2 w3 hT hp0 hp1 hl0 hl1 hcm0 hcm1 r0 r1 hlc0 hlc1 h200
  go_enter Tryd.func6, Tryd.ntmps6
  go_wp2_with fail
  refine (hash_in a0 bs0 len0 cap0 a1 bs1 len1 cap1 k w hT0.out HP0.out HL0.out HP1.out HL1.out hn1 hk1 hk2).mono ?_
  rintro e1 w1 ⟨v, rfl, ⟨g, hg, rfl, o1⟩, b1⟩
  have hll : (hashL bs0 bs1 k).length = 32 := hashL_length _ _ _
  obtain ⟨l, hl⟩ : ∃ l, hashL bs0 bs1 k = l := ⟨_, rfl⟩
  rw [hl] at o1 hll
  have hil : i < l.length := by omega
  have HV : bits .xor .u8 (((l[i]).toNat : Nat) : Int) (x : Int) = ((l[i] ^^^ UInt8.ofNat x : UInt8).toNat : Int) := by
    have hxx : (UInt8.ofNat x).toNat = x := by rw [UInt8.toNat_ofNat']; omega
    have h1 := (l[i]).toNat_lt
    rw [u8_xor_nat _ _ (by omega) (by omega), UInt8.toNat_xor, hxx]
  have hby : l[i] ^^^ UInt8.ofNat x ≠ l[i] := by rw [← hx]; exact bit_turned _ sh hsh
  obtain ⟨lx, hlx⟩ : ∃ lx, lx = l.set i (l[i] ^^^ UInt8.ofNat x) := ⟨_, rfl⟩
  have hne : ¬ l = lx := fun e => hby (by
    have h1 : lx[i]? = some (l[i] ^^^ UInt8.ofNat x) := by rw [hlx]; simp [hil]
    rw [← e, List.getElem?_eq_getElem hil] at h1
    exact (Option.some.inj h1).symm)
  have hlc : lx.length = 32 := by rw [hlx, List.length_set]; exact hll
  have HST : Hid (∀ (W : World) (B g3 c3 : Nat), W.ownsRow B 5 1 (.slice (some ⟨g3, 0, none⟩) 32 c3) 32 (cellsOf l) → W.cell? ⟨g3, i, none⟩ = some (.int .u8 ((l[i]).toNat : Int)) ∧ (W.setCell ⟨g3, i, none⟩ (.int .u8 ((l[i] ^^^ UInt8.ofNat x : UInt8).toNat : Int))).ownsRow B 5 1 (.slice (some ⟨g3, 0, none⟩) 32 c3) 32 (cellsOf lx) ∧ W.grownBy (W.setCell ⟨g3, i, none⟩ (.int .u8 ((l[i] ^^^ UInt8.ofNat x : UInt8).toNat : Int))) (some g3)) := hideIt fun W B g3 c3 o => by
    have h1 := o.stored i (.int .u8 ((l[i] ^^^ UInt8.ofNat x : UInt8).toNat : Int))
    rw [cellsOf_set, ← hlx] at h1
    exact ⟨(o.cellAt i (by omega)).trans (cellsOf_at l i hil), h1.1, h1.2⟩
  generalize (l[i] ^^^ UInt8.ofNat x : UInt8).toNat = yy at *
  generalize (l[i]).toNat = pp at *
  have HLL := hideIt hll
  have HLC := hideIt hlc
  have HNE := hideIt hne
  have O1 := hideIt o1
  have B1 := hideIt b1
  have P1 := hideIt (own_piece o1 (by omega))
  clear o1 b1 hg c0 c1 hlx hby hll hlc hne hil hx hsh
  go_wp2_with (at_builtin; refine wpList_app rfl (.tmp 36) (.tmp 37) rfl w1.heap.size (.slice none 0 0) 0 [] rfl (own_none _ _ _) (some ⟨g, 0, none⟩) 32 32 w1.heap.size l rfl HLL.out (fun h => by cases h) (own_bytes O1.out) (by omega) (Nat.le_refl _) ?_; intro v2 w2 o2 g2; rw [Nat.zero_add, List.nil_append] at o2; obtain ⟨g3, c3, rfl, hg3, hc3, hm3⟩ := own_some o2 (by omega); have hst := HST.out w2 w1.heap.size g3 c3 o2; have hcj := hst.1; have hfj := o2.frozenAt i; have B2 := hideIt ((below_made g2).grown hst.2.2 (Nat.le_trans (Nat.le_refl _) (below_made g2).size) (by intro q hq; cases hq; exact hg3)); have O3 := hideIt hst.2.1; clear o2 g2 hst)
  have B2' := hideIt (below_then B1.out B2.out)
  generalize w2.setCell ⟨g3, i, none⟩ (.int .u8 (yy : Int)) = w4 at *
  refine (known4_any w4 (hT0.out.keep B2'.out)).mono ?_
  rintro e1 w5 ⟨rfl, b5⟩
  have P1' := hideIt (P1.out.keep (below_then B2.out b5))
  have B5 := hideIt (below_then B2'.out b5)
  have O3' := hideIt (own_stay O3.out b5)
  clear b5 B2 B2' O3 P1 B1 O1 hcj hfj
  go_wp2_with fail
  refine (right_in a0 bs0 len0 cap0 a1 bs1 len1 cap1 k (some ⟨g, 0, none⟩) l 32 32 w5 (hT0.out.keep B5.out) (HP0.out.keep B5.out) HL0.out (HP1.out.keep B5.out) HL1.out P1'.out HLL.out hn1 hk1 hk2).mono ?_
  rintro e1 w6 ⟨rfl, b6⟩
  have hd1 : decide (hashL bs0 bs1 k = l) = true := decide_eq_true hl
  rw [hd1]
  obtain ⟨A6, c6, e6, hl6, hp6⟩ := own_pieceAny (own_stay O3'.out b6) (by omega)
  cases e6
  have P6 := hideIt hp6
  have B6 := hideIt (below_then B5.out b6)
  clear b6 B5 O3' hd1 hp6 P1'
  go_wp2_with fail
  refine (right_in a0 bs0 len0 cap0 a1 bs1 len1 cap1 k (some ⟨g3, 0, none⟩) lx 32 c3 w6 (hT0.out.keep B6.out) (HP0.out.keep B6.out) HL0.out (HP1.out.keep B6.out) HL1.out P6.out HLC.out hn1 hk1 hk2).mono ?_
  rintro e1 w7 ⟨rfl, b7⟩
  have hd2 : decide (hashL bs0 bs1 k = lx) = false := decide_eq_false (by rw [hl]; exact HNE.out)
  rw [hd2]
  have B7 := hideIt (below_then B6.out b7)
  have c0 := s0.out w7 (HP0.out.keep B7.out)
  have c1 := s1.out w7 (HP1.out.keep B7.out)
  clear b7 B6 P6 hd2 hl
  generalize strOf bs0 = t0 at *
  generalize strOf bs1 = t1 at *
  go_wp2_with fail
  go_ret
  exact ⟨by first | rfl | exact ret_true (by simp), B7.out⟩
end Go.Proofs.YtflbdjlmkmmahaaDoor
