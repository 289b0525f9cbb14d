/- The walk of HttpLines. -/
import Derived.Test.YtbojigimldfghaaDoorHttpKnown
import Derived.Test.YtbojigimldfghaaDoorHttpLaid
import Derived.Test.YtbojigimldfghaaDoorHeadLine
import Derived.Deep.Cut
namespace Go.Proofs.YtbojigimldfghaaDoor
open Go.ChangeShapes Go.WideShapes Go.ChangeAt Go.RowKit
set_option linter.unusedVariables false
set_option linter.unusedSimpArgs false

def lnOf (c : UInt8) : List UInt8 := 108 :: lineOf [c]
theorem lnOf_is (c : UInt8) : lineOf [c] = headPick c := by simp [lineOf]
theorem lnOf_ok (c : UInt8) : lnOf c ≠ [] ∧ (13 : UInt8) ∉ lnOf c := by
  refine ⟨by simp [lnOf], ?_⟩
  unfold lnOf
  rw [lnOf_is]
  have : ∀ q : Fin 18, (13 : UInt8) ∉ (108 :: headTab.getD q.val []) := by decide
  exact this ⟨c.toNat % 18, Nat.mod_lt _ (by decide)⟩
theorem lnOf_len (c : UInt8) : (lnOf c).length ≤ 15 := by
  unfold lnOf
  rw [lnOf_is, List.length_cons]
  have := headPick_len c
  omega
/-- the lines of the first so many choices -/
def lnsOf (bs : List UInt8) (j : Nat) : List (List UInt8) := (bs.take j).map lnOf
theorem lns_succ (bs : List UInt8) (j : Nat) (h : j < bs.length) : lnsOf bs (j + 1) = lnsOf bs j ++ [lnOf bs[j]] := by
  unfold lnsOf
  rw [List.take_succ_eq_append_getElem h, List.map_append]; rfl
theorem lns_len (bs : List UInt8) (j : Nat) : (lnsOf bs j).length ≤ j := by simp [lnsOf]; omega
theorem lns_ok (bs : List UInt8) (j : Nat) : ∀ x ∈ lnsOf bs j, x ≠ [] ∧ (13 : UInt8) ∉ x := by
  intro x hx
  obtain ⟨c, _, rfl⟩ := List.mem_map.1 hx
  exact lnOf_ok c
theorem linesJ_app (a b : List (List UInt8)) : linesJ (a ++ b) = linesJ a ++ linesJ b := by simp [linesJ]
theorem lnsJ_len (bs : List UInt8) (j : Nat) : (linesJ (lnsOf bs j)).length ≤ 17 * j := by
  unfold lnsOf
  have h : ∀ l : List UInt8, (linesJ (l.map lnOf)).length ≤ 17 * l.length := by
    intro l
    induction l with
    | nil => simp [linesJ]
    | cons a r ih =>
      have := lnOf_len a
      have e : linesJ ((a :: r).map lnOf) = lnOf a ++ crlf ++ linesJ (r.map lnOf) := by simp [linesJ]
      have hc : crlf.length = 2 := rfl
      rw [e]
      simp only [List.length_append, List.length_cons]
      omega
  have := h (bs.take j)
  rw [List.length_take] at this
  omega
theorem linesT_join {ls : List (List UInt8)} (r : List UInt8) (h : ∀ x ∈ ls, x ≠ [] ∧ (13 : UInt8) ∉ x) : linesT (linesJ ls ++ crlf ++ r) = (ls, (linesJ ls).length + 2, true) := by
  unfold linesT
  rw [lines_join ls r h]
  simp [crlf]
  omega
theorem linesT_open {ls : List (List UInt8)} (h : ∀ x ∈ ls, x ≠ [] ∧ (13 : UInt8) ∉ x) : linesT (linesJ ls) = ([], 0, false) := by
  unfold linesT
  rw [lines_open ls h]
set_option maxRecDepth 8000 in
set_option maxHeartbeats 4000000 in
theorem httpLines_walk (a0 : Option Addr) (len0 cap0 : Nat) (z0 : List Int) (a1 : Option Addr) (len1 cap1 : Nat) (z1 : List Int) (w : World) (w0 : IsRow .u8 w a0 len0 cap0 z0) (w1 : IsRow .u8 w a1 len1 cap1 z1) (hT : Tabs w) (r0 : cap0 ≤ 140737488355328) (r1 : cap1 ≤ 140737488355328) :
    Calls Tryd.prog 9 #[.slice a0 len0 cap0, .slice a1 len1 cap1] w fun e w' => e = .returned (.bool true) ∧ Below w.heap.size w w' := by
  have hm : MaxOk w := hT
  have HK := hideIt (fun w' (hb : Below w.heap.size w w') => known9_any w' (hm.keep hb))
  obtain ⟨_, _, hlc1, _⟩ := w1.bytes
  obtain ⟨_, _, hlc0, _⟩ := w0.bytes
  by_cases hbig : 200 < len1
  · have hi : (200 : Int) < (len1 : Int) := by omega
    clear w0 w1 hT hm hbig
    go_enter Tryd.func9, Tryd.ntmps9
    go_wp2_with fail
    refine (HK.out _ (Below.refl _ _)).mono ?_
    rintro e u1 ⟨rfl, hb⟩
    have B1 := hideIt hb
    clear hb
    go_wp2_with fail
    go_ret
    exact ⟨rfl, B1.out⟩
  have hi : ¬ (200 : Int) < (len1 : Int) := by omega
  obtain ⟨rb, hrl, _, hrp⟩ := row_piece w1 (by omega)
  obtain ⟨cs, hcl, _, hcp⟩ := row_piece w0 (by omega)
  have HRP := hideIt hrp
  have HRL : Hid (rb.length = len1 ∧ len1 ≤ 200) := hideIt ⟨hrl, by omega⟩
  have HCL := hideIt hcl
  have HM := hideIt hm
  have HLN : Hid (∀ i (hi : i < cs.length), ∃ A1, (∀ w, (Instr.slice 22 (.slice a0 len0 cap0) (some (.int .i64 (i : Int))) (some (.int .i64 ((i : Int) + 1))) none).run Tryd.prog w = .ok (.slice A1 (i + 1 - i) (cap0 - i)) w) ∧ ∀ w', Below w.heap.size w w' → Calls Tryd.prog 25 #[.slice A1 (i + 1 - i) (cap0 - i)] w' fun e w'' => e = .returned (.string (strOf (lineOf [cs[i]]))) ∧ Below w'.heap.size w' w'') := hideIt fun i hi => by
    obtain ⟨A1, h1, h2, h3⟩ := slice_any a0 len0 cap0 i (i + 1) (by omega) (by omega) hlc0 hcp.nil
    refine ⟨A1, fun w => by rw [show ((i : Int) + 1) = ((i + 1 : Nat) : Int) by omega]; exact h1 w, fun w' hb => ?_⟩
    have hp' := hcp.keep hb
    have e1 : (cs.drop i).take (i + 1 - i) = [cs[i]] := by rw [show i + 1 - i = 1 by omega, List.drop_eq_getElem_cons hi]; rfl
    have hby := h2 w' _ cs hcl hp'.bytes
    rw [e1] at hby
    exact hline_any A1 [cs[i]] (i + 1 - i) (cap0 - i) w' ⟨hby, by show 1 ≤ cap0 - i; omega, by show cap0 - i ≤ _; omega, by show 1 ≤ _; omega, fun h => h3 h⟩ (by show 1 = _; omega) (by omega)
  clear w0 w1 hT hm hbig hrp hrl hcp
  go_enter Tryd.func9, Tryd.ntmps9
  go_wp2_with fail
  go_loopw [5, 6, 7] (fun sv wv iv wr => ∃ i : Nat, i ≤ 10 ∧ i ≤ len0 ∧ iv = .int .i64 (i : Int) ∧ sv = .string (strOf (linesJ (lnsOf cs i))) ∧ SOwn w.heap.size wv (lnsOf cs i) wr ∧ Below w.heap.size w wr) (fun sv wv iv wr => 10 - (intOf iv).toNat)
  case atStart => exact ⟨0, by omega, by omega, rfl, rfl, SOwn.nil _ _, Below.refl _ _⟩
  case round =>
    obtain ⟨i, hi10, hil, rfl, rfl, ho, hb⟩ := hrel
    have HO := hideIt ho
    have HB := hideIt hb
    clear ho hb
    have hwi : IntKind.i64.wrap ((i : Int) + 1) = (i : Int) + 1 := IntWalk.i64_in _ (by omega)
    have hjl := lnsJ_len cs i
    have hll := lns_len cs i
    by_cases hgo : i < len0 ∧ i < 10
    · obtain ⟨g1, g2⟩ := hgo
      have g1' : (i : Int) < (len0 : Int) := by omega
      have g2' : (i : Int) < 10 := by omega
      have hic : i < cs.length := by have := HCL.out; omega
      obtain ⟨A1, hsl, hln⟩ := HLN.out i hic
      have HLI := hideIt hln
      have EX : Hid ((⟨#[108]⟩ : ByteArray) ++ strOf (lineOf [cs[i]]) = strOf (lnOf cs[i])) := hideIt (by rw [show (⟨#[108]⟩ : ByteArray) = strOf [108] from rfl, strOf_append]; rfl)
      have ES : Hid (strOf (linesJ (lnsOf cs i)) ++ strOf (lnOf cs[i]) ++ ⟨#[13, 10]⟩ = strOf (linesJ (lnsOf cs (i + 1)))) := hideIt (by
        rw [show (⟨#[13, 10]⟩ : ByteArray) = strOf crlf from rfl, strOf_append, strOf_append, lns_succ cs i hic, linesJ_app]
        simp [linesJ])
      have EN := hideIt (lns_succ cs i hic)
      have hyl := lnOf_len cs[i]
      have zs : (strOf (linesJ (lnsOf cs i))).size ≤ 1000 := by rw [strOf_size]; omega
      have zy : (strOf (lnOf cs[i])).size ≤ 100 := by rw [strOf_size]; omega
      have zx : (strOf (lineOf [cs[i]])).size ≤ 100 := by
        have : (lnOf cs[i]).length = (lineOf [cs[i]]).length + 1 := rfl
        rw [strOf_size]; omega
      have HLQ : Hid ((lnsOf cs i).length ≤ 200000) := hideIt (by omega)
      clear hln hjl hll hyl
      generalize lnOf cs[i] = y at *
      generalize lineOf [cs[i]] = x at *
      generalize hSS : linesJ (lnsOf cs i) = S at *
      clear hSS
      generalize lnsOf cs i = done at *
      generalize i + 1 - i = m1 at *
      generalize cap0 - i = c1 at *
      go_wp2_with fail
      refine (HLI.out _ HB.out).mono ?_
      rintro e w2 ⟨rfl, hb⟩
      have B2 := hideIt (below_then HB.out hb)
      have O2 := hideIt (HO.out.keep hb)
      clear hb HB HO
      go_upto_region 9 with fail
      rw [EX.out]
      go_wp2_with (at_builtin; refine wpList_appT1 rfl (.tmp 37) (.tmp 39) rfl w.heap.size _ done y rfl O2.out rfl HLQ.out B2.out.size ?_)
      intro v4 w4 o4 g4
      have O4 := hideIt o4
      have B4 : Hid (Below w.heap.size w w4) := hideIt (B2.out.trans (g4 _ (Nat.le_refl _)))
      clear o4 g4 O2 B2
      go_wp2_with fail
      go_roundw
      case rel => exact ⟨i + 1, by omega, by omega, by go_num, by rw [ES.out], by rw [EN.out]; exact O4.out, B4.out⟩
      case measure => simp [intOf]; omega
    · have hgo2 : ((i : Int) < (len0 : Int)) ∧ ¬ ((i : Int) < 10) ∨ ¬ ((i : Int) < (len0 : Int)) := by omega
      have hok := lns_ok cs i
      have HJT := hideIt (linesT_join rb hok)
      have HJO := hideIt (linesT_open hok)
      have hlist : (linesJ (lnsOf cs i) ++ crlf ++ rb).length ≤ 1000 := by
        have := HRL.out
        simp [crlf]; omega
      have EB : strOf (linesJ (lnsOf cs i) ++ crlf ++ rb) = strOf (linesJ (lnsOf cs i)) ++ ⟨#[13, 10]⟩ ++ strOf rb := by
        rw [show (⟨#[13, 10]⟩ : ByteArray) = strOf crlf from rfl, strOf_append, strOf_append]
      obtain ⟨d, u2, hcv, hq, hb2⟩ := conv_str wr (linesJ (lnsOf cs i) ++ crlf ++ rb) (by omega)
      rw [EB] at hcv
      have hcvr := conv_bytes a1 rb len1 cap1 _ wr (HRP.out.keep HB.out).bytes HRL.out.1
      have zs : (strOf (linesJ (lnsOf cs i))).size ≤ 1000 := by rw [strOf_size]; omega
      have zr : (strOf rb).size ≤ 1000 := by rw [strOf_size]; have := HRL.out; omega
      have hzl := strOf_size (linesJ (lnsOf cs i))
      have B2 := hideIt (below_then HB.out hb2)
      have O2 := hideIt (HO.out.keep hb2)
      have HL1 := hideIt (lines_any _ _ _ d u2 hq rfl (by omega) (HM.out.keep B2.out))
      rw [HJT.out] at HL1
      have HL2 : Hid (∀ u, Below w.heap.size w u → ∃ d u', (convert 9 22 (.string (strOf (linesJ (lnsOf cs i))))).run Tryd.prog u = .ok (.slice (some ⟨u.heap.size, 0, none⟩) (linesJ (lnsOf cs i)).length d) u' ∧ Below u.heap.size u u' ∧ Calls Tryd.prog 26 #[.slice (some ⟨u.heap.size, 0, none⟩) (linesJ (lnsOf cs i)).length d] u' fun e w' => ∃ v, e = .returned (.tuple #[v, .int .i64 0, .bool false]) ∧ SOwn u'.heap.size v [] w' ∧ Below u'.heap.size u' w') := hideIt fun u hb => by
        obtain ⟨d, u', h1, h2, h3⟩ := conv_str u (linesJ (lnsOf cs i)) (by omega)
        refine ⟨d, u', h1, h3, ?_⟩
        have := lines_any _ _ _ d u' h2 rfl (by omega) ((HM.out.keep hb).keep h3)
        rw [HJO.out] at this
        exact this
      have hwl : IntKind.i64.wrap (((linesJ (lnsOf cs i)).length : Int) + 2) = (((linesJ (lnsOf cs i)).length + 2 : Nat) : Int) := by rw [show (((linesJ (lnsOf cs i)).length : Int) + 2) = (((linesJ (lnsOf cs i)).length + 2 : Nat) : Int) by omega]; exact IntWalk.i64_in _ (by omega)
      clear hq hb2 hok hjl HJT HJO EB hgo HLN
      generalize (linesJ (lnsOf cs i) ++ crlf ++ rb).length = nall at *
      generalize hSS : linesJ (lnsOf cs i) = S at *
      clear hSS
      generalize lnsOf cs i = done at *
      rcases hgo2 with ⟨k1, k2⟩ | k1
      all_goals
        go_wp2_with fail
        refine HL1.out.mono ?_
        rintro e u3 ⟨lv, rfl, hso, hb⟩
        have B3 := hideIt (below_then B2.out hb)
        have O3 := hideIt (O2.out.keep hb)
        obtain ⟨lA, lc, rfl, hlc, hlm, hst⟩ := hso.open
        have HST := hideIt hst
        obtain ⟨d2, u4, hcv4, hb4, hcall⟩ := HL2.out u3 B3.out
        have HCALL := hideIt hcall
        have B4 := hideIt (below_then B3.out hb4)
        have O4 := hideIt (O3.out.keep hb4)
        have S4 := hideIt (HST.out.keep hb4)
        clear hb hso hst hcall hb4 HL1 HL2 HST O3 B3 O2 B2 hcv
        go_wp2_with fail
        refine HCALL.out.mono ?_
        rintro e u5 ⟨nv, rfl, hso, hb⟩
        have B5 := hideIt (below_then B4.out hb)
        obtain ⟨nA, nc, rfl, _⟩ := hso.open
        obtain ⟨wA, wc, rfl, hwc, hwm, hwt⟩ := (O4.out.keep hb).open
        have WT := hideIt hwt
        have ST := hideIt (S4.out.keep hb)
        clear hb hso hwt HCALL B4 O4 S4 hcv4
        generalize hdl : done.length = dl at *
        have HDL := hideIt hdl
        clear hdl
        go_wp2_with fail
        go_loopw [15] (fun i wr' => ∃ m : Nat, m ≤ dl ∧ i = .int .i64 (m : Int) ∧ Below u5.heap.size u5 wr') (fun i wr' => dl - (intOf i).toNat)
        case atStart => exact ⟨0, by omega, rfl, Below.refl _ _⟩
        case round =>
          obtain ⟨m, hm, rfl, hbm⟩ := hrel
          have HBM := hideIt hbm
          clear hbm
          have hwm' : IntKind.i64.wrap ((m : Int) + 1) = (m : Int) + 1 := IntWalk.i64_in _ (by omega)
          by_cases hlt : m < dl
          · have hlt' : (m : Int) < (dl : Int) := by omega
            obtain ⟨x, hx⟩ : ∃ x, done[m]? = some x := ⟨_, List.getElem?_eq_getElem (by have := HDL.out; omega)⟩
            obtain ⟨ga, rfl, la, ka⟩ := (ST.out.keep HBM.out) (by have := HDL.out; omega)
            obtain ⟨wa, rfl, lb, kb⟩ := (WT.out.keep HBM.out) (by have := HDL.out; omega)
            have q1 := ka m x hx
            have q2 := kb m x hx
            clear ka kb la lb hx
            go_wp2_with fail
            go_region
            go_wp2_with fail
            go_roundw
            case rel => exact ⟨m + 1, by omega, by go_num, HBM.out.drew⟩
            case measure => simp [intOf]; omega
          · obtain rfl : m = dl := by omega
            have hlt' : ¬ (m : Int) < (m : Int) := by omega
            have B6 := hideIt (below_then B5.out HBM.out)
            clear HBM ST WT
            go_wp2_with fail
            refine (HK.out _ B6.out).mono ?_
            rintro e w9 ⟨rfl, hb⟩
            have B7 := hideIt (below_then B6.out hb)
            clear hb HK
            go_wp2_with fail
            go_ret
            exact ⟨rfl, B7.out⟩
end Go.Proofs.YtbojigimldfghaaDoor
