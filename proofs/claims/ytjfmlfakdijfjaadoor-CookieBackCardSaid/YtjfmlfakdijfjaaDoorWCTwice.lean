/- CookieTwice: the walk. -/
import Derived.Test.YtjfmlfakdijfjaaDoorCookKnown
import Derived.Test.YtjfmlfakdijfjaaDoorCookLaid
import Derived.Test.YtjfmlfakdijfjaaDoorCookHex
namespace Go.Proofs.YtjfmlfakdijfjaaDoor
open Go.ChangeShapes Go.WideShapes Go.ChangeAt Go.RowKit
set_option linter.unusedVariables false
set_option linter.unusedSimpArgs false

/-- cookies, a sign behind each -/
def flatC (l : List PairL) : List UInt8 := l.flatMap fun q => tellC q ++ [59, 32]
def hostQ : ByteArray := ⟨#[95, 95, 72, 111, 115, 116, 45, 105, 100, 61]⟩
theorem host_cat (v : List UInt8) : hostQ ++ strOf v = strOf (tellC (hostN, v)) := by
  rw [show hostQ = strOf (hostN ++ [61]) from rfl, strOf_append]
  simp [tellC]
theorem flat_snoc (l : List PairL) (v : List UInt8) : strOf (flatC l) ++ ⟨#[120, 61]⟩ ++ strOf v ++ ⟨#[59, 32]⟩ = strOf (flatC (l ++ [([120], v)])) := by
  rw [show (⟨#[120, 61]⟩ : ByteArray) = strOf [120, 61] from rfl, show (⟨#[59, 32]⟩ : ByteArray) = strOf [59, 32] from rfl, strOf_append, strOf_append, strOf_append]
  simp [flatC, tellC]
theorem flat_len (l : List PairL) (v : List UInt8) (h : v.length = 4) : (flatC (l ++ [([120], v)])).length = (flatC l).length + 8 := by
  simp [flatC, tellC, h]
theorem hexT_len (n : Nat) : (hexT n).length = 4 := rfl
theorem tell_len (v : List UInt8) : (tellC (hostN, v)).length = v.length + 10 := by simp [tellC, hostN]
/-- Session of a row of texts that was just made -/
theorem sess_at1 (s : ByteArray) (L : List UInt8) (he : s = strOf L) (hl : L.length ≤ 100000) (r : List UInt8 × Bool) (hr : sessC [L] = r) (u : World) (k : Nat) (hk : u.heap.size = k) (hm : MaxOk u) :
    Calls Tryd.prog 23 #[.slice (some ⟨k, 0, none⟩) 1 1] (u.alloc (.cells #[.string s] 9)) fun e w' => e = .returned (.tuple #[.string (strOf r.1), .bool r.2]) ∧ Below u.heap.size u w' := by
  subst he hk hr
  refine (csess_any (some ⟨u.heap.size, 0, none⟩) [L] 1 1 _ (strs_one u L) rfl (by omega) (by intro p hp; rw [List.mem_singleton.1 hp]; exact hl) (hm.keep (below_new u _))).mono ?_
  rintro e w' ⟨h1, h2⟩
  exact ⟨h1, below_then (below_new u _) h2⟩
theorem sess_at2 (s t : ByteArray) (L M : List UInt8) (he : s = strOf L) (hf : t = strOf M) (hl : L.length ≤ 100000) (hl2 : M.length ≤ 100000) (r : List UInt8 × Bool) (hr : sessC [L, M] = r) (u : World) (k : Nat) (hk : u.heap.size = k) (hm : MaxOk u) :
    Calls Tryd.prog 23 #[.slice (some ⟨k, 0, none⟩) 2 2] (u.alloc (.cells #[.string s, .string t] 9)) fun e w' => e = .returned (.tuple #[.string (strOf r.1), .bool r.2]) ∧ Below u.heap.size u w' := by
  subst he hf hk hr
  refine (csess_any (some ⟨u.heap.size, 0, none⟩) [L, M] 2 2 _ (strs_two u L M) rfl (by omega) (by
    intro p hp
    rcases List.mem_cons.1 hp with rfl | hp
    · exact hl
    · rw [List.mem_singleton.1 hp]; exact hl2) (hm.keep (below_new u _))).mono ?_
  rintro e w' ⟨h1, h2⟩
  exact ⟨h1, below_then (below_new u _) h2⟩
set_option maxRecDepth 8000 in
set_option maxHeartbeats 4000000 in
theorem cookieTwice_walk (a0 : Option Addr) (len0 cap0 : Nat) (z0 : List Int) (a1 a2 : Int) (a3 a4 : Bool) (w : World) (w0 : IsRow .u8 w a0 len0 cap0 z0) (w1 : (Lit.int .u16 a1).wf = true) (w2 : (Lit.int .u16 a2).wf = true) (hT : Tabs w) (r0 : cap0 ≤ 140737488355328) :
    Calls Tryd.prog 6 #[.slice a0 len0 cap0, .int .u16 a1, .int .u16 a2, .bool a3, .bool a4] w fun e w' => e = .returned (.bool true) ∧ Below w.heap.size w w' := by
  obtain ⟨_, _, hlc0, _⟩ := w0.bytes
  obtain ⟨bs, hl0, _, hp0⟩ := row_piece w0 (by omega)
  have hb1 := bounds_u16 w1
  have hb2 := bounds_u16 w2
  obtain ⟨na, rfl, hna⟩ : ∃ n : Nat, a1 = (n : Int) ∧ n < 65536 := ⟨a1.toNat, by omega, by omega⟩
  obtain ⟨nb, rfl, hnb⟩ : ∃ n : Nat, a2 = (n : Int) ∧ n < 65536 := ⟨a2.toNat, by omega, by omega⟩
  have HPC := hideIt hp0
  have HLN := hideIt hl0
  have HT := hideIt hT
  have HXA := hideIt (fun u => hex_any na u hna)
  have HXB := hideIt (fun u => hex_any nb u hnb)
  have HOA := hideIt (hexT_oct na hna)
  have HOB := hideIt (hexT_oct nb hnb)
  have hza : (strOf (hexT na)).size = 4 := by rw [strOf_size]; rfl
  have hzb : (strOf (hexT nb)).size = 4 := by rw [strOf_size]; rfl
  have EA := hideIt (host_cat (hexT na))
  have EB := hideIt (host_cat (hexT nb))
  have LA := hideIt (hexT_len na)
  have LB := hideIt (hexT_len nb)
  have Q : Hid (hostQ = ⟨#[95, 95, 72, 111, 115, 116, 45, 105, 100, 61]⟩) := hideIt rfl
  clear w0 w1 w2 hT hlc0 hp0 hl0 r0 hb1 hb2 hna hnb
  generalize hexT na = va at *
  generalize hexT nb = vb at *
  obtain ⟨sa, hsa⟩ : ∃ s, strOf va = s := ⟨_, rfl⟩
  obtain ⟨sb, hsb⟩ : ∃ s, strOf vb = s := ⟨_, rfl⟩
  rw [hsa] at hza HXA EA
  rw [hsb] at hzb HXB EB
  have HSA := hideIt hsa
  have HSB := hideIt hsb
  rw [Q.out] at EA EB
  clear hsa hsb
  go_enter Tryd.func6, Tryd.ntmps6
  go_wp2_with fail
  refine (HXA.out _).mono ?_
  rintro e u1 ⟨rfl, hb⟩
  have B1 := hideIt hb
  clear hb
  go_wp2_with fail
  refine (HXB.out _).mono ?_
  rintro e u2 ⟨rfl, hb⟩
  have B2 := hideIt (below_then B1.out hb)
  clear hb B1 HXB
  go_wp2_with fail
  go_loopw [13, 14] (fun s i wr => ∃ (j : Nat) (l : List PairL), s = .string (strOf (flatC l)) ∧ i = .int .i64 (j : Int) ∧ j ≤ 6 ∧ (flatC l).length = 8 * j ∧ (∀ q ∈ l, okC q = true) ∧ (∀ q ∈ l, q.1 ≠ hostN) ∧ Below w.heap.size w wr) (fun s i wr => 6 - (intOf i).toNat)
  case atStart => exact ⟨0, [], rfl, rfl, by omega, rfl, by simp, by simp, B2.out⟩
  case round =>
    obtain ⟨j, l, rfl, rfl, hj, hfl, hok, hnm, hb⟩ := hrel
    have HBW := hideIt hb
    have HOK := hideIt hok
    have HNM := hideIt hnm
    have HFL := hideIt hfl
    have hsz : (strOf (flatC l)).size ≤ 48 := by rw [strOf_size]; omega
    clear hb hok hnm hfl B2
    by_cases hgo : j < len0 ∧ j < 6
    · obtain ⟨h1, h2⟩ := hgo
      have h1' : (j : Int) < (len0 : Int) := by omega
      have h2' : (j : Int) < 6 := by omega
      have hwj : IntKind.i64.wrap ((j : Int) + 1) = (j : Int) + 1 := IntWalk.i64_in _ (by omega)
      obtain ⟨b, off, rfl, hbl, hcells⟩ := HPC.out.bytes (by have := HLN.out; simp only; omega)
      have hcl := hcells j (by have := HLN.out; simp only; omega)
      obtain ⟨x, hx⟩ : ∃ x, (bs[j]'(by have := HLN.out; omega)).toNat = x := ⟨_, rfl⟩
      have hx256 : x < 256 := by rw [← hx]; exact UInt8.toNat_lt _
      simp only [hx] at hcl
      have hcl' : wr.cell? ⟨b, off + j, none⟩ = some (.int .u8 (x : Int)) := (HBW.out.cell (p := ⟨b, off + j, none⟩) hbl).trans hcl
      have hwx : IntKind.u16.wrap (x : Int) = (x : Int) := by rw [IntKind.wrap_u16]; omega
      have HX := hideIt (hex_any x wr (by omega))
      have hxs : (strOf (hexT x)).size = 4 := by rw [strOf_size]; rfl
      have C := hideIt (flat_snoc l (hexT x))
      have N1 : Hid ((flatC (l ++ [([120], hexT x)])).length = 8 * (j + 1)) := hideIt (by rw [flat_len l _ (hexT_len x), HFL.out]; omega)
      have N2 : Hid (∀ q ∈ l ++ [([120], hexT x)], okC q = true) := hideIt (by
        intro q hq
        rcases List.mem_append.1 hq with hq | hq
        · exact HOK.out q hq
        · rw [List.mem_singleton.1 hq]; exact x_ok x (by omega))
      have N3 : Hid (∀ q ∈ l ++ [([120], hexT x)], q.1 ≠ hostN) := hideIt (by
        intro q hq
        rcases List.mem_append.1 hq with hq | hq
        · exact HNM.out q hq
        · rw [List.mem_singleton.1 hq]; exact x_name)
      clear hcl hcells hbl hx
      generalize hexT x = vx at *
      generalize strOf vx = sx at *
      generalize strOf (flatC l) = sm at *
      go_wp2_with fail
      refine HX.out.mono ?_
      rintro e u3 ⟨rfl, hb⟩
      have B3 := hideIt (below_then HBW.out hb)
      clear hb HX HBW
      go_wp2_with fail
      go_roundw
      case rel => exact ⟨j + 1, l ++ [([120], vx)], congrArg Value.string C.out, by go_num, by omega, N1.out, N2.out, N3.out, B3.out⟩
      case measure => simp [intOf]; omega
    · have hgo2 : ((j : Int) < (len0 : Int) ∧ ¬ (j : Int) < 6) ∨ ¬ ((j : Int) < (len0 : Int)) := by omega
      have HF := hideIt (show (flatC l).length ≤ 48 by have := HFL.out; omega)
      have LL1 : (tellC (hostN, va)).length = 14 := by rw [tell_len, LA.out]
      have LL2 : (tellC (hostN, vb)).length = 14 := by rw [tell_len, LB.out]
      obtain ⟨sm, hsm⟩ : ∃ s, strOf (flatC l) = s := ⟨_, rfl⟩
      have EX1 : (⟨#[95, 95, 72, 111, 115, 116, 45, 105, 100, 61]⟩ : ByteArray) ++ sa ++ ⟨#[59, 32]⟩ ++ sm ++ (⟨#[95, 95, 72, 111, 115, 116, 45, 105, 100, 61]⟩ ++ sb) = strOf (tellC (hostN, va) ++ [59, 32] ++ (flatC l ++ tellC (hostN, vb))) := by
        rw [EA.out, EB.out, ← hsm, show (⟨#[59, 32]⟩ : ByteArray) = strOf [59, 32] from rfl, strOf_append, strOf_append, strOf_append]
        simp only [List.append_assoc]
      have EX2 : sm ++ ((⟨#[95, 95, 72, 111, 115, 116, 45, 105, 100, 61]⟩ : ByteArray) ++ sb) = strOf (flatC l ++ tellC (hostN, vb)) := by
        rw [EB.out, ← hsm, strOf_append]
      have EX3 : sm ++ ((⟨#[95, 95, 72, 111, 115, 116, 45, 105, 100, 61]⟩ : ByteArray) ++ sa) = strOf (flatC l ++ tellC (hostN, va)) := by
        rw [EA.out, ← hsm, strOf_append]
      have Z1 := hideIt (sess_at1 _ _ EX1 (by simp only [List.length_append, LL1, LL2, List.length_cons, List.length_nil]; have := HF.out; omega) _ (sess_twice HOK.out HNM.out HOA.out HOB.out))
      have Z2 := hideIt (sess_at2 _ _ _ _ EA.out EX2 (by omega) (by simp only [List.length_append, LL2]; have := HF.out; omega) _ (by
        have := sess_apart (l := []) (m := l) (v := va) (u := vb) (by simp) (by simp) HOK.out HNM.out HOA.out HOB.out
        exact this))
      have Z3 := hideIt (sess_at2 _ (⟨#[97, 32, 98, 61, 49]⟩ : ByteArray) _ [97, 32, 98, 61, 49] EX3 rfl (by simp only [List.length_append, LL1]; have := HF.out; omega) (by simp) _ (sess_badC badC))
      have Z4 := hideIt (sess_at1 _ _ EX3 (by simp only [List.length_append, LL1]; have := HF.out; omega) _ (sess_there HOK.out HNM.out HOA.out))
      rw [hsm] at hsz ⊢
      have qcmp : (sa.toList == sa.toList) = true := by simp
      rw [← HSA.out] at qcmp
      have hsv : strOf va = sa := HSA.out
      simp only [hsv, show strOf [] = ⟨#[]⟩ from rfl] at Z1 Z2 Z3 Z4 qcmp
      clear hsm EX1 EX2 EX3 LL1 LL2 HF HFL HOK HNM hgo HPC HLN EA EB HOA HOB hsv HSA HSB LA LB
      have HMW := hideIt (HT.out.1.keep HBW.out)
      rcases hgo2 with ⟨gq1, gq2⟩ | gq1
      all_goals
        cases a4
        · cases a3
          · go_wp2_with fail
            refine (Z1.out _ _ rfl HMW.out).mono ?_
            rintro e u3 ⟨rfl, hb⟩
            have B3 := hideIt (below_then HBW.out hb)
            clear hb Z1 Z2 Z3 HBW
            go_wp2_with fail
            refine (Z4.out _ _ rfl (HT.out.1.keep B3.out)).mono ?_
            rintro e u4 ⟨rfl, hb⟩
            have B4 := hideIt (below_then B3.out hb)
            clear hb Z4 B3
            go_wp2_with fail
            refine (known11_any _ (HT.out.1.keep B4.out) (HT.out.2.keep B4.out)).mono ?_
            rintro e u5 ⟨rfl, hb⟩
            have B5 := hideIt (below_then B4.out hb)
            clear hb B4
            go_wp2_with fail
            refine (HXA.out _).mono ?_
            rintro e u6 ⟨rfl, hb⟩
            have B6 := hideIt (below_then B5.out hb)
            clear hb B5 HXA
            go_wp2_with fail
            go_ret
            exact ⟨rfl, B6.out⟩
          · go_wp2_with fail
            refine (Z2.out _ _ (by simp) (HMW.out.keep (below_new wr _))).mono ?_
            rintro e u3 ⟨rfl, hb⟩
            have B3 := hideIt (below_then (below_then HBW.out (below_new wr _)) hb)
            clear hb Z1 Z2 Z3 HBW
            go_wp2_with fail
            refine (Z4.out _ _ rfl (HT.out.1.keep B3.out)).mono ?_
            rintro e u4 ⟨rfl, hb⟩
            have B4 := hideIt (below_then B3.out hb)
            clear hb Z4 B3
            go_wp2_with fail
            refine (known11_any _ (HT.out.1.keep B4.out) (HT.out.2.keep B4.out)).mono ?_
            rintro e u5 ⟨rfl, hb⟩
            have B5 := hideIt (below_then B4.out hb)
            clear hb B4
            go_wp2_with fail
            refine (HXA.out _).mono ?_
            rintro e u6 ⟨rfl, hb⟩
            have B6 := hideIt (below_then B5.out hb)
            clear hb B5 HXA
            go_wp2_with fail
            go_ret
            exact ⟨rfl, B6.out⟩
        · cases a3
          · go_wp2_with fail
            refine (Z3.out _ _ (by simp) (HMW.out.keep (below_new wr _))).mono ?_
            rintro e u3 ⟨rfl, hb⟩
            have B3 := hideIt (below_then (below_then HBW.out (below_new wr _)) hb)
            clear hb Z1 Z2 Z3 HBW
            go_wp2_with fail
            refine (Z4.out _ _ rfl (HT.out.1.keep B3.out)).mono ?_
            rintro e u4 ⟨rfl, hb⟩
            have B4 := hideIt (below_then B3.out hb)
            clear hb Z4 B3
            go_wp2_with fail
            refine (known11_any _ (HT.out.1.keep B4.out) (HT.out.2.keep B4.out)).mono ?_
            rintro e u5 ⟨rfl, hb⟩
            have B5 := hideIt (below_then B4.out hb)
            clear hb B4
            go_wp2_with fail
            refine (HXA.out _).mono ?_
            rintro e u6 ⟨rfl, hb⟩
            have B6 := hideIt (below_then B5.out hb)
            clear hb B5 HXA
            go_wp2_with fail
            go_ret
            exact ⟨rfl, B6.out⟩
          · go_wp2_with fail
            refine (Z3.out _ _ (by simp) (HMW.out.keep (below_then (below_new wr _) (below_new _ _)))).mono ?_
            rintro e u3 ⟨rfl, hb⟩
            have B3 := hideIt (below_then (below_then (below_then HBW.out (below_new wr _)) (below_new _ _)) hb)
            clear hb Z1 Z2 Z3 HBW
            go_wp2_with fail
            refine (Z4.out _ _ rfl (HT.out.1.keep B3.out)).mono ?_
            rintro e u4 ⟨rfl, hb⟩
            have B4 := hideIt (below_then B3.out hb)
            clear hb Z4 B3
            go_wp2_with fail
            refine (known11_any _ (HT.out.1.keep B4.out) (HT.out.2.keep B4.out)).mono ?_
            rintro e u5 ⟨rfl, hb⟩
            have B5 := hideIt (below_then B4.out hb)
            clear hb B4
            go_wp2_with fail
            refine (HXA.out _).mono ?_
            rintro e u6 ⟨rfl, hb⟩
            have B6 := hideIt (below_then B5.out hb)
            clear hb B5 HXA
            go_wp2_with fail
            go_ret
            exact ⟨rfl, B6.out⟩
end Go.Proofs.YtjfmlfakdijfjaaDoor
