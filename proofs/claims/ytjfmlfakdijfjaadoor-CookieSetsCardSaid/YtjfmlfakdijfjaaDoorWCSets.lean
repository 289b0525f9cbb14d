/- CookieSets: the walk. -/
import Derived.Test.YtjfmlfakdijfjaaDoorCookLaw
import Derived.Test.YtjfmlfakdijfjaaDoorCookLaid
import Derived.Test.YtjfmlfakdijfjaaDoorHeadLine
import Derived.Test.YtjfmlfakdijfjaaDoorRefFillEsc
import Derived.Test.YtjfmlfakdijfjaaDoorOpenPair
namespace Go.Proofs.YtjfmlfakdijfjaaDoor
open Go.ChangeShapes Go.WideShapes Go.ChangeAt Go.RowKit
set_option linter.unusedVariables false
set_option linter.unusedSimpArgs false

def ageT : List UInt8 := [97, 61, 49, 59, 32, 77, 97, 120, 45, 65, 103, 101, 61, 48]
set_option maxRecDepth 8000 in
set_option maxHeartbeats 8000000 in
theorem cookieSets_walk (x0 : PairL) (a1 : Int) (a2 : ByteArray) (a3 : Bool) (a4 : ByteArray) (a5 : Bool) (a6 : Option Addr) (len6 cap6 : Nat) (z6 : List Int) (a7 : Int) (a8 : Int) (w : World) (w0 : x0.1.length ≤ 140737488355328 ∧ x0.2.length ≤ 140737488355328) (w1 : (Lit.int .i64 a1).wf = true) (w2 : a2.size ≤ maxLen) (w4 : a4.size ≤ maxLen) (w6 : IsRow .u8 w a6 len6 cap6 z6) (w7 : (Lit.int .u8 a7).wf = true) (w8 : (Lit.int .u32 a8).wf = true) (hT : Tabs w) (r2 : a2.size ≤ 140737488355328) (r4 : a4.size ≤ 140737488355328) (r6 : cap6 ≤ 140737488355328) :
    Calls Tryd.prog 4 #[pairV x0, .int .i64 a1, .string a2, .bool a3, .string a4, .bool a5, .slice a6 len6 cap6, .int .u8 a7, .int .u32 a8] w fun e w' => e = .returned (.bool true) ∧ Below w.heap.size w w' := by
  obtain ⟨n0, v0⟩ := x0
  simp only at w0
  obtain ⟨s, rfl, es⟩ := str_is a2
  obtain ⟨pa, rfl, ep⟩ := str_is a4
  have zn := strOf_size n0
  have zv := strOf_size v0
  have zs := strOf_size s
  have zp := strOf_size pa
  rw [zs] at r2
  rw [zp] at r4
  obtain ⟨_, _, hlc6, _⟩ := w6.bytes
  obtain ⟨bs, hl6, _, hp6⟩ := row_piece w6 (by omega)
  have hb7 := bounds_u8 w7
  have hb8 := bounds_u32 w8
  obtain ⟨x, rfl, hx⟩ : ∃ x : Nat, a7 = (x : Int) ∧ x < 256 := ⟨a7.toNat, by omega, by omega⟩
  have hw8 : IntKind.i64.wrap a8 = a8 := IntWalk.i64_in _ (by omega)
  have HT := hideIt hT
  have HP6 := hideIt hp6
  have HL6 := hideIt hl6
  have HR6 : Hid (len6 ≤ 140737488355328) := hideIt (by omega)
  have P1 := hideIt (PCell.new w (n0, v0))
  have B1 := hideIt (below_new w (.cells #[.string (strOf n0), .string (strOf v0)] 30))
  have hs1 : IntKind.i64.wrap ((n0.length : Int) + (v0.length : Int)) = (n0.length : Int) + (v0.length : Int) := IntWalk.i64_in _ (by omega)
  have hs2 : IntKind.i64.wrap ((n0.length : Int) + (v0.length : Int) + (s.length : Int)) = (n0.length : Int) + (v0.length : Int) + (s.length : Int) := IntWalk.i64_in _ (by omega)
  have hs3 : IntKind.i64.wrap ((n0.length : Int) + (v0.length : Int) + (s.length : Int) + (pa.length : Int)) = (n0.length : Int) + (v0.length : Int) + (s.length : Int) + (pa.length : Int) := IntWalk.i64_in _ (by omega)
  have HK := hideIt (fun u (h : Below w.heap.size w u) => known11_any u (HT.out.1.keep h) (HT.out.2.keep h))
  clear w1 w2 w4 w6 w7 w8 hT hlc6 hp6 hl6 r6 hb7 es ep
  by_cases hbig : 400 < n0.length + v0.length + s.length + pa.length
  · have hgt : (400 : Int) < (n0.length : Int) + (v0.length : Int) + (s.length : Int) + (pa.length : Int) := by omega
    clear hbig w0 r2 r4
    unfold pairV
    go_enter Tryd.func4, Tryd.ntmps4
    go_wp2_with fail
    refine (HK.out _ B1.out).mono ?_
    rintro e u1 ⟨rfl, hb⟩
    have B2 := hideIt (below_then B1.out hb)
    clear hb
    go_wp2_with fail
    go_ret
    exact ⟨rfl, B2.out⟩
  · have hgt : ¬ (400 : Int) < (n0.length : Int) + (v0.length : Int) + (s.length : Int) + (pa.length : Int) := by omega
    have HLN : Hid (n0.length ≤ 400) := hideIt (by omega)
    have HLV : Hid (v0.length ≤ 400) := hideIt (by omega)
    have HLS : Hid (s.length ≤ 400) := hideIt (by omega)
    obtain ⟨q, hq⟩ : ∃ q, x % 8 = q := ⟨_, rfl⟩
    have hq8 : q < 8 := by omega
    obtain ⟨nm, hnm⟩ : ∃ z, nmQ q = z := ⟨_, rfl⟩
    have HNL : Hid (nm.length ≤ 10) := hideIt (by rw [← hnm]; exact nm_len q hq8)
    obtain ⟨vl, hvl⟩ : ∃ z, escapeL (lineOf bs) = z := ⟨_, rfl⟩
    have hlo := lineOf_len bs
    have HVB : Hid (vl.length ≤ 1260) := hideIt (by rw [← hvl]; have := escapeL_len (lineOf bs); omega)
    have HLO : Hid ((lineOf bs).length ≤ 100000) := hideIt (by omega)
    have HVL := hideIt hvl
    have HX := hideIt hx
    have HXQ := hideIt hq
    have HQ := hideIt hq8
    have HNM := hideIt hnm
    clear hbig w0 r2 r4 hx hq hq8 hnm hvl hlo
    unfold pairV
    go_enter Tryd.func4, Tryd.ntmps4
    go_wp2_with fail
    refine (HK.out _ B1.out).mono ?_
    rintro e u1 ⟨rfl, hb⟩
    have hTQ : (u1.alloc (.cells nmV 9)).cell? ⟨u1.heap.size, q, none⟩ = some (.string (strOf nm)) := by
      rw [World.cell?_alloc_at _ _ _ _ rfl, ← HNM.out]; exact nm_at q HQ.out
    have HTQ := hideIt hTQ
    have HGR : Hid (u1.heap.size < (u1.alloc (.cells nmV 9)).heap.size) := hideIt (by rw [alloc_size]; exact Nat.lt_succ_self _)
    have hbn := below_then hb (below_new u1 (.cells nmV 9))
    have BW := hideIt (below_then B1.out hbn)
    have PW := hideIt (P1.out.keep hbn P1.out.lt)
    have HP6' := hideIt (HP6.out.keep BW.out)
    clear hb hTQ hbn B1 P1 HP6 hs1 hs2 hs3 zn zv zp hgt
    go_upto_region 4 with fail
    change Code.wp _ _ _ _ (u1.alloc (.cells nmV 9))
    generalize u1.alloc (.cells nmV 9) = W at *
    generalize u1.heap.size = g at *
    have HP6 := HP6'
    clear HP6'
    refine region_tail 10 [Fact.is (.slice (some ⟨g, 0, none⟩) 8 8), Fact.is (.int .u8 (x : Int)), Fact.is (.int .u8 (q : Int)), Fact.is (.pointer (some ⟨g, 0 + q, none⟩)), Fact.str (nm), Fact.is (.slice a6 len6 cap6), Fact.str (lineOf bs), Fact.str (vl), Fact.is (.agg #[.string (strOf nm), .string (strOf vl)]), Fact.freshP W.heap.size] (by kernel_rfl) (by kernel_rfl) (by kernel_rfl) ⟨fun a wq m => ?_, fun a wq m => ?_, fun a wq m => ?_, fun a wq m => ?_, fun a wq m => ?_, fun a wq m => ?_, fun a wq m => ?_, fun a wq m => ?_, fun a wq m => ?_, fun a wq m => ?_, trivial⟩ ?_
    · exact ok_move (wanted_none rfl) (.tmp 19) rfl (m.old 19 rfl)
    · exact ok_move (wanted_none rfl) (.tmp 7) rfl (m.old 7 rfl)
    · exact ok_bin (wanted_none rfl) _ _ _ (.tmp 44) _ rfl _ _ _ (m.has 1 44 rfl rfl) (rfl) rfl (run_rem8q x q HX.out HXQ.out)
    · exact ok_indexS8 (wanted_none rfl) (.tmp 43) (.tmp 45) rfl g 0 8 8 q (m.has 0 43 rfl rfl) (m.has 2 45 rfl rfl) HQ.out
    · exact ok_loadS (wanted_none rfl) (.tmp 46) rfl ⟨g, 0 + q, none⟩ nm (m.has 3 46 rfl rfl) (by rw [Nat.zero_add]; exact (m.grew.cell (p := ⟨g, q, none⟩) HGR.out).trans HTQ.out)
    · exact ok_move (wanted_none rfl) (.tmp 6) rfl (m.old 6 rfl)
    · exact ok_fn (wanted_none rfl) _ _ _ rfl _ (map1 (m.has 5 48 rfl rfl)) go_hline (hline_any a6 bs len6 cap6 wq (HP6.out.keep m.grew) HL6.out HR6.out) (fun e w' ⟨h1, h2⟩ => ⟨_, h1, rfl, h2⟩)
    · exact ok_fn (wanted_none rfl) _ _ _ rfl _ (map1 (m.has 6 49 rfl rfl)) go_refesc (refesc_any (lineOf bs) wq HLO.out) (fun e w' ⟨h1, h2⟩ => ⟨_, h1, (by rw [HVL.out]; rfl), h2⟩)
    · exact ok_structP (wanted_none rfl) (.tmp 47) (.tmp 50) rfl _ _ (m.has 4 47 rfl rfl) (m.has 7 50 rfl rfl)
    · exact ok_freshP (wanted_none rfl) rfl W.heap.size (show W.heap.size ≤ wq.heap.size from m.grew.size)
    intro f w9 hg hf
    have e8 : f 8 = .agg #[.string (strOf nm), .string (strOf vl)] := hf 8 (by decide)
    obtain ⟨gq, e9, hgq, hQ⟩ := (hf 9 (by decide) : (Fact.freshP W.heap.size).p (f 9) w9)
    have B9 := hideIt (below_then BW.out hg)
    have GR := hideIt hg
    clear hf
    simp only [List.take, List.drop, putAll, Act.put, List.setIfInBounds_toArray, List.set_cons_succ, List.set_cons_zero]
    rw [e8, e9]
    clear e8 e9
    have hwlt : w.heap.size < gq := Nat.lt_of_lt_of_le PW.out.lt hgq
    have q0 := hQ.cell0
    have q1 := hQ.cell1
    have q2 := hQ.open0
    have q3 := hQ.open1
    obtain ⟨X9, hX9⟩ : ∃ X, (w9.setCell ⟨gq, 0, none⟩ (.string (strOf nm))).setCell ⟨gq, 1, none⟩ (.string (strOf vl)) = X := ⟨_, rfl⟩
    have BX : Hid (Below w.heap.size w X9) := hideIt (by rw [← hX9]; exact below_setP B9.out (by omega) _ _)
    have PX : Hid (PCell X9 w.heap.size (n0, v0)) := hideIt (by
      rw [← hX9]
      exact ((heap_setCell_other _ _ _ _ (by show w.heap.size ≠ gq; omega)).trans (heap_setCell_other _ _ _ _ (by show w.heap.size ≠ gq; omega))).trans (PW.out.keep GR.out PW.out.lt))
    have NX : Hid (PCell X9 gq (nm, vl)) := hideIt (by rw [← hX9]; exact hQ.set (nm, vl))
    have z0 := NX.out.cell0
    have z1 := NX.out.cell1
    have SR := hideIt (fun u (h : Below w.heap.size w u) => rcset_any (nm, vl) a8 u (by have := HNL.out; simp only; omega) (by have := HVB.out; simp only; omega) (HT.out.2.keep h))
    have hsl := setC_len (nm, vl) a8
    have C1 := hideIt (fun u (h : Below w.heap.size w u) => sets_any (n0, v0) a1 u (by have := HLN.out; simp only; omega) (by have := HLV.out; simp only; omega) (HT.out.2.keep h))
    have C2 := hideIt (fun u (h : Below w.heap.size w u) => sets_any (nm, vl) a1 u (by have := HNL.out; simp only; omega) (by have := HVB.out; simp only; omega) (HT.out.2.keep h))
    have C3 := hideIt (fun u (h : Below w.heap.size w u) => sets_any (nm, vl) a8 u (by have := HNL.out; simp only; omega) (by have := HVB.out; simp only; omega) (HT.out.2.keep h))
    obtain ⟨⟨T, er⟩, hR⟩ : ∃ R, setC (nm, vl) a8 = R := ⟨_, rfl⟩
    rw [hR] at SR hsl
    simp only at hsl SR
    have C4 := hideIt (fun u (h : Below w.heap.size w u) => reads_any s u (by have := HLS.out; omega) (HT.out.1.keep h) (HT.out.2.keep h))
    have C5 := hideIt (fun u (h : Below w.heap.size w u) => reads_any T u (by have := HNL.out; have := HVB.out; omega) (HT.out.1.keep h) (HT.out.2.keep h))
    have C6 := hideIt (fun u (h : Below w.heap.size w u) => reads_any (ageT ++ s) u (by have := HLS.out; simp [ageT]; omega) (HT.out.1.keep h) (HT.out.2.keep h))
    have C7 := hideIt (fun u => prefixes_any n0 pa a3 a5 u (by have := HLN.out; omega))
    have C8 := hideIt (fun u => prefixes_any nm [47] a3 a5 u (by have := HNL.out; omega))
    have C9 := hideIt (fun u => prefixes_any (nm ++ s) [47] a3 a5 u (by have := HNL.out; have := HLS.out; rw [List.length_append]; omega))
    have EC : Hid ((⟨#[97, 61, 49, 59, 32, 77, 97, 120, 45, 65, 103, 101, 61, 48]⟩ : ByteArray) ++ strOf s = strOf (ageT ++ s)) := hideIt (by
      rw [show (⟨#[97, 61, 49, 59, 32, 77, 97, 120, 45, 65, 103, 101, 61, 48]⟩ : ByteArray) = strOf ageT from rfl, strOf_append])
    have EN : Hid (strOf nm ++ strOf s = strOf (nm ++ s)) := hideIt (strOf_append nm s)
    have hzs : (strOf s).size ≤ 400 := by rw [zs]; exact HLS.out
    have hzn : (strOf nm).size ≤ 10 := by rw [strOf_size]; exact HNL.out
    unfold pairV at SR C1 C2 C3
    simp only at SR C1 C2 C3
    subst hX9
    clear hQ B9 GR PW hR hsl HK HT HP6 HL6 HR6 HLN HLV HLS HNL HVB HLO HVL HX HXQ HQ HNM HTQ HGR BW zs
    go_wp2_with fail
    refine (SR.out _ BX.out).mono ?_
    rintro e y1 ⟨rfl, hb⟩
    have K1 := hideIt (below_then BX.out hb)
    have PY := hideIt (PX.out.keep hb PX.out.lt)
    have NY := hideIt (NX.out.keep hb NX.out.lt)
    have c0 := PY.out.cell0
    have c1 := PY.out.cell1
    clear hb BX PX NX z0 z1 q0 q1 q2 q3 SR
    generalize strOf (ageT ++ s) = s6 at *
    generalize strOf (nm ++ s) = s9 at *
    generalize strOf T = sT at *
    generalize strOf s = ss at *
    go_wp2_with fail
    refine (C1.out _ K1.out).mono ?_
    rintro e y2 ⟨rfl, hb⟩
    have K2 := hideIt (below_then K1.out hb)
    replace PY := hideIt (PY.out.keep hb PY.out.lt)
    replace NY := hideIt (NY.out.keep hb NY.out.lt)
    clear c0 c1
    have z0 := NY.out.cell0
    have z1 := NY.out.cell1
    clear hb C1 K1
    go_wp2_with fail
    refine (C2.out _ K2.out).mono ?_
    rintro e y3 ⟨rfl, hb⟩
    have K3 := hideIt (below_then K2.out hb)
    replace PY := hideIt (PY.out.keep hb PY.out.lt)
    replace NY := hideIt (NY.out.keep hb NY.out.lt)
    replace z0 := NY.out.cell0
    replace z1 := NY.out.cell1
    clear hb C2 K2
    go_wp2_with fail
    refine (C3.out _ K3.out).mono ?_
    rintro e y4 ⟨rfl, hb⟩
    have K4 := hideIt (below_then K3.out hb)
    replace PY := hideIt (PY.out.keep hb PY.out.lt)
    replace NY := hideIt (NY.out.keep hb NY.out.lt)
    replace z0 := NY.out.cell0
    replace z1 := NY.out.cell1
    clear hb C3 K3
    go_wp2_with fail
    refine (C4.out _ K4.out).mono ?_
    rintro e y5 ⟨rfl, hb⟩
    have K5 := hideIt (below_then K4.out hb)
    replace PY := hideIt (PY.out.keep hb PY.out.lt)
    replace NY := hideIt (NY.out.keep hb NY.out.lt)
    replace z0 := NY.out.cell0
    replace z1 := NY.out.cell1
    clear hb C4 K4
    go_wp2_with fail
    refine (C5.out _ K5.out).mono ?_
    rintro e y6 ⟨rfl, hb⟩
    have K6 := hideIt (below_then K5.out hb)
    replace PY := hideIt (PY.out.keep hb PY.out.lt)
    replace NY := hideIt (NY.out.keep hb NY.out.lt)
    replace z0 := NY.out.cell0
    replace z1 := NY.out.cell1
    clear hb C5 K5
    go_wp2_with fail
    rw [EC.out]
    refine (C6.out _ K6.out).mono ?_
    rintro e y7 ⟨rfl, hb⟩
    have K7 := hideIt (below_then K6.out hb)
    replace PY := hideIt (PY.out.keep hb PY.out.lt)
    replace NY := hideIt (NY.out.keep hb NY.out.lt)
    replace z0 := NY.out.cell0
    replace z1 := NY.out.cell1
    have c0 := PY.out.cell0
    clear hb C6 K6
    go_wp2_with fail
    refine (C7.out _).mono ?_
    rintro e y8 ⟨rfl, hb⟩
    have K8 := hideIt (below_then K7.out hb)
    replace PY := hideIt (PY.out.keep hb PY.out.lt)
    replace NY := hideIt (NY.out.keep hb NY.out.lt)
    replace z0 := NY.out.cell0
    replace z1 := NY.out.cell1
    clear c0
    clear hb C7 K7
    go_wp2_with fail
    refine (C8.out _).mono ?_
    rintro e y9 ⟨rfl, hb⟩
    have K9 := hideIt (below_then K8.out hb)
    replace PY := hideIt (PY.out.keep hb PY.out.lt)
    replace NY := hideIt (NY.out.keep hb NY.out.lt)
    replace z0 := NY.out.cell0
    replace z1 := NY.out.cell1
    clear hb C8 K8
    go_wp2_with fail
    rw [EN.out]
    refine (C9.out _).mono ?_
    rintro e y10 ⟨rfl, hb⟩
    have K10 := hideIt (below_then K9.out hb)
    replace PY := hideIt (PY.out.keep hb PY.out.lt)
    replace NY := hideIt (NY.out.keep hb NY.out.lt)
    clear hb C9 K9
    go_wp2_with fail
    go_ret
    exact ⟨rfl, K10.out⟩
end Go.Proofs.YtjfmlfakdijfjaaDoor
