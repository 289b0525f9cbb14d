/- The walk of HttpSmuggles. -/
import Derived.Test.YtbojigimldfghaaDoorHttpSmug
import Derived.Test.YtbojigimldfghaaDoorRefFillEsc
import Derived.Test.YtbojigimldfghaaDoorHeadLine
import Derived.Test.YtbojigimldfghaaDoorHttpKnown
import Derived.Test.YtbojigimldfghaaDoorHttpLaid
import Derived.Deep.Cut
namespace Go.Proofs.YtbojigimldfghaaDoor
open Go.ChangeShapes Go.WideShapes Go.ChangeAt Go.RowKit
set_option linter.unusedVariables false
set_option linter.unusedSimpArgs false

def smugV : Array Value := (smugS.map fun p => Value.string (strOf p)).toArray
theorem smug_at (q : Nat) (h : q < 8) : smugV[q]? = some (.string (strOf (smugStr q))) := by
  have : ∀ q : Fin 8, smugS[q.val]? = some (smugStr q.val) := by decide
  have t : smugS[q]? = some (smugStr q) := this ⟨q, h⟩
  rw [smugV, List.getElem?_toArray, List.getElem?_map, t]
  rfl
theorem stat_bad (x : Int) (h : ¬ x = 0) : ¬ statI x = 200 := by
  unfold statI
  rw [if_neg h]
  split
  · decide
  · split <;> decide
set_option maxRecDepth 8000 in
set_option maxHeartbeats 4000000 in
theorem httpSmuggles_walk (a0 : Int) (a1 : Int) (a2 : Option Addr) (len2 cap2 : Nat) (z2 : List Int) (w : World) (w0 : (Lit.int .u8 a0).wf = true) (w1 : (Lit.int .u8 a1).wf = true) (w2 : IsRow .u8 w a2 len2 cap2 z2) (hT : Tabs w) (r2 : cap2 ≤ 140737488355328) :
    Calls Tryd.prog 6 #[.int .u8 a0, .int .u8 a1, .slice a2 len2 cap2] w fun e w' => e = .returned (.bool true) ∧ Below w.heap.size w w' := by
  have hm : MaxOk w := hT
  have HM := hideIt hm
  have HK := hideIt (fun w' (hb : Below w.heap.size w w') => known9_any w' (hm.keep hb))
  obtain ⟨_, _, hlc2, _⟩ := w2.bytes
  have hb0 := bounds_u8 w0
  have hb1 := bounds_u8 w1
  obtain ⟨cs, hcl, _, hcp⟩ := row_piece w2 (by omega)
  have HLI := hideIt (fun w' (hb : Below w.heap.size w w') => hline_any a2 cs len2 cap2 w' (hcp.keep hb) hcl (by omega))
  have hll : (lineOf cs).length ≤ 420 := by
    unfold lineOf
    have := headFlat_len (cs.take 30)
    rw [List.length_take] at this
    omega
  have HES := hideIt (fun w' => refesc_any (lineOf cs) w' (by omega))
  have hyl : (escapeL (lineOf cs)).length ≤ 1300 := by have := escapeL_len (lineOf cs); omega
  have HYF := hideIt (esc_fine (lineOf cs))
  obtain ⟨n, rfl⟩ : ∃ k : Nat, a0 = (k : Int) := ⟨a0.toNat, by omega⟩
  obtain ⟨k, rfl⟩ : ∃ k : Nat, a1 = (k : Int) := ⟨a1.toNat, by omega⟩
  have hn8 : n % 8 < 8 := Nat.mod_lt _ (by decide)
  have hk4 : k % 4 < 4 := Nat.mod_lt _ (by decide)
  have t1 : Int.tmod (n : Int) 8 = ((n % 8 : Nat) : Int) := by rw [Int.tmod_eq_emod_of_nonneg (by omega)]; omega
  have t2 : Int.tmod (k : Int) 4 = ((k % 4 : Nat) : Int) := by rw [Int.tmod_eq_emod_of_nonneg (by omega)]; omega
  have v1 : IntKind.u8.wrap ((n % 8 : Nat) : Int) = ((n % 8 : Nat) : Int) := by rw [IntKind.wrap_u8]; omega
  have v2 : IntKind.u8.wrap ((k % 4 : Nat) : Int) = ((k % 4 : Nat) : Int) := by rw [IntKind.wrap_u8]; omega
  have x2 : IntKind.i64.wrap ((k % 4 : Nat) : Int) = ((k % 4 : Nat) : Int) := IntWalk.i64_in _ (by omega)
  have x4 : IntKind.i64.wrap (1 + ((k % 4 : Nat) : Int)) = 1 + ((k % 4 : Nat) : Int) := IntWalk.i64_in _ (by omega)
  obtain ⟨X, hX⟩ : ∃ X, w.alloc (.cells smugV 9) = X := ⟨_, rfl⟩
  have BX : Below w.heap.size w X := by rw [← hX]; exact below_new w _
  have hgl : w.heap.size < X.heap.size := by rw [← hX, alloc_size]; omega
  have htab : X.cell? ⟨w.heap.size, n % 8, none⟩ = some (.string (strOf (smugStr (n % 8)))) := by
    rw [← hX, World.cell?_alloc_at _ _ _ _ rfl]; exact smug_at _ hn8
  have HX : Hid (w.alloc (.cells #[.string ⟨#[67, 111, 110, 116, 101, 110, 116, 45, 76, 101, 110, 103, 116, 104, 58, 32, 48, 13, 10, 67, 111, 110, 116, 101, 110, 116, 45, 76, 101, 110, 103, 116, 104, 58, 32, 48]⟩, .string ⟨#[67, 111, 110, 116, 101, 110, 116, 45, 76, 101, 110, 103, 116, 104, 58, 32, 43, 48]⟩, .string ⟨#[84, 114, 97, 110, 115, 102, 101, 114, 45, 69, 110, 99, 111, 100, 105, 110, 103, 58, 32, 99, 104, 117, 110, 107, 101, 100]⟩, .string ⟨#[72, 111, 115, 116, 58, 32, 98]⟩, .string ⟨#[88, 32, 58, 32, 49]⟩, .string ⟨#[67, 111, 110, 116, 101, 110, 116, 45, 76, 101, 110, 103, 116, 104, 58, 32, 48, 44, 32, 48]⟩, .string ⟨#[84, 114, 97, 110, 115, 102, 101, 114, 45, 69, 110, 99, 111, 100, 105, 110, 103, 58]⟩, .string ⟨#[32, 72, 111, 115, 116, 58, 32, 98]⟩] 9) = X) := hideIt (show _ = _ from (hX : w.alloc (.cells smugV 9) = X))
  have HBX := hideIt BX
  have HTAB := hideIt htab
  have HGL := hideIt hgl
  clear w0 w1 w2 hT hb0 hb1 hm hcp hcl hlc2 r2 BX hgl htab hX
  have HLL := hideIt hll
  clear hll
  generalize escapeL (lineOf cs) = y at *
  have zl : (strOf (lineOf cs)).size ≤ 500 := by rw [strOf_size]; have := HLL.out; omega
  have zy : (strOf y).size ≤ 1500 := by rw [strOf_size]; omega
  generalize lineOf cs = ln at *
  generalize n % 8 = p at *
  generalize k % 4 = q at *
  go_enter Tryd.func6, Tryd.ntmps6
  go_upto_region 2 with fail
  rw [HX.out]
  go_wp2_with fail
  go_loopw [8, 9] (fun sv iv wr => ∃ j : Nat, j ≤ q ∧ iv = .int .i64 (j : Int) ∧ sv = .string (strOf (smS y j)) ∧ Below X.heap.size X wr) (fun sv iv wr => q - (intOf iv).toNat)
  case atStart => exact ⟨0, by omega, rfl, rfl, Below.refl _ _⟩
  case round =>
    obtain ⟨j, hj, rfl, rfl, hbz⟩ := hrel
    have HBZ := hideIt hbz
    clear hbz
    have hwi : IntKind.i64.wrap ((j : Int) + 1) = (j : Int) + 1 := IntWalk.i64_in _ (by omega)
    have hsz := smS_len y (by omega) j
    have zs : (strOf (smS y j)).size ≤ 10000 := by rw [strOf_size]; omega
    by_cases hlt : j < q
    · have hlt' : (j : Int) < (q : Int) := by omega
      have ES : Hid (strOf (smS y j) ++ (⟨#[88, 45, 65, 58, 32]⟩ : ByteArray) ++ strOf y ++ ⟨#[13, 10]⟩ = strOf (smS y (j + 1))) := hideIt (by
        rw [smS_succ, show (⟨#[88, 45, 65, 58, 32]⟩ : ByteArray) = strOf [88, 45, 65, 58, 32] from rfl, show (⟨#[13, 10]⟩ : ByteArray) = strOf [13, 10] from rfl, strOf_append, strOf_append, strOf_append])
      have HL2 := hideIt (HLI.out wr (below_then HBX.out HBZ.out))
      clear hsz
      generalize smS y j = S at *
      go_wp2_with fail
      refine HL2.out.mono ?_
      rintro e u1 ⟨rfl, hb⟩
      have B1 := hideIt (below_then HBZ.out hb)
      clear hb HL2
      go_wp2_with fail
      refine (HES.out _).mono ?_
      rintro e u2 ⟨rfl, hb⟩
      have B2 := hideIt (below_then B1.out hb)
      clear hb B1
      go_wp2_with fail
      go_roundw
      case rel => exact ⟨j + 1, by omega, by go_num, by rw [ES.out], B2.out⟩
      case measure => simp [intOf]; omega
    · obtain rfl : j = q := by omega
      have hlt' : ¬ (j : Int) < (j : Int) := by omega
      have HR1 := hideIt (smS_req y j HYF.out (by omega) hk4)
      have HR2 := hideIt (smug_req y j p HYF.out (by omega) hk4 hn8)
      have hp40 := smug_len p hn8
      have hlist : (smS y j ++ crlf).length ≤ 10000 := by simp [crlf]; omega
      have hlist2 : (smS y j ++ smugStr p ++ [13, 10, 13, 10]).length ≤ 10000 := by simp; omega
      have EB : strOf (smS y j ++ crlf) = strOf (smS y j) ++ ⟨#[13, 10]⟩ := by rw [show (⟨#[13, 10]⟩ : ByteArray) = strOf crlf from rfl, strOf_append]
      have EB2 : strOf (smS y j ++ smugStr p ++ [13, 10, 13, 10]) = strOf (smS y j) ++ strOf (smugStr p) ++ ⟨#[13, 10, 13, 10]⟩ := by rw [show (⟨#[13, 10, 13, 10]⟩ : ByteArray) = strOf [13, 10, 13, 10] from rfl, strOf_append, strOf_append]
      obtain ⟨d1, u1, hcv, hp1, hb1⟩ := conv_str wr (smS y j ++ crlf) (by omega)
      rw [EB] at hcv
      have B0 := below_then HBX.out HBZ.out
      have HP := hideIt (parse_any _ (smS y j ++ crlf) _ d1 u1 hp1 rfl (by omega) (HM.out.keep (below_then B0 hb1)))
      have BX1 := hideIt (below_then HBZ.out hb1)
      have HC2 : Hid (∀ u : World, Below w.heap.size w u → ∃ d u', (convert 9 22 (.string (strOf (smS y j) ++ strOf (smugStr p) ++ ⟨#[13, 10, 13, 10]⟩))).run Tryd.prog u = .ok (.slice (some ⟨u.heap.size, 0, none⟩) (smS y j ++ smugStr p ++ [13, 10, 13, 10]).length d) u' ∧ Below u.heap.size u u' ∧ Calls Tryd.prog 23 #[.slice (some ⟨u.heap.size, 0, none⟩) (smS y j ++ smugStr p ++ [13, 10, 13, 10]).length d] u' (ParsePost (reqL (smS y j ++ smugStr p ++ [13, 10, 13, 10])) u')) := hideIt fun u hb => by
        obtain ⟨d, u', h1, h2, h3⟩ := conv_str u (smS y j ++ smugStr p ++ [13, 10, 13, 10]) (by omega)
        rw [EB2] at h1
        exact ⟨d, u', h1, h3, parse_any _ _ _ d u' h2 rfl (by omega) ((HM.out.keep hb).keep h3)⟩
      obtain ⟨R1, hR1⟩ : ∃ R, reqL (smS y j ++ crlf) = R := ⟨_, rfl⟩
      obtain ⟨R2, hR2⟩ : ∃ R, reqL (smS y j ++ smugStr p ++ [13, 10, 13, 10]) = R := ⟨_, rfl⟩
      rw [hR1] at HP HR1
      rw [hR2] at HC2 HR2
      have zp : (strOf (smugStr p)).size ≤ 50 := by rw [strOf_size]; omega
      clear hp1 hb1 hR1 hR2 hsz hlist hlist2 EB EB2 hwi B0 hp40 HBZ
      generalize (smS y j ++ crlf).length = nl at *
      generalize (smS y j ++ smugStr p ++ [13, 10, 13, 10]).length = nl2 at *
      generalize smS y j = S at *
      generalize smugStr p = sp at *
      go_wp2_with fail
      refine HP.out.mono ?_
      rintro e u2 ⟨fv, A, c, rfl, hparts, hb⟩
      obtain ⟨FA, fc, rfl, _⟩ := hparts.fields.form
      have hbn := below_new u2 (.cells #[.string (strOf R1.1.m), .string (strOf R1.1.p), .slice FA R1.1.fs.length fc, .slice A R1.1.body.length c] 33)
      have BX2 := hideIt (below_then (below_then BX1.out hb) hbn)
      have Q2 := hideIt (QCell.new u2 (.string (strOf R1.1.m)) (.string (strOf R1.1.p)) (.slice FA R1.1.fs.length fc) (.slice A R1.1.body.length c))
      clear hb hbn hparts HP BX1 hcv
      unfold reqV
      go_upto_region 8 with fail
      generalize u2.alloc (.cells #[.string (strOf R1.1.m), .string (strOf R1.1.p), .slice FA R1.1.fs.length fc, .slice A R1.1.body.length c] 33) = Y at *
      generalize u2.heap.size = g2 at *
      have hfl := HR1.out.2
      have he1 := HR1.out.1
      rw [hfl] at Q2 ⊢
      rw [he1]
      clear hfl he1 HR1
      generalize strOf R1.1.m = m1 at *
      generalize strOf R1.1.p = p1 at *
      generalize R1.1.body.length = nb1 at *
      have hcell : Y.cell? ⟨w.heap.size, p, none⟩ = some (.string (strOf sp)) := (BX2.out.cell HGL.out).trans HTAB.out
      have hpi : (p : Int) < 8 := by omega
      obtain ⟨d2, u3, hcv, hb3, hcall⟩ := HC2.out Y (below_then HBX.out BX2.out)
      have HP := hideIt hcall
      have BX3 := hideIt (below_then BX2.out hb3)
      have Q3 := hideIt (Q2.out.keep hb3 Q2.out.lt)
      clear hcall hb3 HC2 Q2
      go_wp2_with fail
      refine HP.out.mono ?_
      rintro e u4 ⟨gv, C, cc, rfl, hparts, hb⟩
      obtain ⟨GA, gc, rfl, _⟩ := hparts.fields.form
      have hbn := below_new u4 (.cells #[.string (strOf R2.1.m), .string (strOf R2.1.p), .slice GA R2.1.fs.length gc, .slice C R2.1.body.length cc] 33)
      have BX4 := hideIt (below_then (below_then BX3.out hb) hbn)
      have Q4 := hideIt ((Q3.out.keep hb Q3.out.lt).keep hbn (Nat.lt_of_lt_of_le Q3.out.lt hb.size))
      clear hb hbn hparts HP BX3 Q3 hcv hcell BX2
      unfold reqV
      go_upto_region 9 with fail
      generalize u4.alloc (.cells #[.string (strOf R2.1.m), .string (strOf R2.1.p), .slice GA R2.1.fs.length gc, .slice C R2.1.body.length cc] 33) = Z at *
      have hne : ¬ ((R2.2 : Nat) : Int) = 0 := by have := HR2.out; omega
      have hns := stat_bad _ hne
      clear HR2
      generalize R2.2 = k2 at *
      go_wp2_with fail
      refine (HK.out _ (below_then HBX.out BX4.out)).mono ?_
      rintro e w9 ⟨rfl, hb⟩
      have B5 := hideIt (below_then (below_then HBX.out BX4.out) hb)
      have Q5 := Q4.out.keep hb Q4.out.lt
      have q2 := Q5.c2
      have hst := hideIt (status_any (k2 : Int) w9)
      generalize statI (k2 : Int) = st at *
      have hsum : ((1 + j : Nat) : Int) = 1 + (j : Int) := by omega
      generalize 1 + j = L at *
      clear hb Q4 Q5 BX4
      go_wp2_with fail
      refine hst.out.mono ?_
      rintro e w10 ⟨rfl, rfl⟩
      go_wp2_with fail
      go_ret
      have hb1 : ((k2 : Int) != 0) = true := by rw [bne_iff_ne]; exact hne
      have hb2 : (st != 200) = true := by rw [bne_iff_ne]; exact hns
      exact ⟨congrArg (fun b => Ending.returned (Value.bool b)) (by rw [hb1, hb2]; rfl), B5.out⟩
end Go.Proofs.YtbojigimldfghaaDoor
