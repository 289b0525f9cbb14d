/- The walk of HttpOrder. (Written by gen9.py.) -/
import Derived.Test.YtbojigimldfghaaDoorHttpOrd
import Derived.Test.YtbojigimldfghaaDoorHttpFacts
import Derived.Test.YtbojigimldfghaaDoorHttpKnown
import Derived.Test.YtbojigimldfghaaDoorHttpLaid
import Derived.Test.YtbojigimldfghaaDoorPairMem
import Derived.Test.YtbojigimldfghaaDoorStrRun
import Derived.Deep.Cut
import Derived.Handy
namespace Go.Proofs.YtbojigimldfghaaDoor
open Go.ChangeShapes Go.WideShapes Go.ChangeAt Go.RowKit
set_option linter.unusedVariables false
set_option linter.unusedSimpArgs false

theorem run_rem26 (x p : Nat) (hx : x < 256) (hp : x % 26 = p) (w : World) : (binOp .rem 5 (.int .u8 (x : Int)) (.int .u8 26)).run Tryd.prog w = .ok (.int .u8 (p : Int)) w := by
  subst hp
  have h1 : Int.tmod (x : Int) 26 = ((x % 26 : Nat) : Int) := by rw [Int.tmod_eq_emod_of_nonneg (by omega)]; omega
  have h2 : IntKind.u8.wrap ((x % 26 : Nat) : Int) = ((x % 26 : Nat) : Int) := by rw [IntKind.wrap_u8']; omega
  generalize x % 26 = y at *
  go_simp
theorem run_rem5 (x p : Nat) (hx : x < 256) (hp : x % 5 = p) (w : World) : (binOp .rem 5 (.int .u8 (x : Int)) (.int .u8 5)).run Tryd.prog w = .ok (.int .u8 (p : Int)) w := by
  subst hp
  have h1 : Int.tmod (x : Int) 5 = ((x % 5 : Nat) : Int) := by rw [Int.tmod_eq_emod_of_nonneg (by omega)]; omega
  have h2 : IntKind.u8.wrap ((x % 5 : Nat) : Int) = ((x % 5 : Nat) : Int) := by rw [IntKind.wrap_u8']; omega
  generalize x % 5 = y at *
  go_simp
theorem run_quoS (x p : Nat) (hx : x < 256) (hp : x / 16 = p) (w : World) : (binOp .quo 5 (.int .u8 (x : Int)) (.int .u8 16)).run Tryd.prog w = .ok (.int .u8 (p : Int)) w := by
  subst hp; exact run_quo16 x hx w
theorem run_add65 (p : Nat) (c : UInt8) (hp : p < 100) (hc : c.toNat = 65 + p) (w : World) : (binOp .add 5 (.int .u8 65) (.int .u8 (p : Int))).run Tryd.prog w = .ok (.int .u8 ((c.toNat : Nat) : Int)) w := by
  rw [hc]
  have h2 : IntKind.u8.wrap (65 + (p : Int)) = 65 + (p : Int) := by rw [IntKind.wrap_u8']; omega
  go_simp
theorem run_add97 (p : Nat) (c : UInt8) (hp : p < 100) (hc : c.toNat = 97 + p) (w : World) : (binOp .add 5 (.int .u8 97) (.int .u8 (p : Int))).run Tryd.prog w = .ok (.int .u8 ((c.toNat : Nat) : Int)) w := by
  rw [hc]
  have h2 : IntKind.u8.wrap (97 + (p : Int)) = 97 + (p : Int) := by rw [IntKind.wrap_u8']; omega
  go_simp
section
variable {ops : Array Oper} {Q : Exit → Act → World → Prop} {o : Oper} {a : Act} {w : World}
theorem ok_fieldQ2 (hg : Region.wanted o (yielded ops a.tmps) = true) (x : Operand) (ho : o.op = .fieldAddr 33 x 2) (b off : Nat) (h1 : a.eval x = .pointer (some ⟨b, off, none⟩)) : StepOk Tryd.prog ops Q (Fact.is (.pointer (some ⟨b, off + 2, none⟩))) o a w := by
  refine ok_same hg _ ?_ rfl
  simp only [execOp, ho, h1]
  go_simp
theorem ok_loadF (hg : Region.wanted o (yielded ops a.tmps) = true) (x : Operand) (ho : o.op = .load 31 x) (p : Addr) (A : Option Addr) (n c : Nat) (h1 : a.eval x = .pointer (some p)) (hc : w.cell? p = some (.slice A n c)) : StepOk Tryd.prog ops Q (Fact.is (.slice A n c)) o a w := by
  refine ok_same hg _ ?_ rfl
  simp only [execOp, ho, h1]
  go_simp
end
set_option maxRecDepth 8000 in
set_option maxHeartbeats 4000000 in
theorem httpOrder_walk (a0 : Option Addr) (len0 cap0 : Nat) (z0 : List Int) (a1 : Int) (w : World) (w0 : IsRow .u8 w a0 len0 cap0 z0) (w1 : (Lit.int .u8 a1).wf = true) (hT : Tabs w) (r0 : cap0 ≤ 140737488355328) :
    Calls Tryd.prog 8 #[.slice a0 len0 cap0, .int .u8 a1] w fun e w' => e = .returned (.bool true) ∧ Below w.heap.size w w' := by
  have hm : MaxOk w := hT
  have HM := hideIt hm
  have HK := hideIt (fun w' (hb : Below w.heap.size w w') => known9_any w' (hm.keep hb))
  obtain ⟨_, _, hlc0, _⟩ := w0.bytes
  have hb1 := bounds_u8 w1
  obtain ⟨cs, hcl, _, hcp⟩ := row_piece w0 (by omega)
  obtain ⟨k, rfl⟩ : ∃ k : Nat, a1 = (k : Int) := ⟨a1.toNat, by omega⟩
  have hk : k < 256 := by omega
  have hv5 : k % 5 < 5 := Nat.mod_lt _ (by decide)
  have HCP := hideIt hcp
  have HCL := hideIt hcl
  obtain ⟨v, hv⟩ : ∃ v, k % 5 = v := ⟨_, rfl⟩
  rw [hv] at hv5
  have HV := hideIt hv
  have HLV : (ordV v).length ≤ 4 := by unfold ordV; rw [List.length_take]; exact Nat.min_le_right _ _
  have HOV : Hid (([32, 9, 32, 32] : List UInt8).take v = ordV v) := hideIt rfl
  clear w0 w1 hT hb1 hm hcp hcl hlc0 r0 hv
  go_enter Tryd.func8, Tryd.ntmps8
  go_wp2_with fail
  go_loopw [5, 6, 7] (fun sv nv iv wr => ∃ j : Nat, j ≤ 20 ∧ j ≤ len0 ∧ nv = .int .i64 (j : Int) ∧ iv = .int .i64 (j : Int) ∧ sv = .string (strOf (ordS cs v j)) ∧ Below w.heap.size w wr) (fun sv nv iv wr => 20 - (intOf iv).toNat)
  case atStart => exact ⟨0, by omega, by omega, rfl, rfl, rfl, Below.refl _ _⟩
  case round =>
    obtain ⟨j, hj20, hjl, rfl, rfl, rfl, hb⟩ := hrel
    have HB := hideIt hb
    clear hb
    have hwi : IntKind.i64.wrap ((j : Int) + 1) = (j : Int) + 1 := IntWalk.i64_in _ (by omega)
    have hsl := ordS_len cs v j (by have := HCL.out; omega)
    by_cases hgo : j < len0 ∧ j < 20
    · obtain ⟨g1, g2⟩ := hgo
      have g1' : (j : Int) < (len0 : Int) := by omega
      have g2' : (j : Int) < 20 := by omega
      have hjc : j < cs.length := by have := HCL.out; omega
      obtain ⟨b, off, rfl, hbl, hcells⟩ := HCP.out.bytes (by show 0 < cs.length; omega)
      have HCE : Hid (wr.cell? ⟨b, off + j, none⟩ = some (.int .u8 ((cs[j]).toNat : Int))) := hideIt ((HB.out.cell hbl).trans (hcells j hjc))
      have HBL : Hid (b < wr.heap.size) := hideIt (Nat.lt_of_lt_of_le hbl HB.out.size)
      have HCN := hideIt (ordC_nat cs[j])
      have HDN := hideIt (ordD_nat cs[j])
      have EN := hideIt (ordS_succ cs v j hjc)
      have hx : (cs[j]).toNat < 256 := (cs[j]).toNat_lt
      clear hcells hbl
      generalize hSS : ordS cs v j = S at *
      clear hSS
      generalize hNN : ordS cs v (j + 1) = N at *
      have HNN := hideIt hNN
      clear hNN
      generalize ordC cs[j] = C at *
      generalize ordD cs[j] = D at *
      generalize (cs[j]).toNat = x at *
      have hslen : S.length ≤ 500 := by omega
      obtain ⟨p, hp⟩ : ∃ p, x % 26 = p := ⟨_, rfl⟩
      obtain ⟨r, hr⟩ : ∃ r, x / 16 = r := ⟨_, rfl⟩
      have hp26 : p < 26 := by rw [← hp]; exact Nat.mod_lt _ (by decide)
      have hr16 : r < 16 := by rw [← hr]; omega
      rw [hp] at HCN
      rw [hr] at HDN
      have HP := hideIt hp
      have HR := hideIt hr
      have H1 := hideIt g1
      have HVV : Hid (ordV v = ordV v) := hideIt rfl
      obtain ⟨V, hVV⟩ : ∃ V, ordV v = V := ⟨_, rfl⟩
      rw [hVV] at HOV HLV EN
      clear hp hr hVV HVV hjc hsl
      go_wp2_with fail
      refine region_inv [Fact.str (S), Fact.str (S ++ [120]), Fact.is (.slice (some ⟨b, off, none⟩) len0 cap0), Fact.is (.int .i64 ((j : Nat) : Int)), Fact.is (.pointer (some ⟨b, off + j, none⟩)), Fact.is (.int .u8 ((x : Nat) : Int)), Fact.is (.int .u8 ((p : Nat) : Int)), Fact.is (.int .u8 ((C.toNat : Nat) : Int)), Fact.piece ([C]), Fact.str ([C]), Fact.str (S ++ [120] ++ [C]), Fact.str (S ++ [120] ++ [C] ++ [58]), Fact.is (.int .u8 ((k : Nat) : Int)), Fact.is (.int .u8 ((v : Nat) : Int)), Fact.str (V), Fact.str (S ++ [120] ++ [C] ++ [58] ++ V), Fact.is (.slice (some ⟨b, off, none⟩) len0 cap0), Fact.is (.int .i64 ((j : Nat) : Int)), Fact.is (.pointer (some ⟨b, off + j, none⟩)), Fact.is (.int .u8 ((x : Nat) : Int)), Fact.is (.int .u8 ((r : Nat) : Int)), Fact.is (.int .u8 ((D.toNat : Nat) : Int)), Fact.piece ([D]), Fact.str ([D]), Fact.str (S ++ [120] ++ [C] ++ [58] ++ V ++ [D]), Fact.str (N), Fact.str (N)] (by kernel_rfl) (by kernel_rfl) ⟨fun a w1 m => ?_, fun a w1 m => ?_, fun a w1 m => ?_, fun a w1 m => ?_, fun a w1 m => ?_, fun a w1 m => ?_, fun a w1 m => ?_, fun a w1 m => ?_, fun a w1 m => ?_, fun a w1 m => ?_, fun a w1 m => ?_, fun a w1 m => ?_, fun a w1 m => ?_, fun a w1 m => ?_, fun a w1 m => ?_, fun a w1 m => ?_, fun a w1 m => ?_, fun a w1 m => ?_, fun a w1 m => ?_, fun a w1 m => ?_, fun a w1 m => ?_, fun a w1 m => ?_, fun a w1 m => ?_, fun a w1 m => ?_, fun a w1 m => ?_, fun a w1 m => ?_, fun a w1 m => ?_, trivial⟩ ?_
      · exact ok_move (wanted_none rfl) (.tmp 5) rfl (m.old 5 rfl)
      · exact ok_strcat (wanted_none rfl) (.tmp 21) _ _ rfl _ _ _ (m.has 0 21 rfl rfl) (rfl) (by simp; omega) (rfl)
      · exact ok_move (wanted_none rfl) (.tmp 0) rfl (m.old 0 rfl)
      · exact ok_move (wanted_none rfl) (.tmp 7) rfl (m.old 7 rfl)
      · exact ok_index (wanted_none rfl) (.tmp 23) (.tmp 24) rfl b off len0 cap0 j (m.has 2 23 rfl rfl) (m.has 3 24 rfl rfl) H1.out
      · exact ok_loadb (wanted_none rfl) (.tmp 25) rfl ⟨b, off + j, none⟩ _ (m.has 4 25 rfl rfl) ((m.grew.cell (p := ⟨b, off + j, none⟩) HBL.out).trans HCE.out)
      · exact ok_bin (wanted_none rfl) _ _ _ (.tmp 26) _ rfl _ _ _ (m.has 5 26 rfl rfl) (rfl) rfl (run_rem26 x p hx HP.out)
      · exact ok_bin (wanted_none rfl) _ _ _ _ (.tmp 27) rfl _ _ _ (rfl) (m.has 6 27 rfl rfl) rfl (run_add65 p C (by omega) HCN.out)
      · exact ok_buildB1 (wanted_none rfl) (.tmp 28) rfl C (m.has 7 28 rfl rfl)
      · exact ok_str (wanted_none rfl) (.tmp 29) rfl _ (m.has 8 29 rfl rfl)
      · exact ok_strcat (wanted_none rfl) (.tmp 22) (.tmp 30) _ rfl _ _ _ (m.has 1 22 rfl rfl) (m.has 9 30 rfl rfl) (by simp; omega) (rfl)
      · exact ok_strcat (wanted_none rfl) (.tmp 31) _ _ rfl _ _ _ (m.has 10 31 rfl rfl) (rfl) (by simp; omega) (rfl)
      · exact ok_move (wanted_none rfl) (.tmp 1) rfl (m.old 1 rfl)
      · exact ok_bin (wanted_none rfl) _ _ _ (.tmp 33) _ rfl _ _ _ (m.has 12 33 rfl rfl) (rfl) rfl (run_rem5 k v hk HV.out)
      · exact ok_strslice (wanted_none rfl) _ none (some (.tmp 34)) rfl [32, 9, 32, 32] .u8 .u8 0 v rfl (.inl ⟨rfl, rfl⟩) (.inr (congrArg some (m.has 13 34 rfl rfl))) (by omega) (by show v ≤ 4; omega) V HOV.out
      · exact ok_strcat (wanted_none rfl) (.tmp 32) (.tmp 35) _ rfl _ _ _ (m.has 11 32 rfl rfl) (m.has 14 35 rfl rfl) (by simp; omega) (rfl)
      · exact ok_move (wanted_none rfl) (.tmp 0) rfl (m.old 0 rfl)
      · exact ok_move (wanted_none rfl) (.tmp 7) rfl (m.old 7 rfl)
      · exact ok_index (wanted_none rfl) (.tmp 37) (.tmp 38) rfl b off len0 cap0 j (m.has 16 37 rfl rfl) (m.has 17 38 rfl rfl) H1.out
      · exact ok_loadb (wanted_none rfl) (.tmp 39) rfl ⟨b, off + j, none⟩ _ (m.has 18 39 rfl rfl) ((m.grew.cell (p := ⟨b, off + j, none⟩) HBL.out).trans HCE.out)
      · exact ok_bin (wanted_none rfl) _ _ _ (.tmp 40) _ rfl _ _ _ (m.has 19 40 rfl rfl) (rfl) rfl (run_quoS x r hx HR.out)
      · exact ok_bin (wanted_none rfl) _ _ _ _ (.tmp 41) rfl _ _ _ (rfl) (m.has 20 41 rfl rfl) rfl (run_add97 r D (by omega) HDN.out)
      · exact ok_buildB1 (wanted_none rfl) (.tmp 42) rfl D (m.has 21 42 rfl rfl)
      · exact ok_str (wanted_none rfl) (.tmp 43) rfl _ (m.has 22 43 rfl rfl)
      · exact ok_strcat (wanted_none rfl) (.tmp 36) (.tmp 44) _ rfl _ _ _ (m.has 15 36 rfl rfl) (m.has 23 44 rfl rfl) (by simp; omega) (rfl)
      · exact ok_strcat (wanted_none rfl) (.tmp 45) _ _ rfl _ _ _ (m.has 24 45 rfl rfl) (rfl) (by simp; omega) (EN.out.symm)
      · exact ok_assign (wanted_none rfl) (.tmp 46) rfl (m.has 25 46 rfl rfl)
      intro f w9 hg hf
      have e26 : f 26 = .string (strOf N) := hf 26 (by decide)
      have B9 := hideIt (below_then HB.out hg)
      clear hf
      simp only [List.take, List.drop, putAll, Act.put, List.setIfInBounds_toArray, List.set_cons_succ, List.set_cons_zero]
      rw [e26]
      clear e26
      clear hg
      go_wp2_with fail
      go_roundw
      case rel => exact ⟨j + 1, by omega, by omega, by go_num, by go_num, by rw [HNN.out], B9.out⟩
      case measure => simp [intOf]; omega
    · have hgo2 : ((j : Int) < (len0 : Int)) ∧ ¬ ((j : Int) < 20) ∨ ¬ ((j : Int) < (len0 : Int)) := by omega
      have hreq := ordS_req cs v j hv5 hj20
      have hjc : j ≤ cs.length := by have := HCL.out; omega
      have HFLX := hideIt (ordR_len cs j hjc)
      have HAT := hideIt (fun i (hi : i < j) => ordR_at cs j i hi hjc)
      have hlist : (ordS cs v j ++ crlf).length ≤ 1000 := by simp [crlf]; omega
      have EB : strOf (ordS cs v j ++ crlf) = strOf (ordS cs v j) ++ ⟨#[13, 10]⟩ := by rw [show (⟨#[13, 10]⟩ : ByteArray) = strOf crlf from rfl, strOf_append]
      have zs : (strOf (ordS cs v j)).size ≤ 1000 := by rw [strOf_size]; omega
      obtain ⟨d1, u1, hcv, hp1, hb1⟩ := conv_str wr (ordS cs v j ++ crlf) (by omega)
      rw [EB] at hcv
      have HP := hideIt (parse_any _ (ordS cs v j ++ crlf) _ d1 u1 hp1 rfl (by omega) (HM.out.keep (below_then HB.out hb1)))
      have B1 := hideIt (below_then HB.out hb1)
      rw [hreq] at HP
      generalize ordR cs j = R at *
      clear hp1 hb1 hreq hlist EB hwi hsl HB
      generalize (ordS cs v j ++ crlf).length = nl at *
      generalize ordS cs v j = S at *
      rcases hgo2 with ⟨k1, k2⟩ | k1
      all_goals
        go_wp2_with fail
        refine HP.out.mono ?_
        rintro e u2 ⟨fv, A, c, rfl, hparts, hb⟩
        have HF0 := hideIt hparts.fields
        obtain ⟨FA, fc, rfl, hf1, hf2, hf3, hfat⟩ := hparts.fields.form
        have hbn := below_new u2 (.cells #[.string (strOf R.m), .string (strOf R.p), .slice FA R.fs.length fc, .slice A R.body.length c] 33)
        have B2 := hideIt (below_then (below_then B1.out hb) hbn)
        have Q2 := hideIt (QCell.new u2 (.string (strOf R.m)) (.string (strOf R.p)) (.slice FA R.fs.length fc) (.slice A R.body.length c))
        have FT := hideIt (hfat.keep hbn)
        clear hb hbn hparts HP B1 hcv hf1 hf2 hf3 hfat HF0
        unfold reqV
        go_upto_region 9 with fail
        generalize u2.alloc (.cells #[.string (strOf R.m), .string (strOf R.p), .slice FA R.fs.length fc, .slice A R.body.length c] 33) = X at *
        generalize u2.heap.size = g at *
        generalize strOf R.m = m1 at *
        generalize strOf R.p = p1 at *
        generalize R.body.length = nb at *
        have q2 := Q2.out.c2
        have hnf : ((R.fs.length : Nat) : Int) = (j : Int) + 1 := by have := HFLX.out; omega
        have hwj : IntKind.i64.wrap ((j : Int) + 1) = (j : Int) + 1 := IntWalk.i64_in _ (by omega)
        obtain ⟨bf, of, rfl, hbf, hfc⟩ := FT.out (by have := HFLX.out; omega)
        have HFC := hideIt hfc
        have HBF := hideIt hbf
        have HQ2 := hideIt q2
        clear hfc hbf FT
        generalize hNF : R.fs.length = nf at *
        have HNF := hideIt hNF
        clear hNF
        have HNJ : Hid (nf = j + 1) := hideIt (by omega)
        have hdf : (((nf : Nat) : Int) == (j : Int) + 1) = true := by rw [beq_iff_eq]; exact hnf
        go_wp2_with fail
        clear q2
        go_loopw [10] (fun iv wr' => ∃ i : Nat, i ≤ j ∧ iv = .int .i64 (i : Int) ∧ Below X.heap.size X wr') (fun iv wr' => j - (intOf iv).toNat)
        case atStart => exact ⟨0, by omega, rfl, Below.refl _ _⟩
        case round =>
          obtain ⟨i, hij, rfl, hbx⟩ := hrel
          have HBX := hideIt hbx
          clear hbx
          have hwi : IntKind.i64.wrap ((i : Int) + 1) = (i : Int) + 1 := IntWalk.i64_in _ (by omega)
          by_cases hlt : i < j
          · have hlt' : (i : Int) < (j : Int) := by omega
            have hic : i < cs.length := by omega
            obtain ⟨b, off, rfl, hbl, hcells⟩ := HCP.out.bytes (by show 0 < cs.length; omega)
            have hbw : Below w.heap.size w wr := below_then B2.out HBX.out
            have HCE : Hid (wr.cell? ⟨b, off + i, none⟩ = some (.int .u8 ((cs[i]).toNat : Int))) := hideIt ((hbw.cell hbl).trans (hcells i hic))
            have HBL : Hid (b < wr.heap.size) := hideIt (Nat.lt_of_lt_of_le hbl hbw.size)
            have hfp := HFC.out (i + 1) _ (HAT.out i hlt)
            have HF1 : Hid (wr.cell? ⟨bf, of + (i + 1) * 2, none⟩ = some (.string (strOf ([120] ++ [ordC cs[i]])))) := hideIt ((HBX.out.cell (p := ⟨bf, of + (i + 1) * 2, none⟩) HBF.out).trans (by rw [Nat.mul_comm (i + 1) 2]; exact hfp.1))
            have HF2 : Hid (wr.cell? ⟨bf, of + (i + 1) * 2 + 1, none⟩ = some (.string (strOf [ordD cs[i]]))) := hideIt ((HBX.out.cell (p := ⟨bf, of + (i + 1) * 2 + 1, none⟩) HBF.out).trans (by rw [Nat.mul_comm (i + 1) 2]; exact hfp.2))
            have HBFW : Hid (bf < wr.heap.size) := hideIt (Nat.lt_of_lt_of_le HBF.out HBX.out.size)
            have HQW : Hid (wr.cell? ⟨g, 0 + 2, none⟩ = some (.slice (some ⟨bf, of, none⟩) nf fc)) := hideIt ((HBX.out.cell (p := ⟨g, 2, none⟩) Q2.out.lt).trans HQ2.out)
            have HGW : Hid (g < wr.heap.size) := hideIt (Nat.lt_of_lt_of_le Q2.out.lt HBX.out.size)
            have HCN := hideIt (ordC_nat cs[i])
            have HDN := hideIt (ordD_nat cs[i])
            have hx : (cs[i]).toNat < 256 := (cs[i]).toNat_lt
            clear hcells hbl hfp hbw
            generalize ordC cs[i] = C at *
            generalize ordD cs[i] = D at *
            generalize (cs[i]).toNat = x at *
            obtain ⟨p, hp⟩ : ∃ p, x % 26 = p := ⟨_, rfl⟩
            obtain ⟨r, hr⟩ : ∃ r, x / 16 = r := ⟨_, rfl⟩
            have hp26 : p < 26 := by rw [← hp]; exact Nat.mod_lt _ (by decide)
            have hr16 : r < 16 := by rw [← hr]; omega
            rw [hp] at HCN
            rw [hr] at HDN
            have HP := hideIt hp
            have HR := hideIt hr
            have H1 : Hid (i < len0) := hideIt (by have := HCL.out; omega)
            have H2 : Hid (i + 1 < nf) := hideIt (by have := HNJ.out; omega)
            clear hp hr hic
            go_wp2_with fail
            refine region_inv [Fact.is (.pointer (some ⟨g, 0 + 2, none⟩)), Fact.is (.slice (some ⟨bf, of, none⟩) nf fc), Fact.is (.int .i64 ((i : Nat) : Int)), Fact.is (.int .i64 ((i + 1 : Nat) : Int)), Fact.is (.pointer (some ⟨bf, of + (i + 1) * 2, none⟩)), Fact.is (.pointer (some ⟨bf, of + (i + 1) * 2, none⟩)), Fact.str ([120] ++ [C]), Fact.is (.slice (some ⟨b, off, none⟩) len0 cap0), Fact.is (.int .i64 ((i : Nat) : Int)), Fact.is (.pointer (some ⟨b, off + i, none⟩)), Fact.is (.int .u8 ((x : Nat) : Int)), Fact.is (.int .u8 ((p : Nat) : Int)), Fact.is (.int .u8 ((C.toNat : Nat) : Int)), Fact.piece ([C]), Fact.str ([C]), Fact.str ([120] ++ [C]), Fact.is (.bool false), Fact.is (.bool false), Fact.is (.pointer (some ⟨g, 0 + 2, none⟩)), Fact.is (.slice (some ⟨bf, of, none⟩) nf fc), Fact.is (.int .i64 ((i : Nat) : Int)), Fact.is (.int .i64 ((i + 1 : Nat) : Int)), Fact.is (.pointer (some ⟨bf, of + (i + 1) * 2, none⟩)), Fact.is (.pointer (some ⟨bf, of + (i + 1) * 2 + 1, none⟩)), Fact.str ([D]), Fact.is (.slice (some ⟨b, off, none⟩) len0 cap0), Fact.is (.int .i64 ((i : Nat) : Int)), Fact.is (.pointer (some ⟨b, off + i, none⟩)), Fact.is (.int .u8 ((x : Nat) : Int)), Fact.is (.int .u8 ((r : Nat) : Int)), Fact.is (.int .u8 ((D.toNat : Nat) : Int)), Fact.piece ([D]), Fact.str ([D]), Fact.is (.bool false), Fact.is (.bool false)] (by kernel_rfl) (by kernel_rfl) ⟨fun a w1 m => ?_, fun a w1 m => ?_, fun a w1 m => ?_, fun a w1 m => ?_, fun a w1 m => ?_, fun a w1 m => ?_, fun a w1 m => ?_, fun a w1 m => ?_, fun a w1 m => ?_, fun a w1 m => ?_, fun a w1 m => ?_, fun a w1 m => ?_, fun a w1 m => ?_, fun a w1 m => ?_, fun a w1 m => ?_, fun a w1 m => ?_, fun a w1 m => ?_, fun a w1 m => ?_, fun a w1 m => ?_, fun a w1 m => ?_, fun a w1 m => ?_, fun a w1 m => ?_, fun a w1 m => ?_, fun a w1 m => ?_, fun a w1 m => ?_, fun a w1 m => ?_, fun a w1 m => ?_, fun a w1 m => ?_, fun a w1 m => ?_, fun a w1 m => ?_, fun a w1 m => ?_, fun a w1 m => ?_, fun a w1 m => ?_, fun a w1 m => ?_, fun a w1 m => ?_, trivial⟩ ?_
            · exact ok_fieldQ2 (wanted_none rfl) (.tmp 8) rfl g 0 (m.old 8 rfl)
            · exact ok_loadF (wanted_none rfl) (.tmp 71) rfl ⟨g, 0 + 2, none⟩ _ _ _ (m.has 0 71 rfl rfl) ((m.grew.cell (p := ⟨g, 0 + 2, none⟩) HGW.out).trans HQW.out)
            · exact ok_move (wanted_none rfl) (.tmp 10) rfl (m.old 10 rfl)
            · exact ok_bin (wanted_none rfl) _ _ _ (.tmp 73) _ rfl _ _ _ (m.has 2 73 rfl rfl) (rfl) rfl (run_add64 i 1 (by omega))
            · exact ok_indexP (wanted_none rfl) (.tmp 72) (.tmp 74) rfl bf of nf fc (i + 1) (m.has 1 72 rfl rfl) (m.has 3 74 rfl rfl) H2.out
            · exact ok_field0 (wanted_none rfl) (.tmp 75) rfl bf _ (m.has 4 75 rfl rfl)
            · exact ok_loadS (wanted_none rfl) (.tmp 76) rfl ⟨bf, of + (i + 1) * 2, none⟩ _ (m.has 5 76 rfl rfl) ((m.grew.cell (p := ⟨bf, of + (i + 1) * 2, none⟩) HBFW.out).trans HF1.out)
            · exact ok_move (wanted_none rfl) (.tmp 0) rfl (m.old 0 rfl)
            · exact ok_move (wanted_none rfl) (.tmp 10) rfl (m.old 10 rfl)
            · exact ok_index (wanted_none rfl) (.tmp 78) (.tmp 79) rfl b off len0 cap0 i (m.has 7 78 rfl rfl) (m.has 8 79 rfl rfl) H1.out
            · exact ok_loadb (wanted_none rfl) (.tmp 80) rfl ⟨b, off + i, none⟩ _ (m.has 9 80 rfl rfl) ((m.grew.cell (p := ⟨b, off + i, none⟩) HBL.out).trans HCE.out)
            · exact ok_bin (wanted_none rfl) _ _ _ (.tmp 81) _ rfl _ _ _ (m.has 10 81 rfl rfl) (rfl) rfl (run_rem26 x p hx HP.out)
            · exact ok_bin (wanted_none rfl) _ _ _ _ (.tmp 82) rfl _ _ _ (rfl) (m.has 11 82 rfl rfl) rfl (run_add65 p C (by omega) HCN.out)
            · exact ok_buildB1 (wanted_none rfl) (.tmp 83) rfl C (m.has 12 83 rfl rfl)
            · exact ok_str (wanted_none rfl) (.tmp 84) rfl _ (m.has 13 84 rfl rfl)
            · exact ok_strcat (wanted_none rfl) _ (.tmp 85) _ rfl _ _ _ (rfl) (m.has 14 85 rfl rfl) (by simp) (rfl)
            · exact ok_strne (wanted_none rfl) (.tmp 77) (.tmp 86) _ rfl _ _ (m.has 6 77 rfl rfl) (m.has 15 86 rfl rfl) _ (decide_eq_true rfl)
            · exact ok_move (wanted_none rfl) (.tmp 87) rfl (m.has 16 87 rfl rfl)
            · exact ok_fieldQ2 (wanted_some 17 false rfl 88 rfl false (m.has 17 88 rfl rfl)) (.tmp 8) rfl g 0 (m.old 8 rfl)
            · exact ok_loadF (wanted_some 17 false rfl 88 rfl false (m.has 17 88 rfl rfl)) (.tmp 89) rfl ⟨g, 0 + 2, none⟩ _ _ _ (m.has 18 89 rfl rfl) ((m.grew.cell (p := ⟨g, 0 + 2, none⟩) HGW.out).trans HQW.out)
            · exact ok_move (wanted_some 17 false rfl 88 rfl false (m.has 17 88 rfl rfl)) (.tmp 10) rfl (m.old 10 rfl)
            · exact ok_bin (wanted_some 17 false rfl 88 rfl false (m.has 17 88 rfl rfl)) _ _ _ (.tmp 91) _ rfl _ _ _ (m.has 20 91 rfl rfl) (rfl) rfl (run_add64 i 1 (by omega))
            · exact ok_indexP (wanted_some 17 false rfl 88 rfl false (m.has 17 88 rfl rfl)) (.tmp 90) (.tmp 92) rfl bf of nf fc (i + 1) (m.has 19 90 rfl rfl) (m.has 21 92 rfl rfl) H2.out
            · exact ok_field1 (wanted_some 17 false rfl 88 rfl false (m.has 17 88 rfl rfl)) (.tmp 93) rfl bf _ (m.has 22 93 rfl rfl)
            · exact ok_loadS (wanted_some 17 false rfl 88 rfl false (m.has 17 88 rfl rfl)) (.tmp 94) rfl ⟨bf, of + (i + 1) * 2 + 1, none⟩ _ (m.has 23 94 rfl rfl) ((m.grew.cell (p := ⟨bf, of + (i + 1) * 2 + 1, none⟩) HBFW.out).trans HF2.out)
            · exact ok_move (wanted_some 17 false rfl 88 rfl false (m.has 17 88 rfl rfl)) (.tmp 0) rfl (m.old 0 rfl)
            · exact ok_move (wanted_some 17 false rfl 88 rfl false (m.has 17 88 rfl rfl)) (.tmp 10) rfl (m.old 10 rfl)
            · exact ok_index (wanted_some 17 false rfl 88 rfl false (m.has 17 88 rfl rfl)) (.tmp 96) (.tmp 97) rfl b off len0 cap0 i (m.has 25 96 rfl rfl) (m.has 26 97 rfl rfl) H1.out
            · exact ok_loadb (wanted_some 17 false rfl 88 rfl false (m.has 17 88 rfl rfl)) (.tmp 98) rfl ⟨b, off + i, none⟩ _ (m.has 27 98 rfl rfl) ((m.grew.cell (p := ⟨b, off + i, none⟩) HBL.out).trans HCE.out)
            · exact ok_bin (wanted_some 17 false rfl 88 rfl false (m.has 17 88 rfl rfl)) _ _ _ (.tmp 99) _ rfl _ _ _ (m.has 28 99 rfl rfl) (rfl) rfl (run_quoS x r hx HR.out)
            · exact ok_bin (wanted_some 17 false rfl 88 rfl false (m.has 17 88 rfl rfl)) _ _ _ _ (.tmp 100) rfl _ _ _ (rfl) (m.has 29 100 rfl rfl) rfl (run_add97 r D (by omega) HDN.out)
            · exact ok_buildB1 (wanted_some 17 false rfl 88 rfl false (m.has 17 88 rfl rfl)) (.tmp 101) rfl D (m.has 30 101 rfl rfl)
            · exact ok_str (wanted_some 17 false rfl 88 rfl false (m.has 17 88 rfl rfl)) (.tmp 102) rfl _ (m.has 31 102 rfl rfl)
            · exact ok_strne (wanted_some 17 false rfl 88 rfl false (m.has 17 88 rfl rfl)) (.tmp 95) (.tmp 103) _ rfl _ _ (m.has 24 95 rfl rfl) (m.has 32 103 rfl rfl) _ (decide_eq_true rfl)
            · exact ok_pickF (wanted_none rfl) (.tmp 88) _ _ rfl (m.has 17 88 rfl rfl) (m.has 33 104 rfl rfl)
            intro f w9 hg hf
            have e34 : f 34 = .bool false := hf 34 (by decide)
            have B9 := hideIt (below_then HBX.out hg)
            clear hf
            simp only [List.take, List.drop, putAll, Act.put, List.setIfInBounds_toArray, List.set_cons_succ, List.set_cons_zero]
            rw [e34]
            clear e34
            clear hg
            go_wp2_with fail
            go_roundw
            case rel => exact ⟨i + 1, by omega, by go_num, B9.out⟩
            case measure => simp [intOf]; omega
          · obtain rfl : i = j := by omega
            have hlt' : ¬ (i : Int) < (i : Int) := by omega
            have B3 := hideIt (below_then B2.out HBX.out)
            clear HBX
            go_wp2_with fail
            refine (HK.out _ B3.out).mono ?_
            rintro e w9 ⟨rfl, hb⟩
            have B4 := hideIt (below_then B3.out hb)
            clear hb
            go_wp2_with fail
            go_ret
            exact ⟨rfl, B4.out⟩
end Go.Proofs.YtbojigimldfghaaDoor
