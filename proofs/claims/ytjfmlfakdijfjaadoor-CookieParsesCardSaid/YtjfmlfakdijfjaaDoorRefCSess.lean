/- Contract of the reference's Session. -/
import Derived.Test.YtjfmlfakdijfjaaDoorRefCParse
import Derived.Test.YtjfmlfakdijfjaaDoorOpenTexts
import Derived.WalkMore
namespace Go.Proofs.YtjfmlfakdijfjaaDoor
open Go.ChangeShapes Go.WideShapes Go.ChangeAt Go.RowKit
set_option linter.unusedVariables false
set_option linter.unusedSimpArgs false

def lsC (ids : List (List UInt8)) : List UInt8 := ids.getLastD []
theorem lsC_snoc (ids : List (List UInt8)) (x : List UInt8) : lsC (ids ++ [x]) = x := by simp [lsC, List.getLastD_eq_getLast?]
theorem sess_one {ps : List (List UInt8)} {j : Nat} {ids : List (List UInt8)} (hj : ps.length ≤ j) (h : gatherC (ps.take j) = some ids) (h1 : ids.length ≤ 1) : sessC ps = (lsC ids, true) := by
  rw [sess_last hj h h1]
  match ids, h1 with
  | [], _ => rfl
  | [v], _ => rfl
theorem sess_many {ps : List (List UInt8)} {j : Nat} {ids : List (List UInt8)} (hj : ps.length ≤ j) (h : gatherC (ps.take j) = some ids) (h1 : 2 ≤ ids.length) : sessC ps = ([], false) := by
  rw [List.take_of_length_le hj] at h
  rw [sess_of h, pick_two h1]
theorem ids_len (l : List PairL) : (idsC l).length ≤ l.length := by
  unfold idsC
  exact Nat.le_trans (by rw [List.length_map]; exact List.length_filter_le _ _) (Nat.le_refl _)
theorem cookies_len {t : List UInt8} {l : List PairL} (h : cookiesL t = some l) : l.length ≤ t.length + 1 := by
  unfold cookiesL at h
  split at h
  · obtain rfl := Option.some.inj h; exact Nat.zero_le _
  · have := allSome_len h
    rw [List.length_map] at this
    rw [this]
    exact (pcs_len' t).1
/-- what the loop over the fields keeps -/
structure RsI (w : World) (ps : List (List UInt8)) (j : Nat) (ids : List (List UInt8)) (wr : World) : Prop where
  got : gatherC (ps.take j) = some ids
  many : ids.length ≤ j * 100001
  below : Below w.heap.size w wr
set_option maxRecDepth 8000 in
set_option maxHeartbeats 4000000 in
theorem rcsess_any (A : Option Addr) (ps : List (List UInt8)) (n c : Nat) (w : World) (hp : StrsR w A ps) (hn : ps.length = n) (hl : n ≤ 1000) (he : ∀ p ∈ ps, p.length ≤ 90000) :
    Calls Tryd.prog 29 #[.slice A n c] w fun e w' => e = .returned (.tuple #[.string (strOf (sessC ps).1), .bool (sessC ps).2]) ∧ Below w.heap.size w w' := by
  have HP := hideIt hp
  have HE := hideIt he
  obtain ⟨RR, hRR⟩ : ∃ R, sessC ps = R := ⟨_, rfl⟩
  rw [hRR]
  have HR := hideIt hRR
  have HN := hideIt hn
  clear hRR hp he hn
  go_enter Tryd.func29, Tryd.ntmps29
  go_wp2
  go_loopw [4, 5, 6] (fun a b i wr => ∃ (j : Nat) (ids : List (List UInt8)), a = .int .i64 (ids.length : Int) ∧ b = .string (strOf (lsC ids)) ∧ i = .int .i64 (j : Int) ∧ j ≤ n ∧ RsI w ps j ids wr) (fun a b i wr => n - (intOf i).toNat)
  case atStart => exact ⟨0, [], rfl, rfl, rfl, Nat.zero_le _, rfl, by simp, Below.refl _ _⟩
  case round =>
    obtain ⟨j, ids, rfl, rfl, rfl, hj, hI⟩ := hrel
    have HI := hideIt hI
    clear hI
    by_cases hjn : j < n
    · have hji : (j : Int) < (n : Int) := by omega
      obtain ⟨p, hpj⟩ : ∃ p, ps[j]? = some p := ⟨_, List.getElem?_eq_getElem (by have := HN.out; omega)⟩
      obtain ⟨g, off, rfl, _⟩ := HP.out (by rw [List.length_map]; have := HN.out; omega)
      obtain ⟨hg, hcell⟩ := HP.out.at j p hpj
      have k0 : wr.cell? ⟨g, off + j, none⟩ = some (.string (strOf p)) := (HI.out.below.cell (p := ⟨g, off + j, none⟩) hg).trans hcell
      have HPL := hideIt (HE.out p (List.mem_of_getElem? hpj))
      have HC := hideIt (rcparse_any p wr HPL.out)
      have HPJ := hideIt hpj
      clear hpj hcell hg
      cases hcl : cookiesL p with
      | none =>
        unfold CParsePost at HC
        rw [hcl] at HC
        have E : Hid (RR = ([], false)) := hideIt (by rw [← HR.out]; exact sess_miss HPJ.out hcl)
        simp only [Option.getD_none, Option.isSome_none] at HC
        clear hcl
        go_wp2_with fail
        refine HC.out.mono ?_
        rintro e w2 ⟨v, rfl, ho, hb⟩
        obtain ⟨A', c', rfl, _⟩ := ho.open
        have B2 := hideIt (below_then HI.out.below hb)
        clear ho hb HC HI
        go_wp2_with fail
        go_ret2
        exact ⟨by rw [E.out]; rfl, B2.out⟩
      | some l =>
        unfold CParsePost at HC
        rw [hcl] at HC
        have HCL := hideIt hcl
        simp only [Option.getD_some, Option.isSome_some] at HC
        clear hcl
        go_wp2_with fail
        refine HC.out.mono ?_
        rintro e w2 ⟨v, rfl, ho, hb⟩
        obtain ⟨A', c', rfl, h1, h2, h3, hpa⟩ := ho.open
        unfold maxLen at h2
        have B2 := hideIt (below_then HI.out.below hb)
        have HG := hideIt HI.out.got
        have HM : Hid (ids.length ≤ 100000000) := hideIt (by have := HI.out.many; omega)
        have HM2 := hideIt HI.out.many
        have HLL : Hid (l.length ≤ 90001) := hideIt (by have := cookies_len HCL.out; have := HPL.out; omega)
        have HPA := hideIt hpa
        have h1' : (l.length : Int) ≤ (c' : Int) := by omega
        clear ho hb HC HI hpa k0
        generalize wr = wz at *
        go_wp2_with fail
        go_loopw [4, 5, 9] (fun a b i wr => ∃ (q : Nat) (is : List (List UInt8)), a = .int .i64 (is.length : Int) ∧ b = .string (strOf (lsC is)) ∧ i = .int .i64 (q : Int) ∧ q ≤ l.length ∧ is = ids ++ idsC (l.take q) ∧ Below w2.heap.size w2 wr) (fun a b i wr => l.length - (intOf i).toNat)
        case atStart => exact ⟨0, ids, rfl, rfl, rfl, Nat.zero_le _, by simp [idsC], Below.refl _ _⟩
        case round =>
          obtain ⟨q, is, rfl, rfl, rfl, hq, hids, hbw⟩ := hrel
          have HI2 := hideIt hids
          have HB2 := hideIt hbw
          have hil : is.length ≤ 100100000 := by
            have h4 := ids_len (l.take q)
            rw [List.length_take] at h4
            have := HM.out; have := HLL.out
            rw [hids, List.length_append]; omega
          have hwn : IntKind.i64.wrap ((is.length : Int) + 1) = (is.length : Int) + 1 := IntWalk.i64_in _ (by omega)
          have hwq : IntKind.i64.wrap ((q : Int) + 1) = (q : Int) + 1 := IntWalk.i64_in _ (by have := HLL.out; omega)
          clear hids hbw
          by_cases hql : q < l.length
          · have hqi : (q : Int) < (l.length : Int) := by omega
            obtain ⟨x, hx⟩ : ∃ x, l[q]? = some x := ⟨_, List.getElem?_eq_getElem hql⟩
            obtain ⟨g2, off2, rfl, hg2, hcs⟩ := HPA.out (by omega)
            obtain ⟨hc1, hc2⟩ := hcs q x hx
            rw [Nat.mul_comm 2 q] at hc1 hc2
            have k1 : wr.cell? ⟨g2, off2 + q * 2, none⟩ = some (.string (strOf x.1)) := (HB2.out.cell (p := ⟨g2, off2 + q * 2, none⟩) hg2).trans hc1
            have k2 : wr.cell? ⟨g2, off2 + q * 2 + 1, none⟩ = some (.string (strOf x.2)) := (HB2.out.cell (p := ⟨g2, off2 + q * 2 + 1, none⟩) hg2).trans hc2
            have hsn := ids_snoc hx
            clear hc1 hc2 hcs hg2 hx
            by_cases hxn : x.1 = hostN
            · rw [if_pos hxn] at hsn
              have hcmp : ((strOf x.1).toList == ([95, 95, 72, 111, 115, 116, 45, 105, 100] : List UInt8)) = true := by rw [strOf_toList, hxn]; rfl
              have N : Hid (is ++ [x.2] = ids ++ idsC (l.take (q + 1))) := hideIt (by rw [hsn, ← List.append_assoc, ← HI2.out])
              clear hsn hxn HI2
              go_wp2_with fail
              go_roundw
              case rel => exact ⟨q + 1, is ++ [x.2], by rw [List.length_append]; go_num, by rw [lsC_snoc], by go_num, by omega, N.out, HB2.out⟩
              case measure => simp [intOf]; omega
            · rw [if_neg hxn, List.append_nil] at hsn
              have hcmp : ((strOf x.1).toList == ([95, 95, 72, 111, 115, 116, 45, 105, 100] : List UInt8)) = false := by
                rw [strOf_toList, beq_eq_false_iff_ne]; exact hxn
              have N : Hid (is = ids ++ idsC (l.take (q + 1))) := hideIt (by rw [hsn]; exact HI2.out)
              clear hsn hxn HI2
              go_wp2_with fail
              go_roundw
              case rel => exact ⟨q + 1, is, rfl, rfl, by go_num, by omega, N.out, HB2.out⟩
              case measure => simp [intOf]; omega
          · obtain rfl : q = l.length := by omega
            rw [List.take_length] at HI2
            have I3 : Hid (RsI w ps (j + 1) is wr) := hideIt ⟨by rw [gather_snoc HG.out HPJ.out HCL.out, ← HI2.out], by
              have := HM2.out; have := HLL.out; have := ids_len l
              rw [HI2.out, List.length_append]; omega, below_then B2.out HB2.out⟩
            clear HI2 HB2 B2
            go_wp2_with fail
            go_roundw
            case rel => exact ⟨j + 1, is, rfl, rfl, by go_num, by omega, I3.out⟩
            case measure => simp [intOf]; omega
    · obtain rfl : j = n := by omega
      have B2 := hideIt HI.out.below
      by_cases h1 : ids.length ≤ 1
      · have E : Hid (RR = (lsC ids, true)) := hideIt (by rw [← HR.out]; exact sess_one (by have := HN.out; omega) HI.out.got h1)
        have hle : ¬ (1 : Int) < (ids.length : Int) := by omega
        clear HI h1
        go_wp2_with fail
        go_ret2
        exact ⟨by rw [E.out]; rfl, B2.out⟩
      · have E : Hid (RR = ([], false)) := hideIt (by rw [← HR.out]; exact sess_many (by have := HN.out; omega) HI.out.got (by omega))
        have hle : (1 : Int) < (ids.length : Int) := by omega
        clear HI h1
        go_wp2_with fail
        go_ret2
        exact ⟨by rw [E.out]; rfl, B2.out⟩
theorem go_rcsess : goFn Tryd.prog 29 = true := by kernel_rfl
end Go.Proofs.YtjfmlfakdijfjaaDoor
