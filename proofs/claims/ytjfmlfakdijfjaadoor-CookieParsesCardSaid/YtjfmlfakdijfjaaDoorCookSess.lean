/- Contract of cookie.Session. -/
import Derived.Test.YtjfmlfakdijfjaaDoorCookParse
import Derived.Test.YtjfmlfakdijfjaaDoorCookieText
import Derived.Test.YtjfmlfakdijfjaaDoorOpenTexts
import Derived.WalkMore
namespace Go.Proofs.YtjfmlfakdijfjaaDoor
open Go.ChangeShapes Go.WideShapes Go.ChangeAt Go.RowKit
set_option linter.unusedVariables false
set_option linter.unusedSimpArgs false

def hdC : List (List UInt8) → List UInt8
  | [] => []
  | v :: _ => v
theorem take_more {α : Type} {ps : List α} {j : Nat} {v : α} (h : ps[j]? = some v) : ps.take (j + 1) = ps.take j ++ [v] := by
  rw [List.take_add_one, h]; rfl
theorem gather_snoc {ps : List (List UInt8)} {j : Nat} {v : List UInt8} {l : List PairL} {ids : List (List UInt8)} (h : gatherC (ps.take j) = some ids) (hv : ps[j]? = some v) (hl : cookiesL v = some l) : gatherC (ps.take (j + 1)) = some (ids ++ idsC l) := by
  rw [take_more hv, gather_app, h, gather1 hl]
theorem ids_snoc {l : List PairL} {q : Nat} {x : PairL} (h : l[q]? = some x) : idsC (l.take (q + 1)) = idsC (l.take q) ++ (if x.1 = hostN then [x.2] else []) := by
  rw [take_more h, ids_app]
  congr 1
  unfold idsC
  by_cases hx : x.1 = hostN <;> simp [hx]
theorem sess_miss {ps : List (List UInt8)} {j : Nat} {v : List UInt8} (hv : ps[j]? = some v) (hl : cookiesL v = none) : sessC ps = ([], false) :=
  sess_none (gather_bad ⟨v, List.mem_of_getElem? hv, hl⟩)
theorem pick_two {ids : List (List UInt8)} (h : 2 ≤ ids.length) : pickC ids = ([], false) := by
  match ids, h with
  | _ :: _ :: _, _ => rfl
theorem sess_break {ps : List (List UInt8)} {j q : Nat} {v : List UInt8} {l : List PairL} {ids : List (List UInt8)} (h : gatherC (ps.take j) = some ids) (hv : ps[j]? = some v) (hl : cookiesL v = some l) (h2 : 2 ≤ (ids ++ idsC (l.take q)).length) : sessC ps = ([], false) := by
  have h1 := gather_snoc h hv hl
  have e := gather_app (ps.take (j + 1)) (ps.drop (j + 1))
  rw [List.take_append_drop, h1] at e
  cases hd : gatherC (ps.drop (j + 1)) with
  | none => rw [hd] at e; exact sess_none e
  | some m =>
    rw [hd] at e
    rw [sess_of e, pick_two]
    have h3 : idsC l = idsC (l.take q) ++ idsC (l.drop q) := by rw [← ids_app, List.take_append_drop]
    rw [List.length_append, h3] at *
    simp only [List.length_append] at *
    omega
theorem sess_last {ps : List (List UInt8)} {j : Nat} {ids : List (List UInt8)} (hj : ps.length ≤ j) (h : gatherC (ps.take j) = some ids) (h1 : ids.length ≤ 1) : sessC ps = (hdC ids, true) := by
  rw [List.take_of_length_le hj] at h
  rw [sess_of h]
  match ids, h1 with
  | [], _ => rfl
  | [v], _ => rfl
theorem one_most {ids : List (List UInt8)} (h : ids.length ≤ 1) : ids = [] ∨ ∃ y, ids = [y] := by
  match ids, h with
  | [], _ => exact .inl rfl
  | [v], _ => exact .inr ⟨v, rfl⟩
/-- what the loop over the fields keeps -/
structure SsI (w : World) (ps : List (List UInt8)) (j : Nat) (ids : List (List UInt8)) (wr : World) : Prop where
  got : gatherC (ps.take j) = some ids
  one : ids.length ≤ 1
  below : Below w.heap.size w wr
set_option maxRecDepth 8000 in
set_option maxHeartbeats 4000000 in
theorem csess_any (A : Option Addr) (ps : List (List UInt8)) (n c : Nat) (w : World) (hp : StrsR w A ps) (hn : ps.length = n) (hl : n ≤ 1000) (he : ∀ p ∈ ps, p.length ≤ 100000) (hm : MaxOk w) :
    Calls Tryd.prog 23 #[.slice A n c] w fun e w' => e = .returned (.tuple #[.string (strOf (sessC ps).1), .bool (sessC ps).2]) ∧ Below w.heap.size w w' := by
  have HP := hideIt hp
  have HE := hideIt he
  have HM := hideIt hm
  obtain ⟨RR, hRR⟩ : ∃ R, sessC ps = R := ⟨_, rfl⟩
  rw [hRR]
  have HR := hideIt hRR
  have HN := hideIt hn
  clear hRR hp he hm hn
  go_enter Tryd.func23, Tryd.ntmps23
  go_wp2
  go_step3
  go_wp2
  go_step3
  go_wp2
  go_loopw [4, 5, 14] (fun a b i wr => ∃ (j : Nat) (ids : List (List UInt8)), a = .string (strOf (hdC ids)) ∧ b = .int .i64 (ids.length : Int) ∧ i = .int .i64 (j : Int) ∧ j ≤ n ∧ SsI w ps j ids wr) (fun a b i wr => n - (intOf i).toNat)
  case atStart => exact ⟨0, [], rfl, rfl, rfl, Nat.zero_le _, rfl, by simp, Below.refl _ _⟩
  case round =>
    obtain ⟨j, ids, rfl, rfl, rfl, hj, hI⟩ := hrel
    have HI := hideIt hI
    clear hI
    by_cases hjn : j < n
    · have hji : (j : Int) < (n : Int) := by omega
      obtain ⟨p, hpj⟩ : ∃ p, ps[j]? = some p := ⟨_, List.getElem?_eq_getElem (by have := HN.out; omega)⟩
      obtain ⟨g, off, rfl, _⟩ := HP.out (by rw [List.length_map]; have := HN.out; omega)
      obtain ⟨hg, hcell⟩ := HP.out.at j p hpj
      have k0 : wr.cell? ⟨g, off + j, none⟩ = some (.string (strOf p)) := (HI.out.below.cell (p := ⟨g, off + j, none⟩) hg).trans hcell
      have HC := hideIt (cparse_any p wr (HE.out p (List.mem_of_getElem? hpj)) (HM.out.keep HI.out.below))
      have HPJ := hideIt hpj
      clear hpj hcell hg
      cases hcl : cookiesL p with
      | none =>
        unfold CParsePost at HC
        rw [hcl] at HC
        have E : Hid (RR = ([], false)) := hideIt (by rw [← HR.out]; exact sess_miss HPJ.out hcl)
        simp only [Option.getD_none, Option.isSome_none] at HC
        clear hcl
        go_wp2_with fail
        refine HC.out.mono ?_
        rintro e w2 ⟨v, rfl, ho, hb⟩
        obtain ⟨A', c', rfl, _⟩ := ho.open
        have B2 := hideIt (below_then HI.out.below hb)
        clear ho hb HC HI
        go_wp2_with fail
        (try rw [Exit.noGoto_ret])
        go_ret2
        exact ⟨by rw [E.out]; rfl, B2.out⟩
      | some l =>
        unfold CParsePost at HC
        rw [hcl] at HC
        have HCL := hideIt hcl
        simp only [Option.getD_some, Option.isSome_some] at HC
        clear hcl
        go_wp2_with fail
        refine HC.out.mono ?_
        rintro e w2 ⟨v, rfl, ho, hb⟩
        obtain ⟨A', c', rfl, h1, h2, h3, hpa⟩ := ho.open
        unfold maxLen at h2
        have B2 := hideIt (below_then HI.out.below hb)
        have HG := hideIt HI.out.got
        have HO := hideIt HI.out.one
        have HPA := hideIt hpa
        have h1' : (l.length : Int) ≤ (c' : Int) := by omega
        clear ho hb HC HI hpa k0
        generalize wr = wz at *
        go_wp2_with fail
        go_loopw [4, 5, 27] (fun a b i wr => ∃ (q : Nat) (is : List (List UInt8)), a = .string (strOf (hdC is)) ∧ b = .int .i64 (is.length : Int) ∧ i = .int .i64 (q : Int) ∧ q ≤ l.length ∧ is = ids ++ idsC (l.take q) ∧ is.length ≤ 1 ∧ Below w2.heap.size w2 wr) (fun a b i wr => l.length - (intOf i).toNat)
        case atStart => exact ⟨0, ids, rfl, rfl, rfl, Nat.zero_le _, by simp [idsC], HO.out, Below.refl _ _⟩
        case round =>
          obtain ⟨q, is, rfl, rfl, rfl, hq, hids, hone, hbw⟩ := hrel
          have HI2 := hideIt hids
          have HB2 := hideIt hbw
          clear hids hbw
          by_cases hql : q < l.length
          · have hqi : (q : Int) < (l.length : Int) := by omega
            obtain ⟨x, hx⟩ : ∃ x, l[q]? = some x := ⟨_, List.getElem?_eq_getElem hql⟩
            obtain ⟨g2, off2, rfl, hg2, hcs⟩ := HPA.out (by omega)
            obtain ⟨hc1, hc2⟩ := hcs q x hx
            rw [Nat.mul_comm 2 q] at hc1 hc2
            have k1 : wr.cell? ⟨g2, off2 + q * 2, none⟩ = some (.string (strOf x.1)) := (HB2.out.cell (p := ⟨g2, off2 + q * 2, none⟩) hg2).trans hc1
            have k2 : wr.cell? ⟨g2, off2 + q * 2 + 1, none⟩ = some (.string (strOf x.2)) := (HB2.out.cell (p := ⟨g2, off2 + q * 2 + 1, none⟩) hg2).trans hc2
            have hsn := ids_snoc hx
            have B3 := hideIt (below_then HB2.out (below_new wr (.cells #[.string (strOf x.1), .string (strOf x.2)] 30)))
            clear hc1 hc2 hcs hg2 hx
            by_cases hxn : x.1 = hostN
            · rw [if_pos hxn] at hsn
              have hcmp : ((strOf x.1).toList == ([95, 95, 72, 111, 115, 116, 45, 105, 100] : List UInt8)) = true := by rw [strOf_toList, hxn]; rfl
              rcases one_most hone with rfl | ⟨y, rfl⟩
              · have N : Hid ([x.2] = ids ++ idsC (l.take (q + 1))) := hideIt (by rw [hsn, ← List.append_assoc, ← HI2.out]; rfl)
                have hsx : ∃ s, strOf x.2 = s := ⟨_, rfl⟩
                clear hsn hxn hone HI2
                simp only [List.length_nil]
                go_wp2_with fail
                go_roundw
                case rel => exact ⟨q + 1, [x.2], rfl, rfl, by go_num, by omega, N.out, by simp, B3.out⟩
                case measure => simp [intOf]; omega
              · have E : Hid (RR = ([], false)) := hideIt (by rw [← HR.out]; exact sess_break (q := q + 1) HG.out HPJ.out HCL.out (by rw [hsn, ← List.append_assoc, ← HI2.out]; simp))
                have B4 := hideIt (below_then B2.out B3.out)
                clear hsn hxn hone HI2
                simp only [List.length_cons, List.length_nil, Nat.zero_add]
                go_wp2_with fail
                (try rw [Exit.noGoto_ret])
                go_ret2
                exact ⟨by rw [E.out]; rfl, B4.out⟩
            · rw [if_neg hxn, List.append_nil] at hsn
              have hcmp : ((strOf x.1).toList == ([95, 95, 72, 111, 115, 116, 45, 105, 100] : List UInt8)) = false := by
                rw [strOf_toList, beq_eq_false_iff_ne]; exact hxn
              have N : Hid (is = ids ++ idsC (l.take (q + 1))) := hideIt (by rw [hsn]; exact HI2.out)
              clear hsn hxn HI2
              go_wp2_with fail
              go_roundw
              case rel => exact ⟨q + 1, is, rfl, rfl, by go_num, by omega, N.out, hone, B3.out⟩
              case measure => simp [intOf]; omega
          · obtain rfl : q = l.length := by omega
            rw [List.take_length] at HI2
            have I3 : Hid (SsI w ps (j + 1) is wr) := hideIt ⟨by rw [gather_snoc HG.out HPJ.out HCL.out, ← HI2.out], hone, below_then B2.out HB2.out⟩
            clear HI2 HB2 B2
            go_wp2_with fail
            go_roundw
            case rel => exact ⟨j + 1, is, rfl, rfl, by go_num, by omega, I3.out⟩
            case measure => simp [intOf]; omega
    · obtain rfl : j = n := by omega
      have E : Hid (RR = (hdC ids, true)) := hideIt (by rw [← HR.out]; exact sess_last (by have := HN.out; omega) HI.out.got HI.out.one)
      have B2 := hideIt HI.out.below
      have ho := HI.out.one
      have hle : ¬ (1 : Int) < (ids.length : Int) := by omega
      clear HI ho
      go_wp2_with fail
      (try rw [Exit.noGoto_ret])
      go_ret2
      exact ⟨by rw [E.out]; rfl, B2.out⟩
theorem go_csess : goFn Tryd.prog 23 = true := by kernel_rfl
end Go.Proofs.YtjfmlfakdijfjaaDoor
