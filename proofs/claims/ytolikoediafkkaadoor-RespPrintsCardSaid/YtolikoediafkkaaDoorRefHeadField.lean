/- Contracts of the reference's trim, Field, Print. -/
import Derived.Test.YtolikoediafkkaaDoorRefHeadTok
import Derived.Test.YtolikoediafkkaaDoorHeadHalves
import Derived.Test.YtolikoediafkkaaDoorHeadPrint
import Derived.Test.YtolikoediafkkaaDoorStrRun
import Derived.Deep.Cut
import Derived.Handy
namespace Go.Proofs.YtolikoediafkkaaDoor
open Go.ChangeShapes Go.WideShapes Go.ChangeAt Go.RowKit
set_option linter.unusedVariables false
set_option linter.unusedSimpArgs false

def strLen : Value → Nat
  | .string s => s.size
  | _ => 0
theorem trim_at (l p m q : List UInt8) (h : l = p ++ (m ++ q)) (hp : ∀ c ∈ p, blankB c = true) (hq : ∀ c ∈ q, blankB c = true) (hh : m ++ q = [] ∨ ∃ x, (m ++ q).head? = some x ∧ blankB x = false) (ht : m = [] ∨ ∃ y, m.getLast? = some y ∧ blankB y = false) : trimL l = m := by
  subst h
  rcases ht with rfl | ⟨y, hy, by_⟩
  · refine trim_all _ fun c hc => ?_
    simp only [List.nil_append, List.mem_append] at hc
    rcases hc with hc | hc
    · exact hp c hc
    · exact hq c hc
  · rw [← List.append_assoc]
    refine trim_mid p m q hp hq ⟨?_, y, hy, by_⟩
    cases m with
    | nil => cases hy
    | cons a r =>
      rcases hh with h | ⟨x, hx, bx⟩
      · simp at h
      · simp at hx
        subst hx
        exact ⟨a, rfl, bx⟩
theorem snoc_of {m : List UInt8} (h : m ≠ []) : ∃ r a, m = r ++ [a] := ⟨m.dropLast, m.getLast h, (List.dropLast_concat_getLast h).symm⟩
set_option maxHeartbeats 2000000 in
theorem reftrim_any (l : List UInt8) (w : World) (hl : l.length ≤ 1000000) :
    Calls Tryd.prog 52 #[.string (strOf l)] w fun e w' => e = .returned (.string (strOf (trimL l))) ∧ w = w' := by
  have HTA := hideIt (trim_at l)
  obtain ⟨R, hR⟩ : ∃ R, trimL l = R := ⟨_, rfl⟩
  rw [hR] at HTA ⊢
  clear hR
  have HL := hideIt hl
  go_enter Tryd.func52, Tryd.ntmps52
  go_wp2
  go_loop [0] (fun s => ∃ p m : List UInt8, s = .string (strOf m) ∧ l = p ++ m ∧ ∀ c ∈ p, blankB c = true) (fun s => strLen s)
  case atStart => exact ⟨[], l, rfl, rfl, by simp⟩
  case round =>
    obtain ⟨p, m, rfl, hpm, hp⟩ := hrel
    have HPM := hideIt hpm
    have HP := hideIt hp
    have hml : m.length ≤ 1000000 := by have := HL.out; rw [hpm] at this; simp at this; omega
    have hsz := strOf_size m
    clear hpm hp hl
    cases m with
    | nil =>
      simp only [List.length_nil] at hsz
      have hz : ¬ (0 : Int) < (((strOf []).size : Nat) : Int) := by rw [hsz]; decide
      obtain ⟨m0, hm0⟩ : ∃ m0 : List UInt8, m0 = [] := ⟨_, rfl⟩
      have HH : Hid (m0 = [] ∨ ∃ x, m0.head? = some x ∧ blankB x = false) := hideIt (.inl hm0)
      rw [← hm0] at HPM hsz hz ⊢
      clear hml hm0
      go_wp2_with fail
      go_loop [0] (fun s => ∃ m q : List UInt8, s = .string (strOf m) ∧ m0 = m ++ q ∧ ∀ c ∈ q, blankB c = true) (fun s => strLen s)
      case atStart => exact ⟨m0, [], rfl, by simp, by simp⟩
      case round =>
        obtain ⟨m, q, rfl, hmq, hq⟩ := hrel
        have HMQ := hideIt hmq
        have HQ := hideIt hq
        have hml : m.length ≤ 1000000 := by have := HL.out; rw [HPM.out, hmq] at this; simp at this; omega
        have hsz := strOf_size m
        clear hmq hq
        by_cases hm : m = []
        · have E : Hid (R = m) := hideIt (HTA.out p m q (by rw [← HMQ.out]; exact HPM.out) HP.out HQ.out (by rw [← HMQ.out]; exact HH.out) (.inl hm))
          have hz : ¬ (0 : Int) < (((strOf m).size : Nat) : Int) := by rw [hsz, hm]; decide
          clear hm hsz
          go_wp2_with fail
          go_ret
          exact ⟨by rw [E.out]; rfl, rfl⟩
        · obtain ⟨r, a, hra⟩ := snoc_of hm
          have HRA := hideIt hra
          have hn : m.length = r.length + 1 := by rw [hra]; simp
          have hz : (0 : Int) < (((strOf m).size : Nat) : Int) := by rw [hsz]; omega
          have hws : IntKind.i64.wrap ((m.length : Int) - 1) = (r.length : Int) := by rw [IntWalk.i64_in _ (by omega)]; omega
          have hix : ∀ w, (Instr.index 9 (.string (strOf m)) (.int .i64 (r.length : Int))).run Tryd.prog w = .ok (.int .u8 (a.toNat : Int)) w := fun w => by
            have := run_index_str w m .i64 r.length (by omega)
            rwa [show m[r.length]'(by omega) = a by simp [hra]] at this
          have hsl : ∀ w, (Instr.slice 9 (.string (strOf m)) none (some (.int .i64 (r.length : Int))) none).run Tryd.prog w = .ok (.string (strOf r)) w := fun w => by
            have := run_strhi m r.length (by omega) w
            rwa [show m.take r.length = r by simp [hra]] at this
          have HC := hideIt (refblank_any a)
          cases hb : blankB a
          · rw [hb] at HC
            have E : Hid (R = m) := hideIt (HTA.out p m q (by rw [← HMQ.out]; exact HPM.out) HP.out HQ.out (by rw [← HMQ.out]; exact HH.out) (.inr ⟨a, by rw [hra]; simp, hb⟩))
            clear hra hb hm hn hml
            generalize a.toNat = u at *
            go_wp2_with fail
            refine (HC.out _).mono ?_
            rintro e w2 ⟨rfl, rfl⟩
            go_wp2_with fail
            go_ret
            exact ⟨by rw [E.out]; rfl, rfl⟩
          · rw [hb] at HC
            have N : Hid (m0 = r ++ ([a] ++ q)) := hideIt (by rw [HMQ.out, hra]; simp)
            have N2 : Hid (∀ c ∈ [a] ++ q, blankB c = true) := hideIt fun c hc => by
              rcases List.mem_append.1 hc with h | h
              · simp at h; rw [h]; exact hb
              · exact HQ.out c h
            have hr := strOf_size r
            have HM : Hid ((strOf r).size < (strOf m).size) := hideIt (by rw [hr, hsz]; omega)
            clear hra hb hm hn hml hr
            generalize a.toNat = u at *
            go_wp2_with fail
            refine (HC.out _).mono ?_
            rintro e w2 ⟨rfl, rfl⟩
            go_wp2_with fail
            go_round
            case rel => exact ⟨r, [a] ++ q, rfl, N.out, N2.out⟩
            case measure => exact HM.out
    | cons a r =>
      have hz : (0 : Int) < (((strOf (a :: r)).size : Nat) : Int) := by rw [hsz]; simp
      have hix : ∀ w, (Instr.index 9 (.string (strOf (a :: r))) (.int .i64 0)).run Tryd.prog w = .ok (.int .u8 (a.toNat : Int)) w := fun w => run_index_str w (a :: r) .i64 0 (by simp)
      have hsl : ∀ w, (Instr.slice 9 (.string (strOf (a :: r))) (some (.int .i64 1)) none none).run Tryd.prog w = .ok (.string (strOf r)) w := fun w => run_strlo (a :: r) 1 (by simp) w
      have HC := hideIt (refblank_any a)
      cases hb : blankB a
      · rw [hb] at HC
        have HH : Hid (a :: r = [] ∨ ∃ x, (a :: r).head? = some x ∧ blankB x = false) := hideIt (.inr ⟨a, rfl, hb⟩)
        clear hb hsl
        generalize a.toNat = u at *
        generalize a :: r = m0 at *
        go_wp2_with fail
        refine (HC.out _).mono ?_
        rintro e w2 ⟨rfl, rfl⟩
        clear HC hix
        go_wp2_with fail
        go_loop [0] (fun s => ∃ m q : List UInt8, s = .string (strOf m) ∧ m0 = m ++ q ∧ ∀ c ∈ q, blankB c = true) (fun s => strLen s)
        case atStart => exact ⟨m0, [], rfl, by simp, by simp⟩
        case round =>
          obtain ⟨m, q, rfl, hmq, hq⟩ := hrel
          have HMQ := hideIt hmq
          have HQ := hideIt hq
          have hml : m.length ≤ 1000000 := by have := HL.out; rw [HPM.out, hmq] at this; simp at this; omega
          have hsz := strOf_size m
          clear hmq hq
          by_cases hm : m = []
          · have E : Hid (R = m) := hideIt (HTA.out p m q (by rw [← HMQ.out]; exact HPM.out) HP.out HQ.out (by rw [← HMQ.out]; exact HH.out) (.inl hm))
            have hz : ¬ (0 : Int) < (((strOf m).size : Nat) : Int) := by rw [hsz, hm]; decide
            clear hm hsz
            go_wp2_with fail
            go_ret
            exact ⟨by rw [E.out]; rfl, rfl⟩
          · obtain ⟨r, a, hra⟩ := snoc_of hm
            have HRA := hideIt hra
            have hn : m.length = r.length + 1 := by rw [hra]; simp
            have hz : (0 : Int) < (((strOf m).size : Nat) : Int) := by rw [hsz]; omega
            have hws : IntKind.i64.wrap ((m.length : Int) - 1) = (r.length : Int) := by rw [IntWalk.i64_in _ (by omega)]; omega
            have hix : ∀ w, (Instr.index 9 (.string (strOf m)) (.int .i64 (r.length : Int))).run Tryd.prog w = .ok (.int .u8 (a.toNat : Int)) w := fun w => by
              have := run_index_str w m .i64 r.length (by omega)
              rwa [show m[r.length]'(by omega) = a by simp [hra]] at this
            have hsl : ∀ w, (Instr.slice 9 (.string (strOf m)) none (some (.int .i64 (r.length : Int))) none).run Tryd.prog w = .ok (.string (strOf r)) w := fun w => by
              have := run_strhi m r.length (by omega) w
              rwa [show m.take r.length = r by simp [hra]] at this
            have HC := hideIt (refblank_any a)
            cases hb : blankB a
            · rw [hb] at HC
              have E : Hid (R = m) := hideIt (HTA.out p m q (by rw [← HMQ.out]; exact HPM.out) HP.out HQ.out (by rw [← HMQ.out]; exact HH.out) (.inr ⟨a, by rw [hra]; simp, hb⟩))
              clear hra hb hm hn hml
              generalize a.toNat = u at *
              go_wp2_with fail
              refine (HC.out _).mono ?_
              rintro e w2 ⟨rfl, rfl⟩
              go_wp2_with fail
              go_ret
              exact ⟨by rw [E.out]; rfl, rfl⟩
            · rw [hb] at HC
              have N : Hid (m0 = r ++ ([a] ++ q)) := hideIt (by rw [HMQ.out, hra]; simp)
              have N2 : Hid (∀ c ∈ [a] ++ q, blankB c = true) := hideIt fun c hc => by
                rcases List.mem_append.1 hc with h | h
                · simp at h; rw [h]; exact hb
                · exact HQ.out c h
              have hr := strOf_size r
              have HM : Hid ((strOf r).size < (strOf m).size) := hideIt (by rw [hr, hsz]; omega)
              clear hra hb hm hn hml hr
              generalize a.toNat = u at *
              go_wp2_with fail
              refine (HC.out _).mono ?_
              rintro e w2 ⟨rfl, rfl⟩
              go_wp2_with fail
              go_round
              case rel => exact ⟨r, [a] ++ q, rfl, N.out, N2.out⟩
              case measure => exact HM.out
      · rw [hb] at HC
        have N : Hid (l = (p ++ [a]) ++ r) := hideIt (by rw [HPM.out]; simp)
        have N2 : Hid (∀ c ∈ p ++ [a], blankB c = true) := hideIt fun c hc => by
          rcases List.mem_append.1 hc with h | h
          · exact HP.out c h
          · simp at h; rw [h]; exact hb
        have hr := strOf_size r
        have HM : Hid ((strOf r).size < (strOf (a :: r)).size) := hideIt (by rw [hr, hsz]; simp)
        clear hb
        generalize a.toNat = u at *
        generalize strOf (a :: r) = m0 at *
        go_wp2_with fail
        refine (HC.out _).mono ?_
        rintro e w2 ⟨rfl, rfl⟩
        go_wp2_with fail
        go_round
        case rel => exact ⟨p ++ [a], r, rfl, N.out, N2.out⟩
        case measure => exact HM.out
theorem go_reftrim : goFn Tryd.prog 52 = true := by kernel_rfl
def errI (n : Nat) : Value := .int .i64 (n : Int)
theorem zeroP_heap (w : World) : (w.alloc zeroP).heap.size = w.heap.size + 1 := alloc_size _ _
set_option maxRecDepth 8000 in
set_option maxHeartbeats 4000000 in
theorem reffield_any (l : List UInt8) (w : World) (hl : l.length ≤ 1000000) :
    Calls Tryd.prog 42 #[.string (strOf l)] w fun e w' => e = .returned (.tuple #[pairV (fieldL l).1, errI (fieldL l).2]) ∧ Below w.heap.size w w' := by
  have hsz := strOf_size l
  have HPZ := hideIt (zeroP_new w)
  have HBZ := hideIt (below_new w zeroP)
  have HZ : Hid ((w.alloc zeroP).heap.size = w.heap.size + 1) := hideIt (zeroP_heap w)
  have hZ : zeroP = .cells #[.string ⟨#[]⟩, .string ⟨#[]⟩] 41 := rfl
  rw [hZ] at HPZ HBZ HZ
  clear hZ
  by_cases hlong : 2000 < l.length
  · have E : Hid (fieldL l = (PairZ, 3)) := hideIt (by rw [fieldL, if_pos hlong])
    have h1 : (2000 : Int) < (l.length : Int) := by omega
    obtain ⟨RR, hRR⟩ : ∃ R, fieldL l = R := ⟨_, rfl⟩
    rw [hRR] at E ⊢
    clear hlong hRR HPZ HBZ HZ
    go_enter Tryd.func42, Tryd.ntmps42
    go_wp2_with fail
    (try simp only [Exit.inBlock, Exit.then])
    refine bodyPost_ret (results_P Tryd.results42 _ _ w.heap.size PairZ _ rfl rfl (by exact PCell.new w PairZ)) rfl ?_
    exact ⟨by rw [E.out]; rfl, below_new w _⟩
  have h1 : ¬ (2000 : Int) < (l.length : Int) := by omega
  obtain ⟨RR, hRR⟩ : ∃ R, fieldL l = R := ⟨_, rfl⟩
  rw [hRR]
  have ENO : Hid (¬ 58 ∈ l → RR = (PairZ, 12)) := hideIt fun hc => by rw [← hRR, fieldL, if_neg hlong, if_neg hc]
  have EYES : Hid (58 ∈ l → RR = if okP (nameL l, restL l) then ((nameL l, restL l), 0) else (PairZ, 12)) := hideIt fun hc => by rw [← hRR, fieldL, if_neg hlong, if_pos hc]
  clear hRR hlong
  go_enter Tryd.func42, Tryd.ntmps42
  go_wp2
  generalize w.alloc (.cells #[.string ⟨#[]⟩, .string ⟨#[]⟩] 41) = W at *
  go_loopw [4] (fun i wr => ∃ k : Nat, k ≤ l.length ∧ i = .int .i64 (k : Int) ∧ (l.take k).all notColon = true ∧ wr = W) (fun i wr => l.length - (intOf i).toNat)
  case atStart => exact ⟨0, by omega, rfl, rfl, rfl⟩
  case round =>
    obtain ⟨k, hk, rfl, ha, rfl⟩ := hrel
    have HA := hideIt ha
    clear ha
    have hwk : IntKind.i64.wrap ((k : Int) + 1) = (k : Int) + 1 := IntWalk.i64_in _ (by omega)
    by_cases hlt : k < l.length
    · have hlt' : (k : Int) < (l.length : Int) := by omega
      have hix : ∀ w, (Instr.index 9 (.string (strOf l)) (.int .i64 (k : Int))).run Tryd.prog w = .ok (.int .u8 ((l[k]).toNat : Int)) w := fun w => run_index_str w l .i64 k hlt
      by_cases hc : l[k] = 58
      · have hu : ((l[k]).toNat : Int) = 58 := by rw [hc]; rfl
        rw [hu] at hix
        have hne : ((k : Int) == (l.length : Int)) = false := by rw [beq_eq_false_iff_ne]; omega
        have hin := colon_in l k hlt hc
        have hnm := name_at l k hlt hc HA.out
        have hrs : restL l = trimL (l.drop (k + 1)) := by rw [restL, hnm, List.length_take, Nat.min_eq_left hk]
        have E := hideIt (EYES.out hin)
        rw [hnm, hrs] at E
        have hs1 : ∀ w, (Instr.slice 9 (.string (strOf l)) none (some (.int .i64 (k : Int))) none).run Tryd.prog w = .ok (.string (strOf (l.take k))) w := fun w => run_strhi l k hk w
        have hs2 : ∀ w, (Instr.slice 9 (.string (strOf l)) (some (.int .i64 ((k : Int) + 1))) none none).run Tryd.prog w = .ok (.string (strOf (l.drop (k + 1)))) w := fun w => run_strlo l (k + 1) hlt w
        have HT := hideIt (fun w => reftrim_any (l.drop (k + 1)) w (by rw [List.length_drop]; omega))
        have HL1 : Hid ((l.take k).length ≤ 1000000) := hideIt (by rw [List.length_take]; omega)
        have HL2 : Hid ((trimL (l.drop (k + 1))).length ≤ 1000000) := hideIt (by have := trim_len (l.drop (k + 1)); rw [List.length_drop] at this; omega)
        have HK := hideIt (fun w => reftoken_any (l.take k) w HL1.out)
        have HV := hideIt (fun w => refvalue_any (trimL (l.drop (k + 1))) w HL2.out)
        clear hc hu hin hnm hrs ENO EYES HA HL1 HL2
        generalize hA : l.take k = A at *
        generalize hB : trimL (l.drop (k + 1)) = B at *
        generalize strOf (l.drop (k + 1)) = sd at *
        clear hA hB
        go_wp2_with fail
        go_region_with (first | (go_at_call 52; refine (HT.out _).mono ?_; rintro e w2 ⟨rfl, rfl⟩))
        all_goals
          have P1 : Hid (PCell ((wr.alloc (.cells #[.string (strOf A), .string (strOf B)] 41)).drew) wr.heap.size (A, B)) := hideIt (PCell.new wr (A, B))
          have P0 : Hid (PCell ((wr.alloc (.cells #[.string (strOf A), .string (strOf B)] 41)).drew) w.heap.size PairZ) := hideIt (HPZ.out.keep (below_new wr _).drew HPZ.out.lt)
          have B1 : Hid (Below w.heap.size w ((wr.alloc (.cells #[.string (strOf A), .string (strOf B)] 41)).drew)) := hideIt (below_then HBZ.out (below_new wr _)).drew
          have q0 := P1.out.cell0
          have q1 := P1.out.cell1
          have r0 := P0.out.cell0
          have r1 := P0.out.cell1
          have r2 := P0.out.open0
          have r3 := P0.out.open1
          have HSZ : Hid (w.heap.size < wr.heap.size) := hideIt (by rw [HZ.out]; exact Nat.lt_succ_self _)
          clear P1 HT HPZ HBZ hs1 hs2 hix
          generalize (wr.alloc (.cells #[.string (strOf A), .string (strOf B)] 41)).drew = X at *
          generalize wr.heap.size = g1 at *
          unfold okP at E
          simp only at E
          go_wp2_with fail
          cases ht : tokenL A
          · rw [ht] at HK E
            have PS := hideIt (P0.out.set PairZ)
            have BS := hideIt (below_setP B1.out (Nat.le_refl _) (.string (strOf [])) (.string (strOf [])))
            clear ht HV
            refine (HK.out _).mono ?_
            rintro e w3 ⟨rfl, rfl⟩
            go_wp2_with fail
            (try simp only [Exit.inBlock, Exit.then])
            refine bodyPost_ret (results_P Tryd.results42 _ _ w.heap.size PairZ _ rfl rfl (by exact PS.out)) rfl ?_
            exact ⟨by rw [E.out]; rfl, BS.out⟩
          · rw [ht] at HK E
            clear ht
            refine (HK.out _).mono ?_
            rintro e w3 ⟨rfl, rfl⟩
            go_wp2_with fail
            cases hv : valueL B
            · rw [hv] at HV E
              have PS := hideIt (P0.out.set PairZ)
              have BS := hideIt (below_setP B1.out (Nat.le_refl _) (.string (strOf [])) (.string (strOf [])))
              clear hv
              refine (HV.out _).mono ?_
              rintro e w3 ⟨rfl, rfl⟩
              go_wp2_with fail
              (try simp only [Exit.inBlock, Exit.then])
              refine bodyPost_ret (results_P Tryd.results42 _ _ w.heap.size PairZ _ rfl rfl (by exact PS.out)) rfl ?_
              exact ⟨by rw [E.out]; rfl, BS.out⟩
            · rw [hv] at HV E
              have PS := hideIt (P0.out.set (A, B))
              have BS := hideIt (below_setP B1.out (Nat.le_refl _) (.string (strOf A)) (.string (strOf B)))
              clear hv
              refine (HV.out _).mono ?_
              rintro e w3 ⟨rfl, rfl⟩
              go_wp2_with fail
              (try simp only [Exit.inBlock, Exit.then])
              refine bodyPost_ret (results_P Tryd.results42 _ _ w.heap.size (A, B) _ rfl rfl (by exact PS.out)) rfl ?_
              exact ⟨by rw [E.out]; rfl, BS.out⟩
      · have N : Hid ((l.take (k + 1)).all notColon = true) := hideIt (all_step notColon l k (k + 1) (by omega) hlt HA.out fun j hj h1 h2 => by
          obtain rfl : j = k := by omega
          exact decide_eq_true hc)
        have hne : (((l[k]).toNat : Int) == 58) = false := by
          rw [beq_eq_false_iff_ne]
          intro h
          exact hc (UInt8.toNat_inj.1 (by show (l[k]).toNat = 58; omega))
        clear hc HA ENO EYES
        generalize (l[k]).toNat = u at *
        go_wp2_with fail
        go_roundw
        case rel => exact ⟨k + 1, by omega, by go_num, N.out, trivial⟩
        case measure => simp [intOf]; omega
    · obtain rfl : k = l.length := by omega
      have hlt' : ¬ (l.length : Int) < (l.length : Int) := by omega
      have E := hideIt (ENO.out (colon_no l (by have h1 := HA.out; rw [List.take_length] at h1; exact h1)))
      have q0 := HPZ.out.cell0
      have q1 := HPZ.out.cell1
      have q2 := HPZ.out.open0
      have q3 := HPZ.out.open1
      have PS := hideIt (HPZ.out.set PairZ)
      have BS := hideIt (below_setP HBZ.out (Nat.le_refl _) (.string (strOf [])) (.string (strOf [])))
      clear ENO EYES HA
      go_wp2_with fail
      (try simp only [Exit.inBlock, Exit.then])
      refine bodyPost_ret (results_P Tryd.results42 _ _ w.heap.size PairZ _ rfl rfl (by exact PS.out)) rfl ?_
      exact ⟨by rw [E.out]; rfl, BS.out⟩
theorem go_reffield : goFn Tryd.prog 42 = true := by kernel_rfl
set_option maxRecDepth 8000 in
set_option maxHeartbeats 2000000 in
theorem refprint_any (p : PairL) (w : World) (h1 : p.1.length ≤ 400000) (h2 : p.2.length ≤ 400000) :
    Calls Tryd.prog 28 #[pairV p] w fun e w' => e = .returned (.tuple #[.string (strOf (printF p).1), .int .i64 ((printF p).2 : Int)]) ∧ Below w.heap.size w w' := by
  have HT := hideIt (fun w => reftoken_any p.1 w (by omega))
  have HV := hideIt (fun w => refvalue_any p.2 w (by omega))
  have z1 : (strOf p.1).size ≤ 400000 := by rw [strOf_size]; exact h1
  have z2 : (strOf p.2).size ≤ 400000 := by rw [strOf_size]; exact h2
  have EF : Hid (printF p = if okP p then (if 2000 < (lineL p).length then ([], 3) else (lineL p, 0)) else ([], 12)) := hideIt rfl
  obtain ⟨RR, hRR⟩ : ∃ R, printF p = R := ⟨_, rfl⟩
  rw [hRR] at EF ⊢
  have P1 := hideIt (PCell.new w p)
  have B1 := hideIt (below_new w (.cells #[.string (strOf p.1), .string (strOf p.2)] 41))
  have LS := hideIt (line_str p)
  have LL : Hid ((strOf p.1).size + 2 + (strOf p.2).size = (lineL p).length) := hideIt (by rw [line_len, strOf_size, strOf_size])
  unfold pairV okP at *
  clear hRR h1 h2
  cases ht : tokenL p.1
  · rw [ht] at HT EF
    clear ht HV
    go_enter Tryd.func28, Tryd.ntmps28
    go_wp2_with fail
    refine (HT.out _).mono ?_
    rintro e w3 ⟨rfl, rfl⟩
    go_wp2_with fail
    go_ret2
    exact ⟨by rw [EF.out]; rfl, B1.out⟩
  · rw [ht] at HT EF
    clear ht
    have q0 := P1.out.cell0
    have q1 := P1.out.cell1
    cases hv : valueL p.2
    · rw [hv] at HV EF
      clear hv
      go_enter Tryd.func28, Tryd.ntmps28
      go_wp2_with fail
      refine (HT.out _).mono ?_
      rintro e w3 ⟨rfl, rfl⟩
      go_wp2_with fail
      refine (HV.out _).mono ?_
      rintro e w3 ⟨rfl, rfl⟩
      go_wp2_with fail
      go_ret2
      exact ⟨by rw [EF.out]; rfl, B1.out⟩
    · rw [hv] at HV EF
      clear hv
      by_cases hlong : 2000 < (lineL p).length
      · rw [Bool.true_and, if_pos rfl, if_pos hlong] at EF
        have hi : (2000 : Int) < ((strOf p.1).size : Int) + 2 + ((strOf p.2).size : Int) := by have := LL.out; omega
        clear hlong
        go_enter Tryd.func28, Tryd.ntmps28
        go_wp2_with fail
        refine (HT.out _).mono ?_
        rintro e w3 ⟨rfl, rfl⟩
        go_wp2_with fail
        refine (HV.out _).mono ?_
        rintro e w3 ⟨rfl, rfl⟩
        go_wp2_with fail
        go_ret2
        exact ⟨by rw [EF.out]; rfl, B1.out⟩
      · rw [Bool.true_and, if_pos rfl, if_neg hlong] at EF
        have hi : ¬ (2000 : Int) < ((strOf p.1).size : Int) + 2 + ((strOf p.2).size : Int) := by have := LL.out; omega
        clear hlong
        go_enter Tryd.func28, Tryd.ntmps28
        go_wp2_with fail
        refine (HT.out _).mono ?_
        rintro e w3 ⟨rfl, rfl⟩
        go_wp2_with fail
        refine (HV.out _).mono ?_
        rintro e w3 ⟨rfl, rfl⟩
        go_wp2_with fail
        go_ret2
        refine ⟨?_, B1.out⟩
        rw [EF.out]
        show Ending.returned (.tuple #[.string (strOf p.1 ++ ⟨#[58, 32]⟩ ++ strOf p.2), .int .i64 0]) = _
        rw [LS.out]; rfl
theorem go_refprint8 : goFn Tryd.prog 28 = true := by kernel_rfl
end Go.Proofs.YtolikoediafkkaaDoor
