/- wicketmanlaw11's Value, long, parses, session. -/
import Derived.Test.YtjfmlfakdijfjaaDoorCookKnown
import Derived.Test.YtjfmlfakdijfjaaDoorStrFacts
import Derived.Test.YtjfmlfakdijfjaaDoorRefSame
import Derived.Test.YtjfmlfakdijfjaaDoorRefCSess
namespace Go.Proofs.YtjfmlfakdijfjaaDoor
open Go.ChangeShapes Go.WideShapes Go.ChangeAt Go.RowKit
set_option linter.unusedVariables false
set_option linter.unusedSimpArgs false

/-- what a choice says of a value -/
def cookTab : List (List UInt8) := [[97, 61, 49], [95, 95, 72, 111, 115, 116, 45, 105, 100, 61], [53], [59, 32], [59, 32], [61], [34], [98], [95, 95, 72, 111, 115, 116, 45, 73, 68, 61, 120], [59], [32], [44], [92], [95, 95, 72, 111, 115, 116, 45, 105, 100, 61, 55], [59, 32, 97, 61, 34, 113, 34], [40, 61, 49]]
def cookPick (b : UInt8) : List UInt8 := cookTab.getD (b.toNat % 16) []
def valueOf (bs : List UInt8) : List UInt8 := (bs.take 20).flatMap cookPick
def cookTabV : Array Value := (cookTab.map fun p => Value.string (strOf p)).toArray
theorem cookTab_at (q : Nat) (h : q < 16) : cookTabV[q]? = some (.string (strOf (cookTab.getD q []))) := by
  have : ∀ q : Fin 16, cookTab[q.val]? = some (cookTab.getD q.val []) := by decide
  have t : cookTab[q]? = some (cookTab.getD q []) := this ⟨q, h⟩
  rw [cookTabV, List.getElem?_toArray, List.getElem?_map, t]
  rfl
theorem cookPick_len (b : UInt8) : (cookPick b).length ≤ 11 := by
  have : ∀ q : Fin 16, (cookTab.getD q.val []).length ≤ 11 := by decide
  exact this ⟨b.toNat % 16, Nat.mod_lt _ (by decide)⟩
theorem cookFlat_len (bs : List UInt8) : (bs.flatMap cookPick).length ≤ 11 * bs.length := by
  induction bs with
  | nil => simp
  | cons a r ih =>
    rw [List.flatMap_cons, List.length_append, List.length_cons]
    have := cookPick_len a
    omega
theorem valueOf_len (bs : List UInt8) : (valueOf bs).length ≤ 220 := by
  have := cookFlat_len (bs.take 20)
  rw [List.length_take] at this
  unfold valueOf; omega
theorem valueOf_step (bs : List UInt8) (j : Nat) (h : j < bs.length) : (bs.take (j + 1)).flatMap cookPick = (bs.take j).flatMap cookPick ++ cookPick bs[j] := by
  rw [List.take_succ_eq_append_getElem h, List.flatMap_append]; simp
set_option maxHeartbeats 1000000 in
theorem value_any (A : Option Addr) (bs : List UInt8) (n c : Nat) (w : World) (hp : PieceOk w ⟨A, c, bs⟩) (hn : bs.length = n) (hm : n ≤ 140737488355328) :
    Calls Tryd.prog 12 #[.slice A n c] w fun e w' => e = .returned (.string (strOf (valueOf bs))) ∧ Below w.heap.size w w' := by
  have HP := hideIt hp
  have HN := hideIt hn
  clear hp hn
  have hT : ∀ q, q < 16 → (w.alloc (.cells cookTabV 9)).cell? ⟨w.heap.size, q, none⟩ = some (.string (strOf (cookTab.getD q []))) := fun q hq => by
    rw [World.cell?_alloc_at _ _ _ _ rfl]; exact cookTab_at q hq
  have HT := hideIt hT
  have HB := hideIt (below_one (Below.refl w.heap.size w) (.cells cookTabV 9))
  clear hT
  go_enter Tryd.func12, Tryd.ntmps12
  go_wp2
  change Code.wp _ _ _ _ (w.alloc (.cells cookTabV 9))
  generalize w.alloc (.cells cookTabV 9) = W at *
  go_loopw [4, 5] (fun s i wr => ∃ j : Nat, j ≤ n ∧ j ≤ 20 ∧ i = .int .i64 (j : Int) ∧ s = .string (strOf ((bs.take j).flatMap cookPick)) ∧ wr = W) (fun _ i _ => n - (intOf i).toNat)
  case atStart => exact ⟨0, by omega, by omega, rfl, rfl, rfl⟩
  case round =>
    obtain ⟨j, hj, hj60, rfl, rfl, rfl⟩ := hrel
    by_cases hlt : j < n
    · have hlt' : (j : Int) < (n : Int) := by omega
      by_cases h60 : j < 20
      · have h60' : (j : Int) < 20 := by omega
        have hjb : j < bs.length := by have := HN.out; omega
        obtain ⟨b, off, rfl, hbl, hcells⟩ := HP.out.bytes (by show 0 < bs.length; omega)
        have hcell : wr.cell? ⟨b, off + j, none⟩ = some (.int .u8 ((bs[j]).toNat : Int)) := (HB.out.cell hbl).trans (hcells j hjb)
        have hx : (bs[j]).toNat < 256 := (bs[j]).toNat_lt
        have hq : (bs[j]).toNat % 16 < 16 := Nat.mod_lt _ (by decide)
        have hcs : wr.cell? ⟨w.heap.size, (bs[j]).toNat % 16, none⟩ = some (.string (strOf (cookPick bs[j]))) := HT.out _ hq
        have hfl := cookFlat_len (bs.take j)
        have hpl := cookPick_len bs[j]
        rw [List.length_take] at hfl
        have z0 : (strOf ((bs.take j).flatMap cookPick)).size ≤ 220 := by rw [strOf_size]; omega
        have z1 : (strOf (cookPick bs[j])).size ≤ 11 := by rw [strOf_size]; exact hpl
        have H2 : Hid (strOf ((bs.take j).flatMap cookPick) ++ strOf (cookPick bs[j]) = strOf ((bs.take (j + 1)).flatMap cookPick)) := hideIt (by rw [strOf_append, valueOf_step bs j hjb])
        have hmod : Int.tmod ((bs[j]).toNat : Int) 16 = (((bs[j]).toNat % 16 : Nat) : Int) := by rw [Int.tmod_eq_emod_of_nonneg (by omega)]; omega
        have hwr : IntKind.i64.wrap ((bs[j]).toNat : Int) = ((bs[j]).toNat : Int) := IntWalk.i64_in _ (by omega)
        have hwj : IntKind.i64.wrap ((j : Int) + 1) = (j : Int) + 1 := IntWalk.i64_in _ (by omega)
        clear hcells hbl hfl hpl
        generalize (bs[j]).toNat % 16 = q at *
        generalize (bs[j]).toNat = x at *
        generalize strOf ((bs.take j).flatMap cookPick) = s0 at *
        generalize strOf (cookPick bs[j]) = s1 at *
        clear hjb
        go_wp2
        go_roundw
        case rel => exact ⟨j + 1, by omega, by omega, by go_num, by rw [H2.out], trivial⟩
        case measure => simp [intOf]; omega
      · obtain rfl : j = 20 := by omega
        have h60' : ¬ (20 : Int) < 20 := by omega
        go_wp2
        go_ret
        exact ⟨rfl, HB.out⟩
    · obtain rfl : j = n := by omega
      have hlt' : ¬ (j : Int) < (j : Int) := by omega
      have ht : (bs.take j).flatMap cookPick = valueOf bs := by
        have h1 : bs.take j = bs := List.take_of_length_le (by have := HN.out; omega)
        have h2 : bs.take 20 = bs := List.take_of_length_le (by have := HN.out; omega)
        rw [valueOf, h1, h2]
      rw [ht]
      clear ht
      go_wp2
      go_ret
      exact ⟨rfl, HB.out⟩
theorem go_value : goFn Tryd.prog 12 = true := by kernel_rfl
/-- how long texts are together -/
def sumL (ps : List (List UInt8)) : Nat := (ps.map List.length).sum
theorem sumL_step {ps : List (List UInt8)} {j : Nat} {p : List UInt8} (h : ps[j]? = some p) : sumL (ps.take (j + 1)) = sumL (ps.take j) + p.length := by
  rw [take_more h]; simp [sumL]
theorem sumL_each {ps : List (List UInt8)} {p : List UInt8} (h : p ∈ ps) : p.length ≤ sumL ps := by
  induction ps with
  | nil => simp at h
  | cons a r ih =>
    have e : sumL (a :: r) = a.length + sumL r := by simp [sumL]
    rw [e]
    rcases List.mem_cons.1 h with rfl | h
    · omega
    · have := ih h; omega
theorem long_any (A : Option Addr) (ps : List (List UInt8)) (n c : Nat) (w : World) (hp : StrsR w A ps) (hn : ps.length = n) (hl : n ≤ 10) (he : ∀ p ∈ ps, p.length ≤ 140737488355328) :
    Calls Tryd.prog 10 #[.slice A n c] w fun e w' => e = .returned (.bool (decide (400 < sumL ps))) ∧ Below w.heap.size w w' := by
  have HP := hideIt hp
  have HE := hideIt he
  have HN := hideIt hn
  clear hp he hn
  go_enter Tryd.func10, Tryd.ntmps10
  go_wp2
  go_loopw [3, 4] (fun a i wr => ∃ (j : Nat), a = .int .i64 ((sumL (ps.take j) : Nat) : Int) ∧ i = .int .i64 (j : Int) ∧ j ≤ n ∧ sumL (ps.take j) ≤ j * 140737488355328 ∧ wr = w) (fun a i wr => n - (intOf i).toNat)
  case atStart => exact ⟨0, rfl, rfl, Nat.zero_le _, Nat.zero_le _, rfl⟩
  case round =>
    obtain ⟨j, rfl, rfl, hj, hs, rfl⟩ := hrel
    by_cases hjn : j < n
    · have hji : (j : Int) < (n : Int) := by omega
      obtain ⟨p, hpj⟩ : ∃ p, ps[j]? = some p := ⟨_, List.getElem?_eq_getElem (by have := HN.out; omega)⟩
      obtain ⟨g, off, rfl, _⟩ := HP.out (by rw [List.length_map]; have := HN.out; omega)
      obtain ⟨hg, hcell⟩ := HP.out.at j p hpj
      have hpl := HE.out p (List.mem_of_getElem? hpj)
      have hzp := strOf_size p
      have hst := sumL_step hpj
      obtain ⟨S, hS⟩ : ∃ S, sumL (ps.take j) = S := ⟨_, rfl⟩
      rw [hS] at hst hs ⊢
      have N1 : Hid (((sumL (ps.take (j + 1)) : Nat) : Int) = (S : Int) + (p.length : Int)) := hideIt (by omega)
      have N2 : Hid (sumL (ps.take (j + 1)) ≤ (j + 1) * 140737488355328) := hideIt (by omega)
      have hws : IntKind.i64.wrap ((S : Int) + (p.length : Int)) = (S : Int) + (p.length : Int) := IntWalk.i64_in _ (by omega)
      have hwj : IntKind.i64.wrap ((j : Int) + 1) = (j : Int) + 1 := IntWalk.i64_in _ (by omega)
      clear hst hS hg hs
      go_wp2_with fail
      go_roundw
      case rel => exact ⟨j + 1, by rw [N1.out], by go_num, by omega, N2.out, trivial⟩
      case measure => simp [intOf]; omega
    · obtain rfl : j = n := by omega
      rw [List.take_of_length_le (by have := HN.out; omega)] at hs ⊢
      by_cases hb : 400 < sumL ps
      · have hbi : (400 : Int) < ((sumL ps : Nat) : Int) := by omega
        have E : Hid (decide (400 < sumL ps) = true) := hideIt (decide_eq_true hb)
        clear hb
        go_wp2_with fail
        go_ret
        exact ⟨by rw [E.out]; rfl, Below.refl _ _⟩
      · have hbi : ¬ (400 : Int) < ((sumL ps : Nat) : Int) := by omega
        have E : Hid (decide (400 < sumL ps) = false) := hideIt (decide_eq_false hb)
        clear hb
        go_wp2_with fail
        go_ret
        exact ⟨by rw [E.out]; rfl, Below.refl _ _⟩
theorem go_long : goFn Tryd.prog 10 = true := by kernel_rfl
theorem cookies_short {t : List UInt8} (h : t.length ≤ 90000) : ((cookiesL t).getD []).length ≤ 140737488355328 := by
  cases e : cookiesL t with
  | none => simp
  | some l => have := cookies_len e; simp only [Option.getD_some]; omega
set_option maxHeartbeats 2000000 in
theorem parses_any (t : List UInt8) (w : World) (ht : t.length ≤ 90000) (hm : MaxOk w) :
    Calls Tryd.prog 13 #[.string (strOf t)] w fun e w' => e = .returned (.bool true) ∧ Below w.heap.size w w' := by
  have C1 := hideIt (cparse_any t w (by omega) hm)
  have C2 := hideIt (fun u => rcparse_any t u ht)
  have HL := hideIt (cookies_short ht)
  unfold CParsePost at C1 C2
  generalize (cookiesL t).getD [] = l at *
  generalize (cookiesL t).isSome = b at *
  generalize strOf t = st at *
  clear ht hm
  go_enter Tryd.func13, Tryd.ntmps13
  go_wp2_with fail
  refine C1.out.mono ?_
  rintro e w1 ⟨v, rfl, ho, hb⟩
  have B1 := hideIt hb
  have O1 := hideIt ho.reads
  obtain ⟨A1, c1, rfl, _⟩ := ho.open
  clear ho hb C1
  go_wp2_with fail
  refine (C2.out _).mono ?_
  rintro e w2 ⟨v, rfl, ho, hb⟩
  have B2 := hideIt (below_then B1.out hb)
  have O2 := hideIt ho.reads
  have O1b := hideIt (O1.out.keep hb)
  obtain ⟨A2, c2, rfl, _⟩ := ho.open
  clear ho hb C2 B1 O1
  have HS := hideIt (refsame_any _ _ l l w2 O1b.out O2.out HL.out)
  rw [decide_eq_true rfl] at HS
  clear O1b O2 HL
  cases b
  all_goals
    go_wp2_with fail
    refine HS.out.mono ?_
    rintro e w3 ⟨rfl, hb⟩
    have B3 := hideIt (below_then B2.out hb)
    clear hb HS B2
    go_wp2_with fail
    go_ret
    exact ⟨rfl, B3.out⟩
theorem go_parses : goFn Tryd.prog 13 = true := by kernel_rfl
set_option maxHeartbeats 2000000 in
theorem session_any (A : Option Addr) (ps : List (List UInt8)) (n c : Nat) (w : World) (hp : StrsR w A ps) (hn : ps.length = n) (hl : n ≤ 1000) (he : ∀ p ∈ ps, p.length ≤ 90000) (hm : MaxOk w) :
    Calls Tryd.prog 14 #[.slice A n c] w fun e w' => e = .returned (.bool true) ∧ Below w.heap.size w w' := by
  have C1 := hideIt (csess_any A ps n c w hp hn hl (fun p h => by have := he p h; omega) hm)
  have C2 := hideIt (fun u (h : Below w.heap.size w u) => rcsess_any A ps n c u (hp.keep h) hn hl he)
  generalize sessC ps = R at *
  obtain ⟨r, b⟩ := R
  simp only at C1 C2
  generalize strOf r = sr at *
  have q : (sr.toList == sr.toList) = true := by simp
  clear hp hn hl he hm
  go_enter Tryd.func14, Tryd.ntmps14
  go_wp2_with fail
  refine C1.out.mono ?_
  rintro e w1 ⟨rfl, hb⟩
  have B1 := hideIt hb
  clear hb C1
  go_wp2_with fail
  refine (C2.out _ B1.out).mono ?_
  rintro e w2 ⟨rfl, hb⟩
  have B2 := hideIt (below_then B1.out hb)
  clear hb B1 C2
  cases b
  all_goals
    go_wp2_with fail
    go_ret
    exact ⟨rfl, B2.out⟩
theorem go_session11 : goFn Tryd.prog 14 = true := by kernel_rfl
/-- a row of texts that was just made -/
theorem ses_at1 (s : ByteArray) (L : List UInt8) (he : s = strOf L) (hl : L.length ≤ 90000) (u : World) (k : Nat) (hk : u.heap.size = k) (hm : MaxOk u) :
    Calls Tryd.prog 14 #[.slice (some ⟨k, 0, none⟩) 1 1] (u.alloc (.cells #[.string s] 9)) fun e w' => e = .returned (.bool true) ∧ Below u.heap.size u w' := by
  subst he hk
  refine (session_any (some ⟨u.heap.size, 0, none⟩) [L] 1 1 _ (strs_one u L) rfl (by omega) (by intro p hp; rw [List.mem_singleton.1 hp]; exact hl) (hm.keep (below_new u _))).mono ?_
  rintro e w' ⟨h1, h2⟩
  exact ⟨h1, below_then (below_new u _) h2⟩
theorem ses_at2 (s t : ByteArray) (L M : List UInt8) (he : s = strOf L) (hf : t = strOf M) (hl : L.length ≤ 90000) (hl2 : M.length ≤ 90000) (u : World) (k : Nat) (hk : u.heap.size = k) (hm : MaxOk u) :
    Calls Tryd.prog 14 #[.slice (some ⟨k, 0, none⟩) 2 2] (u.alloc (.cells #[.string s, .string t] 9)) fun e w' => e = .returned (.bool true) ∧ Below u.heap.size u w' := by
  subst he hf hk
  refine (session_any (some ⟨u.heap.size, 0, none⟩) [L, M] 2 2 _ (strs_two u L M) rfl (by omega) (by
    intro p hp
    rcases List.mem_cons.1 hp with rfl | hp
    · exact hl
    · rw [List.mem_singleton.1 hp]; exact hl2) (hm.keep (below_new u _))).mono ?_
  rintro e w' ⟨h1, h2⟩
  exact ⟨h1, below_then (below_new u _) h2⟩
end Go.Proofs.YtjfmlfakdijfjaaDoor
