/- CookieHost: the walk. -/
import Derived.Test.YtjfmlfakdijfjaaDoorCookKnown
import Derived.Test.YtjfmlfakdijfjaaDoorCookLaid
import Derived.Test.YtjfmlfakdijfjaaDoorOpenBools
namespace Go.Proofs.YtjfmlfakdijfjaaDoor
open Go.ChangeShapes Go.WideShapes Go.ChangeAt Go.RowKit
set_option linter.unusedVariables false
set_option linter.unusedSimpArgs false

/-- some letters made great, up to a place -/
def upG (l : List UInt8) (gs : List Bool) (k : Nat) : List UInt8 := l.mapIdx fun j c => if j < k ∧ gs.getD j false = true ∧ 97 ≤ c.toNat then c - 32 else c
theorem upG_len (l : List UInt8) (gs : List Bool) (k : Nat) : (upG l gs k).length = l.length := by simp [upG]
theorem upG_zero (l : List UInt8) (gs : List Bool) : upG l gs 0 = l := by
  refine List.ext_getElem (by simp [upG]) fun j h1 h2 => ?_
  simp [upG]
theorem upG_at (l : List UInt8) (gs : List Bool) (k : Nat) (hk : k < l.length) : (upG l gs k)[k]'(by rw [upG_len]; exact hk) = l[k] := by simp [upG]
theorem upG_set (l : List UInt8) (gs : List Bool) (k : Nat) (hk : k < l.length) (hg : gs.getD k false = true) (hc : 97 ≤ (l[k]).toNat) : (upG l gs k).set k (l[k] - 32) = upG l gs (k + 1) := by
  refine List.ext_getElem (by simp [upG]) fun j h1 h2 => ?_
  rw [List.getElem_set]
  by_cases h : k = j
  · subst h
    rw [if_pos rfl]
    simp only [upG, List.getElem_mapIdx]
    rw [if_pos ⟨by omega, hg, hc⟩]
  · rw [if_neg h]
    simp only [upG, List.getElem_mapIdx]
    by_cases hj : j < k ∧ gs.getD j false = true ∧ 97 ≤ (l[j]'(by simpa [upG] using h2)).toNat
    · rw [if_pos hj, if_pos ⟨by omega, hj.2⟩]
    · rw [if_neg hj, if_neg (fun h3 => hj ⟨by omega, h3.2⟩)]
theorem upG_same (l : List UInt8) (gs : List Bool) (k : Nat) (hk : k < l.length) (hg : ¬ (gs.getD k false = true ∧ 97 ≤ (l[k]).toNat)) : upG l gs (k + 1) = upG l gs k := by
  refine List.ext_getElem (by simp [upG]) fun j h1 h2 => ?_
  simp only [upG, List.getElem_mapIdx]
  by_cases hj : j < k ∧ gs.getD j false = true ∧ 97 ≤ (l[j]'(by simpa [upG] using h2)).toNat
  · rw [if_pos hj, if_pos ⟨by omega, hj.2⟩]
  · rw [if_neg hj, if_neg (fun h3 => ?_)]
    rcases Nat.lt_or_ge j k with h4 | h4
    · exact hj ⟨h4, h3.2⟩
    · obtain rfl : j = k := by omega
      exact hg h3.2
theorem upG_small (l : List UInt8) (gs : List Bool) (k : Nat) (h : ∀ c ∈ l, c.toNat ≤ 122) : smallL (upG l gs k) = smallL l := by
  refine List.ext_getElem (by simp [smallL, upG]) fun j h1 h2 => ?_
  simp only [smallL, upG, List.getElem_map, List.getElem_mapIdx]
  split
  · rename_i hh
    exact small_down _ ⟨hh.2.2, h _ (List.getElem_mem _)⟩
  · rfl
def hostX : List UInt8 := [95, 95, 104, 111, 115, 116, 45, 120]
theorem hostX_le : ∀ c ∈ hostX, c.toNat ≤ 122 := by decide
set_option maxRecDepth 8000 in
set_option maxHeartbeats 4000000 in
theorem cookieHost_walk (a0 a1 a2 : Bool) (a3 : Option Addr) (len3 cap3 : Nat) (x3 : List Bool) (w : World) (w3 : IsBools w a3 len3 cap3 x3) (hT : Tabs w) :
    Calls Tryd.prog 9 #[.bool a0, .bool a1, .bool a2, .slice a3 len3 cap3] w fun e w' => e = .returned (.bool true) ∧ Below w.heap.size w w' := by
  obtain ⟨hg1, hg2, hg3⟩ := w3
  have HG := hideIt hg2
  have HGN := hideIt hg1
  have HT := hideIt hT
  obtain ⟨c, u2, hcv, hrow, hbel, hwz, hc1, hc2⟩ := conv_row w hostX (by decide)
  have B2 := hideIt hbel
  have R2 : Hid (BRow u2 w.heap.size (upG hostX x3 0)) := hideIt (by rw [upG_zero]; exact hrow)
  rw [show strOf hostX = ⟨#[95, 95, 104, 111, 115, 116, 45, 120]⟩ from rfl] at hcv
  have HL8 : Hid (hostX.length = 8) := hideIt rfl
  rw [show hostX.length = 8 from rfl] at hcv
  have HLE := hideIt hostX_le
  have HLS : Hid (smallL hostX = smallL [95, 95, 104, 111, 115, 116, 45, 120]) := hideIt rfl
  clear hg1 hg2 hT hbel hrow hwz
  generalize hostX = l at *
  go_enter Tryd.func9, Tryd.ntmps9
  go_wp2_with fail
  clear hcv
  generalize hgg : w.heap.size = g at *
  go_loopw [12] (fun i wr => ∃ j : Nat, j ≤ 8 ∧ i = .int .i64 (j : Int) ∧ BRow wr g (upG l x3 j) ∧ Below g w wr) (fun i wr => 8 - (intOf i).toNat)
  case atStart => exact ⟨0, by omega, rfl, R2.out, B2.out⟩
  case round =>
    obtain ⟨j, hj, rfl, hr, hb⟩ := hrel
    have HR := hideIt hr
    have HB := hideIt hb
    clear hr hb R2 B2
    by_cases hgo : j < 8 ∧ j < len3
    · obtain ⟨h1, h2⟩ := hgo
      have hjl : j < l.length := by rw [HL8.out]; exact h1
      have h1' : (j : Int) < 8 := by omega
      have h2' : (j : Int) < (len3 : Int) := by omega
      have hwj : IntKind.i64.wrap ((j : Int) + 1) = (j : Int) + 1 := IntWalk.i64_in _ (by omega)
      obtain ⟨b, off, rfl, _, hbl, hcells⟩ := HG.out (by rw [List.length_map, HGN.out]; omega)
      have hjx : j < x3.length := by rw [HGN.out]; exact h2
      rw [← hgg] at HB
      have hcg : wr.cell? ⟨b, off + j, none⟩ = some (.bool (x3.getD j false)) := by
        have := hcells j (by rw [List.length_map]; exact hjx)
        rw [(HB.out.cell (p := ⟨b, off + j, none⟩) hbl), this, List.getElem_map]
        simp [List.getD, hjx]
      have hcr : wr.cell? ⟨g, j, none⟩ = some (.int .u8 ((l[j]).toNat : Int)) := by
        have := HR.out.cell j (by rw [upG_len]; exact hjl)
        rwa [upG_at l x3 j hjl] at this
      have hfr := HR.out.unfrozen j (by rw [upG_len]; exact hjl)
      have hle := HLE.out _ (List.getElem_mem hjl)
      rw [hgg] at HB
      clear hcells
      cases hgj : x3.getD j false
      · rw [hgj] at hcg
        have RN : Hid (BRow wr g (upG l x3 (j + 1))) := hideIt (by rw [upG_same l x3 j hjl (by rw [hgj]; simp)]; exact HR.out)
        clear hgj hle
        go_wp2_with fail
        go_roundw
        case rel => exact ⟨j + 1, by omega, by go_num, RN.out, HB.out⟩
        case measure => simp [intOf]; omega
      · rw [hgj] at hcg
        by_cases h97 : 97 ≤ (l[j]).toNat
        · have rs := HR.out.set j (l[j] - 32)
          rw [upG_set l x3 j hjl hgj h97, show (l[j] - 32).toNat = (l[j]).toNat - 32 by rw [UInt8.toNat_sub]; show (256 - 32 + (l[j]).toNat) % 256 = _; have := (l[j]).toNat_lt; omega] at rs
          obtain ⟨y, hy⟩ : ∃ y : Int, (((l[j]).toNat - 32 : Nat) : Int) = y := ⟨_, rfl⟩
          rw [hy] at rs
          have RN := hideIt rs
          have BN : Hid (Below g w (wr.setCell ⟨g, j, none⟩ (.int .u8 y))) := hideIt (HB.out.setCell (by exact Nat.le_refl _) _)
          have hwy : IntKind.u8.wrap (((l[j]).toNat : Int) - 32) = y := by rw [← hy, IntKind.wrap_u8']; omega
          have h97' : (97 : Int) ≤ ((l[j]).toNat : Int) := by omega
          clear hgj hle rs hy HR HB h97
          generalize (l[j]).toNat = v at *
          go_wp2_with fail
          go_roundw
          case rel => exact ⟨j + 1, by omega, by go_num, RN.out, BN.out⟩
          case measure => simp [intOf]; omega
        · have RN : Hid (BRow wr g (upG l x3 (j + 1))) := hideIt (by rw [upG_same l x3 j hjl (by omega)]; exact HR.out)
          have h97' : ¬ (97 : Int) ≤ ((l[j]).toNat : Int) := by omega
          clear hgj hle h97
          generalize (l[j]).toNat = v at *
          go_wp2_with fail
          go_roundw
          case rel => exact ⟨j + 1, by omega, by go_num, RN.out, HB.out⟩
          case measure => simp [intOf]; omega
    · have hsm := upG_small l x3 j HLE.out
      have hTl := upG_len l x3 j
      rw [HL8.out] at hTl
      have hxs : smallL l = smallL [95, 95, 104, 111, 115, 116, 45, 120] := by rw [HLS.out]
      rw [hxs] at hsm
      have hcb : ∀ u, Below wr.heap.size wr u → (convert 23 9 (.slice (some ⟨g, 0, none⟩) 8 c)).run Tryd.prog u = .ok (.string (strOf (upG l x3 j))) u := fun u hu => conv_bytes (some ⟨g, 0, none⟩) (upG l x3 j) 8 c _ u (HR.out.keep hu HR.out.lt).bytes hTl
      have HCB := hideIt hcb
      clear hcb
      generalize upG l x3 j = T at *
      have hgo2 : ((j : Int) < 8 ∧ ¬ (j : Int) < (len3 : Int)) ∨ ¬ ((j : Int) < 8) := by omega
      have HK := hideIt (known11_any wr (HT.out.1.keep (hgg ▸ HB.out)) (HT.out.2.keep (hgg ▸ HB.out)))
      have HP1 : ∀ (pa : List UInt8) (u : World), Calls Tryd.prog 26 #[.string (strOf T), .bool a0, .string (strOf pa), .bool a1] u fun e w' => e = .returned (.bool (a0 && (decide (pa = [47]) && !a1))) ∧ Below u.heap.size u w' := fun pa u => by
        have := prefix_any T pa a0 a1 u (by omega)
        rwa [front_host hsm] at this
      have HP2 : ∀ (pa : List UInt8) (u : World), Calls Tryd.prog 26 #[.string ⟨#[95, 95, 115, 101, 99, 117, 114, 101, 45, 120]⟩, .bool a0, .string (strOf pa), .bool a1] u fun e w' => e = .returned (.bool a0) ∧ Below u.heap.size u w' := fun pa u => by
        have := prefix_any [95, 95, 115, 101, 99, 117, 114, 101, 45, 120] pa a0 a1 u (by simp)
        rwa [front_sec] at this
      have HP3 : ∀ (pa : List UInt8) (u : World), Calls Tryd.prog 26 #[.string ⟨#[120, 95, 95, 104, 111, 115, 116, 45, 120]⟩, .bool a0, .string (strOf pa), .bool a1] u fun e w' => e = .returned (.bool true) ∧ Below u.heap.size u w' := fun pa u => by
        have := prefix_any [120, 95, 95, 104, 111, 115, 116, 45, 120] pa a0 a1 u (by simp)
        rwa [front_none front_x.1 front_x.2] at this
      have HP4 : ∀ (pa : List UInt8) (u : World), Calls Tryd.prog 26 #[.string ⟨#[95, 95, 72, 111, 115, 116]⟩, .bool a0, .string (strOf pa), .bool a1] u fun e w' => e = .returned (.bool true) ∧ Below u.heap.size u w' := fun pa u => by
        have := prefix_any [95, 95, 72, 111, 115, 116] pa a0 a1 u (by simp)
        rwa [front_none front_short.1 front_short.2] at this
      have HX : Hid ((⟨#[120]⟩ : ByteArray) ++ ⟨#[95, 95, 104, 111, 115, 116, 45, 120]⟩ = ⟨#[120, 95, 95, 104, 111, 115, 116, 45, 120]⟩) := hideIt rfl
      have Q1 := hideIt HP1
      have Q2 := hideIt HP2
      have Q3 := hideIt HP3
      have Q4 := hideIt HP4
      clear HP1 HP2 HP3 HP4 hsm hTl hxs HR HG HGN HL8 HLE HT hgo
      generalize strOf T = tt at *
      cases a2
      · have R1 := hideIt (Q1.out [47, 97])
        have R2 := hideIt (Q2.out [47, 97])
        have R3 := hideIt (Q3.out [47, 97])
        have R4 := hideIt (Q4.out [47, 97])
        rw [show decide (([47, 97] : List UInt8) = [47]) = false by decide] at R1
        clear Q1 Q2 Q3 Q4
        cases a0 <;> cases a1 <;> rcases hgo2 with ⟨g1, g2⟩ | g1
        all_goals
          go_wp2_with fail
          refine HK.out.mono ?_
          rintro e u1 ⟨rfl, hb1⟩
          have hcv := HCB.out _ hb1
          have B1 : Hid (Below g w u1) := hideIt (HB.out.trans (hb1.mono (by have := HB.out.size; omega)))
          clear hb1 HK HB HCB
          go_wp2_with fail
          refine (R1.out _).mono ?_
          rintro e u2 ⟨rfl, hb1⟩
          have B2 : Hid (Below g w u2) := hideIt (B1.out.trans (hb1.mono (by have := B1.out.size; omega)))
          clear hb1 R1 B1
          go_wp2_with fail
          refine (R2.out _).mono ?_
          rintro e u3 ⟨rfl, hb1⟩
          have B3 : Hid (Below g w u3) := hideIt (B2.out.trans (hb1.mono (by have := B2.out.size; omega)))
          clear hb1 R2 B2
          go_wp2_with fail
          try rw [HX.out]
          refine (R3.out _).mono ?_
          rintro e u4 ⟨rfl, hb1⟩
          have B4 : Hid (Below g w u4) := hideIt (B3.out.trans (hb1.mono (by have := B3.out.size; omega)))
          clear hb1 R3 B3
          go_wp2_with fail
          refine (R4.out _).mono ?_
          rintro e u5 ⟨rfl, hb1⟩
          have B5 : Hid (Below g w u5) := hideIt (B4.out.trans (hb1.mono (by have := B4.out.size; omega)))
          clear hb1 R4 B4
          go_wp2_with fail
          go_ret
          exact ⟨rfl, hgg ▸ B5.out⟩
      · have R1 := hideIt (Q1.out [47])
        have R2 := hideIt (Q2.out [47])
        have R3 := hideIt (Q3.out [47])
        have R4 := hideIt (Q4.out [47])
        rw [show decide (([47] : List UInt8) = [47]) = true by decide] at R1
        clear Q1 Q2 Q3 Q4
        cases a0 <;> cases a1 <;> rcases hgo2 with ⟨g1, g2⟩ | g1
        all_goals
          go_wp2_with fail
          refine HK.out.mono ?_
          rintro e u1 ⟨rfl, hb1⟩
          have hcv := HCB.out _ hb1
          have B1 : Hid (Below g w u1) := hideIt (HB.out.trans (hb1.mono (by have := HB.out.size; omega)))
          clear hb1 HK HB HCB
          go_wp2_with fail
          refine (R1.out _).mono ?_
          rintro e u2 ⟨rfl, hb1⟩
          have B2 : Hid (Below g w u2) := hideIt (B1.out.trans (hb1.mono (by have := B1.out.size; omega)))
          clear hb1 R1 B1
          go_wp2_with fail
          refine (R2.out _).mono ?_
          rintro e u3 ⟨rfl, hb1⟩
          have B3 : Hid (Below g w u3) := hideIt (B2.out.trans (hb1.mono (by have := B2.out.size; omega)))
          clear hb1 R2 B2
          go_wp2_with fail
          try rw [HX.out]
          refine (R3.out _).mono ?_
          rintro e u4 ⟨rfl, hb1⟩
          have B4 : Hid (Below g w u4) := hideIt (B3.out.trans (hb1.mono (by have := B3.out.size; omega)))
          clear hb1 R3 B3
          go_wp2_with fail
          refine (R4.out _).mono ?_
          rintro e u5 ⟨rfl, hb1⟩
          have B5 : Hid (Below g w u5) := hideIt (B4.out.trans (hb1.mono (by have := B4.out.size; omega)))
          clear hb1 R4 B4
          go_wp2_with fail
          go_ret
          exact ⟨rfl, hgg ▸ B5.out⟩
end Go.Proofs.YtjfmlfakdijfjaaDoor
