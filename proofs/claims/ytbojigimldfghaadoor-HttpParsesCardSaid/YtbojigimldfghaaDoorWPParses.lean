/- The walk of HttpParses. -/
import Derived.Test.YtbojigimldfghaaDoorHttpParses
import Derived.Test.YtbojigimldfghaaDoorHttpRaw
import Derived.Test.YtbojigimldfghaaDoorHttpKnown
import Derived.Test.YtbojigimldfghaaDoorHttpLaid
import Derived.Deep.Cut
namespace Go.Proofs.YtbojigimldfghaaDoor
open Go.ChangeShapes Go.WideShapes Go.ChangeAt Go.RowKit
set_option linter.unusedVariables false
set_option linter.unusedSimpArgs false

set_option maxRecDepth 8000 in
set_option maxHeartbeats 4000000 in
theorem httpParses_walk (a0 : Option Addr) (len0 cap0 : Nat) (z0 : List Int) (a1 : Option Addr) (len1 cap1 : Nat) (z1 : List Int) (a2 a3 a4 a5 : Int) (w : World) (w0 : IsRow .u8 w a0 len0 cap0 z0) (w1 : IsRow .u8 w a1 len1 cap1 z1) (w2 : (Lit.int .u8 a2).wf = true) (w3 : (Lit.int .u16 a3).wf = true) (w4 : (Lit.int .u8 a4).wf = true) (w5 : (Lit.int .u16 a5).wf = true) (hT : Tabs w) (r0 : cap0 ≤ 140737488355328) (r1 : cap1 ≤ 140737488355328) :
    Calls Tryd.prog 3 #[.slice a0 len0 cap0, .slice a1 len1 cap1, .int .u8 a2, .int .u16 a3, .int .u8 a4, .int .u16 a5] w fun e w' => e = .returned (.bool true) ∧ Below w.heap.size w w' := by
  have hm : MaxOk w := hT
  have HK := hideIt (known9_any w hm)
  obtain ⟨_, _, hlc1, _⟩ := w1.bytes
  obtain ⟨_, _, hlc0, _⟩ := w0.bytes
  by_cases hbig : 600 < len0
  · have hi : (600 : Int) < (len0 : Int) := by omega
    clear w0 w1 hT hm hbig w2 w3 w4 w5
    go_enter Tryd.func3, Tryd.ntmps3
    go_wp2_with fail
    refine HK.out.mono ?_
    rintro e u1 ⟨rfl, hb⟩
    have B1 := hideIt hb
    clear hb
    go_wp2_with fail
    go_ret
    exact ⟨rfl, B1.out⟩
  have hi : ¬ (600 : Int) < (len0 : Int) := by omega
  obtain ⟨bs, hl0, _, hp0⟩ := row_piece w0 (by omega)
  obtain ⟨cs, hl1, _, hp1⟩ := row_piece w1 (by omega)
  have hb2 := bounds_u8 w2
  have hb3 := bounds_u16 w3
  have hb4 := bounds_u8 w4
  have hb5 := bounds_u16 w5
  obtain ⟨k2, rfl⟩ : ∃ k : Nat, a2 = (k : Int) := ⟨a2.toNat, by omega⟩
  obtain ⟨k3, rfl⟩ : ∃ k : Nat, a3 = (k : Int) := ⟨a3.toNat, by omega⟩
  obtain ⟨k5, rfl⟩ : ∃ k : Nat, a5 = (k : Int) := ⟨a5.toNat, by omega⟩
  obtain ⟨c4, hc4⟩ : ∃ c : UInt8, (c.toNat : Int) = a4 := ⟨UInt8.ofNat a4.toNat, by rw [UInt8.toNat_ofNat']; omega⟩
  have HP0 := hideIt hp0
  have HP1 := hideIt hp1
  have HL0 := hideIt hl0
  have HLEN : Hid (len0 ≤ 600) := hideIt (by omega)
  have HM := hideIt hm
  have HC4 := hideIt hc4
  have HRAW := hideIt (fun w' (hb : Below w.heap.size w w') => raw_any a1 cs len1 cap1 k2 w' (hp1.keep hb) hl1 (by omega))
  have HPA := hideIt (fun (A : Option Addr) (l : List UInt8) (n c : Nat) (w' : World) (hb : Below w.heap.size w w') (hp : PieceOk w' ⟨A, c, l⟩) (hn : l.length = n) (hl : n ≤ 100000) => parses_any A l n c w' hp hn hl (hm.keep hb))
  have x3 : IntKind.i64.wrap (k3 : Int) = (k3 : Int) := IntWalk.i64_in _ (by omega)
  have x5 : IntKind.i64.wrap (k5 : Int) = (k5 : Int) := IntWalk.i64_in _ (by omega)
  have m5 : Int.tmod (k5 : Int) 16 = ((k5 % 16 : Nat) : Int) := by rw [Int.tmod_eq_emod_of_nonneg (by omega)]; omega
  have y5 : IntKind.u16.wrap ((k5 % 16 : Nat) : Int) = ((k5 % 16 : Nat) : Int) := by rw [IntKind.wrap_u16]; omega
  have x6 : IntKind.i64.wrap ((k5 % 16 : Nat) : Int) = ((k5 % 16 : Nat) : Int) := IntWalk.i64_in _ (by omega)
  have HS1 := hideIt (status_any (k5 : Int))
  have HS2 := hideIt (refstatus_any (k5 : Int))
  have HS3 := hideIt (status_any ((k5 % 16 : Nat) : Int))
  have HS4 := hideIt (refstatus_any ((k5 % 16 : Nat) : Int))
  have H3 : Hid (k3 < 65536) := hideIt (by omega)
  clear hp0 hp1 hl0 hl1 hT hm hbig w0 w1 w2 w3 w4 w5 hb2 hb3 hb4 hb5 hlc0 hlc1 r0 r1 hc4
  generalize statI (k5 : Int) = s1 at *
  generalize statI ((k5 % 16 : Nat) : Int) = s2 at *
  generalize k5 % 16 = k6 at *
  go_enter Tryd.func3, Tryd.ntmps3
  go_wp2_with fail
  refine HK.out.mono ?_
  rintro e u1 ⟨rfl, hb⟩
  have B1 := hideIt hb
  clear hb HK
  go_wp2_with fail
  refine (HRAW.out _ B1.out).mono ?_
  rintro e u2 ⟨g, d, l, rfl, hp, h2, h5, hb⟩
  have B2 := hideIt (below_then B1.out hb)
  have PX := hideIt hp
  have HX : Hid (2 ≤ l.length ∧ l.length ≤ 500) := hideIt ⟨h2, h5⟩
  clear hb hp HRAW B1
  obtain ⟨n, hn⟩ : ∃ n, l.length = n := ⟨_, rfl⟩
  have HN := hideIt hn
  rw [hn] at h2 h5
  have hnz : ¬ (n : Int) = 0 := by omega
  have hjn : k3 % n < n := Nat.mod_lt _ (by omega)
  have m3 : Int.tmod (k3 : Int) (n : Int) = ((k3 % n : Nat) : Int) := by rw [Int.tmod_eq_emod_of_nonneg (by omega)]; omega
  have y3 : IntKind.i64.wrap ((k3 % n : Nat) : Int) = ((k3 % n : Nat) : Int) := IntWalk.i64_in _ (by omega)
  have hsl := fun w => slice_hi (some ⟨g, 0, none⟩) n d (k3 % n) (by have : l.length ≤ d := PX.out.fits; omega) w
  rw [hn]
  clear hn
  generalize k3 % n = j at *
  go_wp2_with (at_builtin; refine wpList_app rfl (.tmp 26) (.tmp 27) rfl u2.heap.size (.slice none 0 0) 0 [] rfl (own_none _ _ _) (some ⟨g, 0, none⟩) n d u2.heap.size l rfl HN.out (by intro h; cases h) (by exact PX.out.bytes) (by omega) (Nat.le_refl _) ?_; intro v1 u3 o1 g1; rw [Nat.zero_add, List.nil_append] at o1; obtain ⟨gy, cx, rfl, hgb, hcx, hcm⟩ := own_some o1 (by omega); have hcb := o1.cellAt j (by omega); rw [cellsOf_at l j (by have := HN.out; omega)] at hcb; have hfb := o1.frozenAt j; have O1 := hideIt o1; have G1 := hideIt g1; clear o1 g1)
  have hst := O1.out.stored j (.int .u8 a4)
  rw [← HC4.out, cellsOf_set] at hst
  have hcx' : cx ≤ 9223372036854775807 := hcm
  have bel : Below u2.heap.size u2 (u3.setCell ⟨gy, j, none⟩ (.int .u8 a4)) := (below_made G1.out).setCell hgb _
  rw [HC4.out] at hst
  have ox := hst.1
  generalize u3.setCell ⟨gy, j, none⟩ (.int .u8 a4) = u4 at *
  have B4 := hideIt (below_then B2.out bel)
  have P4 := hideIt (PX.out.keep bel)
  have PY : Hid (PieceOk u4 ⟨some ⟨gy, 0, none⟩, cx, l.set j c4⟩) := hideIt ⟨own_bytes ox, by simp only [List.length_set]; have := HN.out; omega, hcx', by simp only [List.length_set]; have := HN.out; omega, by simp⟩
  clear hst ox O1 G1 hcb hfb bel PX B2
  have HPB := hideIt (HPA.out a0 bs len0 cap0 u4 B4.out (HP0.out.keep B4.out) HL0.out (by have := HLEN.out; omega))
  go_wp2_with fail
  refine HPB.out.mono ?_
  rintro e u5 ⟨rfl, hb⟩
  have B5 := hideIt (below_then B4.out hb)
  have P5 := hideIt (P4.out.keep hb)
  have Y5 := hideIt (PY.out.keep hb)
  clear hb P4 PY HPB B4
  have HPB := hideIt (HPA.out _ l n d u5 B5.out P5.out HN.out (by have := HX.out; have := HN.out; omega))
  go_wp2_with fail
  refine HPB.out.mono ?_
  rintro e u6 ⟨rfl, hb⟩
  have B6 := hideIt (below_then B5.out hb)
  have P6 := hideIt (P5.out.keep hb)
  have Y6 := hideIt (Y5.out.keep hb)
  clear hb P5 Y5 HPB B5
  have HPB := hideIt (HPA.out _ (l.set j c4) n cx u6 B6.out Y6.out (by rw [List.length_set]; exact HN.out) (by have := HX.out; have := HN.out; omega))
  go_wp2_with fail
  refine HPB.out.mono ?_
  rintro e u7 ⟨rfl, hb⟩
  have B7 := hideIt (below_then B6.out hb)
  have P7 := hideIt (P6.out.keep hb)
  clear hb P6 Y6 HPB B6
  have HLT : (l.take j).length = j := by rw [List.length_take]; have := HN.out; omega
  have HPB := hideIt (HPA.out _ (l.take j) j d u7 B7.out ⟨P7.out.bytes.front j, by have : l.length ≤ d := P7.out.fits; simp only; have := HN.out; omega, P7.out.most, by simp only; omega, P7.out.nil⟩ HLT (by have := HX.out; have := HN.out; omega))
  clear HLT
  go_wp2_with fail
  refine HPB.out.mono ?_
  rintro e u8 ⟨rfl, hb⟩
  have B8 := hideIt (below_then B7.out hb)
  clear hb P7 HPB B7
  go_wp2_with fail
  refine (HS1.out _).mono ?_
  rintro e u9 ⟨rfl, rfl⟩
  go_wp2_with fail
  refine (HS2.out _).mono ?_
  rintro e u9 ⟨rfl, rfl⟩
  go_wp2_with fail
  refine (HS3.out _).mono ?_
  rintro e u9 ⟨rfl, rfl⟩
  go_wp2_with fail
  refine (HS4.out _).mono ?_
  rintro e u9 ⟨rfl, rfl⟩
  go_wp2_with fail
  go_ret
  exact ⟨rfl, B8.out⟩
end Go.Proofs.YtbojigimldfghaaDoor
