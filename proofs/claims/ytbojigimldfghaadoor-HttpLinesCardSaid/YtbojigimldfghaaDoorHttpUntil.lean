/- Contract of http.reader's until. -/
import Derived.Test.YtbojigimldfghaaDoorHttpRead
import Derived.Test.YtbojigimldfghaaDoorHttpIndex
import Derived.Test.YtbojigimldfghaaDoorStrBytes
import Derived.Test.YtbojigimldfghaaDoorCmp
namespace Go.Proofs.YtbojigimldfghaaDoor
open Go.ChangeShapes Go.WideShapes Go.ChangeAt Go.RowKit
set_option linter.unusedVariables false
set_option linter.unusedSimpArgs false

theorem piece_of (A1 : Option Addr) (bs : List UInt8) (n c k : Nat) (w : World) (A : Option Addr) (hp : PieceOk w ⟨A, c, bs⟩) (hn : bs.length = n) (hk : k ≤ n) (h2 : ∀ w B bs, bs.length = n → BytesAt w B A bs → BytesAt w B A1 (bs.drop k)) (h4 : A1 = none → c - k = 0) : PieceOk w ⟨A1, c - k, bs.drop k⟩ := by
  have h := hp.fits
  have h' := hp.most
  have h'' := hp.long
  simp only at h h' h''
  exact ⟨h2 w _ bs hn hp.bytes, by rw [List.length_drop]; show bs.length - k ≤ c - k; omega, by show c - k ≤ _; omega, by rw [List.length_drop]; show bs.length - k ≤ _; omega, fun hh => h4 hh⟩
set_option maxRecDepth 8000 in
set_option maxHeartbeats 2000000 in
theorem until_none (g : Nat) (A : Option Addr) (bs : List UInt8) (n c k : Nat) (sep : List UInt8) (w : World) (h : RdB g A n c k w) (hp : PieceOk w ⟨A, c, bs⟩) (hn : bs.length = n) (hk : k ≤ n) (hl : n ≤ 1000000) (h0 : 0 < sep.length) (hs : sep.length ≤ 100) (hm : MaxOk w) (hc : cutS sep (bs.drop k) = none) :
    Calls Tryd.prog 40 #[.pointer (some ⟨g, 0, none⟩), .string (strOf sep)] w fun e w' => e = .returned (.tuple #[.string ⟨#[]⟩, .bool false]) ∧ Below w.heap.size w w' := by
  have hfit := hp.fits
  simp only at hfit
  have hnil := hp.nil
  simp only at hnil
  obtain ⟨A1, h1, h2, h3, h4⟩ := slice_lo A n c k hk (by omega) hnil
  have HR := hideIt (rest_any g A A1 n c k (n - k) (c - k) w h h1)
  have HP := hideIt (piece_of A1 bs n c k w A hp hn hk h2 h4)
  have HI : Hid (cutI sep (bs.drop k) = -1) := hideIt (by unfold cutI; rw [hc])
  have HM := hideIt hm
  have hdl : (bs.drop k).length = n - k := by rw [List.length_drop, hn]
  have hml : n - k ≤ 1000000 := by omega
  clear h hp hm hc h1 h2 h3 h4 hnil hfit hn
  generalize bs.drop k = rest at *
  generalize n - k = m1 at *
  generalize c - k = c1 at *
  go_enter Tryd.func40, Tryd.ntmps40
  go_wp2_with fail
  refine HR.out.mono ?_
  rintro e u1 ⟨rfl, hb⟩
  obtain ⟨d, u2, hcv, hq, hb2⟩ := conv_str u1 sep (by omega)
  have B2 := hideIt (below_then hb hb2)
  have HIX := hideIt (index_any A1 rest m1 c1 u1.heap.size d sep sep.length u2 (HP.out.keep B2.out) hdl (by omega) hq rfl h0 (HM.out.keep B2.out))
  rw [HI.out] at HIX
  clear hb hb2 HR hq hdl
  go_wp2_with fail
  refine HIX.out.mono ?_
  rintro e u3 ⟨rfl, hb3⟩
  have B3 := hideIt (below_then B2.out hb3)
  clear hb3 HIX hcv
  go_wp2_with fail
  go_ret2
  exact ⟨rfl, B3.out⟩
set_option maxRecDepth 8000 in
set_option maxHeartbeats 2000000 in
theorem until_some (g : Nat) (A : Option Addr) (bs : List UInt8) (n c k : Nat) (sep x r : List UInt8) (w : World) (h : RdB g A n c k w) (hp : PieceOk w ⟨A, c, bs⟩) (hn : bs.length = n) (hk : k ≤ n) (hl : n ≤ 1000000) (h0 : 0 < sep.length) (hs : sep.length ≤ 100) (hm : MaxOk w) (ha : Apart A bs g) (hc : cutS sep (bs.drop k) = some (x, r)) :
    Calls Tryd.prog 40 #[.pointer (some ⟨g, 0, none⟩), .string (strOf sep)] w fun e w' => e = .returned (.tuple #[.string (strOf x), .bool true]) ∧ RdB g A n c (k + x.length + sep.length) w' ∧ w.grownBy w' (some g) := by
  have hfit := hp.fits
  simp only at hfit
  have hnil := hp.nil
  simp only at hnil
  have hcl := cut_len hc
  rw [List.length_drop, hn] at hcl
  have hct := (cut_take hc).1
  obtain ⟨A1, h1, h2, h3, h4⟩ := slice_lo A n c k hk (by omega) hnil
  obtain ⟨A2, k1, k2, k3⟩ := slice_any A n c k (k + x.length) (by omega) (by omega) (by omega) hnil
  have HR := hideIt (rest_any g A A1 n c k (n - k) (c - k) w h h1)
  have HP := hideIt (piece_of A1 bs n c k w A hp hn hk h2 h4)
  have HI : Hid (cutI sep (bs.drop k) = (x.length : Int)) := hideIt (by unfold cutI; rw [hc])
  have HM := hideIt hm
  have HD := hideIt h
  have HPB := hideIt hp
  have HA := hideIt ha
  have hdl : (bs.drop k).length = n - k := by rw [List.length_drop, hn]
  have hml : n - k ≤ 1000000 := by omega
  have hk2 : ∀ w B, BytesAt w B A bs → BytesAt w B A2 x := fun w B hb => by
    have := k2 w B bs hn hb
    rwa [show k + x.length - k = x.length by omega, hct] at this
  have HK2 := hideIt hk2
  have HSZ := hideIt (strOf_size sep)
  have hw1 : IntKind.i64.wrap ((x.length : Int) + (sep.length : Int)) = ((x.length + sep.length : Nat) : Int) := by rw [← Int.natCast_add]; exact IntWalk.i64_in _ (by omega)
  have hw2 : IntKind.i64.wrap ((k : Int) + ((x.length + sep.length : Nat) : Int)) = ((k + x.length + sep.length : Nat) : Int) := by rw [← Int.natCast_add, ← Nat.add_assoc]; exact IntWalk.i64_in _ (by omega)
  have hw3 : IntKind.i64.wrap ((k : Int) + (x.length : Int)) = ((k + x.length : Nat) : Int) := by rw [← Int.natCast_add]; exact IntWalk.i64_in _ (by omega)
  have hx0 : (0 : Int) ≤ (x.length : Int) := by omega
  have hxl : x.length = k + x.length - k := by omega
  clear h hp hm hc ha h1 h2 h3 h4 hnil hfit hn hcl hct k2 k3 hk2
  generalize bs.drop k = rest at *
  generalize n - k = m1 at *
  generalize c - k = c1 at *
  generalize k + x.length - k = m2 at *
  generalize k + x.length + sep.length = k9 at *
  generalize k + x.length = k8 at *
  generalize x.length + sep.length = x9 at *
  go_enter Tryd.func40, Tryd.ntmps40
  go_wp2_with fail
  refine HR.out.mono ?_
  rintro e u1 ⟨rfl, hb⟩
  obtain ⟨d, u2, hcv, hq, hb2⟩ := conv_str u1 sep (by omega)
  have B2 := hideIt (below_then hb hb2)
  have HIX := hideIt (index_any A1 rest m1 c1 u1.heap.size d sep sep.length u2 (HP.out.keep B2.out) hdl (by omega) hq rfl h0 (HM.out.keep B2.out))
  rw [HI.out] at HIX
  clear hb hb2 HR hq hdl HP HI
  go_wp2_with fail
  refine HIX.out.mono ?_
  rintro e u3 ⟨rfl, hb3⟩
  have B3 := hideIt (below_then B2.out hb3)
  have R3 := HD.out.keep B3.out
  have c0 := R3.c0
  have c1' := R3.c1
  have fz := R3.fz 1
  have RS := hideIt (R3.step k9)
  have G3 := hideIt (grown_then (grown_below B3.out (some g)) (grown_cellB u3 g 1 (.int .i64 (k9 : Int))))
  have hsz := HSZ.out
  have hcv2 : (convert 22 9 (.slice A2 m2 c1)).run Tryd.prog (u3.setCell ⟨g, 1, none⟩ (.int .i64 (k9 : Int))) = .ok (.string (strOf x)) (u3.setCell ⟨g, 1, none⟩ (.int .i64 (k9 : Int))) :=
    conv_bytes A2 x m2 c1 _ _ (HK2.out _ _ (HPB.out.grown G3.out HA.out).bytes) hxl
  clear hb3 HIX hcv R3 B2 B3 HM HD HPB HA HK2 hxl
  generalize (x.length : Int) = xi at *
  go_wp2_with fail
  go_ret2
  exact ⟨rfl, RS.out, G3.out⟩
theorem go_until : goFn Tryd.prog 40 = true := by kernel_rfl
end Go.Proofs.YtbojigimldfghaaDoor
