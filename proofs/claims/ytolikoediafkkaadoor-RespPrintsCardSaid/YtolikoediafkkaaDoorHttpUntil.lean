/- The library's variable that bytes.Index reads: its cell holds some number. And what was MaxLen, HttpRead, HttpIndex. -/
import Derived.Test.YtolikoediafkkaaDoorStrFacts
import Derived.Laws.ResultCell
import Derived.Test.YtolikoediafkkaaDoorHttpPlain
import Derived.Shelf.Bytes.SlIndexWhole
import Derived.Test.YtolikoediafkkaaDoorStrBytes
import Derived.Test.YtolikoediafkkaaDoorCmp
namespace Go.Proofs.YtolikoediafkkaaDoor
open Go.ChangeShapes Go.WideShapes Go.ChangeAt Go.RowKit
set_option linter.unusedVariables false

def MaxOk (w : World) : Prop := ∃ m, w.cell? ⟨1, 0, none⟩ = some (.int .i64 m)
theorem MaxOk.lt {w : World} (h : MaxOk w) : 1 < w.heap.size := by
  obtain ⟨m, hm⟩ := h
  exact cell_lt hm
theorem MaxOk.keep {w w' : World} (h : MaxOk w) (hb : Below w.heap.size w w') : MaxOk w' := by
  have hlt := h.lt
  obtain ⟨m, hm⟩ := h
  exact ⟨m, (hb.cell (p := ⟨1, 0, none⟩) hlt).trans hm⟩
/-- while one block alone changes that is younger than some world in which it held -/
theorem MaxOk.grown {w w' : World} {g : Nat} (h : MaxOk w) (hb : w.grownBy w' (some g)) (hg : g ≠ 1) : MaxOk w' := by
  have hlt := h.lt
  obtain ⟨m, hm⟩ := h
  exact ⟨m, (World.cell?_of_block (w := w) (hb.block 1 hlt (fun e => hg (Option.some.inj e).symm))).trans hm⟩
end Go.Proofs.YtolikoediafkkaaDoor

/- Contracts of the methods of http.reader that call nothing: next, rest. -/
namespace Go.Proofs.YtolikoediafkkaaDoor
open Go.ChangeShapes Go.WideShapes Go.ChangeAt Go.RowKit
set_option linter.unusedVariables false
set_option linter.unusedSimpArgs false

/-- a reader, in block g, of the slice A n c: k of its bytes are read -/
def RdB (g : Nat) (A : Option Addr) (n c k : Nat) (w : World) : Prop := w.heap[g]? = some (.cells #[.slice A n c, .int .i64 (k : Int)] 91 (0, 0))
theorem RdB.lt {g : Nat} {A : Option Addr} {n c k : Nat} {w : World} (h : RdB g A n c k w) : g < w.heap.size := (Array.getElem?_eq_some_iff.1 h).1
theorem RdB.c0 {g : Nat} {A : Option Addr} {n c k : Nat} {w : World} (h : RdB g A n c k w) : w.cell? ⟨g, 0, none⟩ = some (.slice A n c) := by rw [cell_of_row w _ _ _ _ _ h]; rfl
theorem RdB.c1 {g : Nat} {A : Option Addr} {n c k : Nat} {w : World} (h : RdB g A n c k w) : w.cell? ⟨g, 1, none⟩ = some (.int .i64 (k : Int)) := by rw [cell_of_row w _ _ _ _ _ h]; rfl
theorem RdB.fz {g : Nat} {A : Option Addr} {n c k : Nat} {w : World} (h : RdB g A n c k w) (i : Nat) : w.frozen? ⟨g, i, none⟩ = false := by unfold RdB at h; simp [World.frozen?, h]
theorem RdB.step {g : Nat} {A : Option Addr} {n c k : Nat} {w : World} (h : RdB g A n c k w) (j : Nat) : RdB g A n c j (w.setCell ⟨g, 1, none⟩ (.int .i64 (j : Int))) := by
  have hlt := h.lt
  unfold RdB at h ⊢
  have h' : w.heap[g] = .cells #[.slice A n c, .int .i64 (k : Int)] 91 (0, 0) := (Array.getElem?_eq_some_iff.1 h).2
  rw [Array.getElem?_eq_some_iff]
  refine ⟨by simpa [World.setCell] using hlt, ?_⟩
  simp only [World.setCell]
  rw [Array.getElem_modify, if_pos rfl, h']
  rfl
theorem RdB.keep {g : Nat} {A : Option Addr} {n c k : Nat} {w w' : World} (h : RdB g A n c k w) (hb : Below w.heap.size w w') : RdB g A n c k w' := (hb.block g h.lt).trans h
theorem RdB.new (w : World) (A : Option Addr) (n c : Nat) : RdB w.heap.size A n c 0 (w.alloc (.cells #[.slice A n c, .int .i64 0] 91)) := heap_alloc_new w _
theorem heap_setCell_past (w : World) (g i k : Nat) (v : Value) (h : k ≠ g) : (w.setCell ⟨g, i, none⟩ v).heap[k]? = w.heap[k]? := by
  simp only [World.setCell]
  rw [Array.getElem?_modify, if_neg (fun e => h e.symm)]
theorem grown_cellB (w : World) (g i : Nat) (v : Value) : w.grownBy (w.setCell ⟨g, i, none⟩ v) (some g) :=
  ⟨rfl, rfl, rfl, by simp [World.setCell], fun k hk hne => heap_setCell_past _ _ _ _ _ (by simpa using hne)⟩
theorem grown_reflB (w : World) (r : Option Nat) : w.grownBy w r := ⟨rfl, rfl, rfl, Nat.le_refl _, fun _ _ _ => rfl⟩
theorem PieceOk.grown {w w' : World} {p : Piece} {g : Nat} (h : PieceOk w p) (hb : w.grownBy w' (some g)) (ha : Apart p.A p.bs g) : PieceOk w' p :=
  ⟨h.bytes.grown hb ha, h.fits, h.most, h.long, h.nil⟩
/-- a piece that lay ahead of a block is apart from it -/
theorem PieceOk.apart {w : World} {p : Piece} (h : PieceOk w p) {g : Nat} (hg : w.heap.size ≤ g) : Apart p.A p.bs g := fun hn ad he => by
  obtain ⟨b, off, e, hlt, _⟩ := h.bytes hn
  rw [e] at he
  cases he
  show b ≠ g
  omega
set_option maxHeartbeats 1000000 in
theorem rest_any (g : Nat) (A A1 : Option Addr) (n c k m1 c1 : Nat) (w : World) (h : RdB g A n c k w) (hs : ∀ w', (Instr.slice 23 (.slice A n c) (some (.int .i64 (k : Int))) none none).run Tryd.prog w' = .ok (.slice A1 m1 c1) w') :
    Calls Tryd.prog 65 #[.pointer (some ⟨g, 0, none⟩)] w fun e w' => e = .returned (.slice A1 m1 c1) ∧ Below w.heap.size w w' := by
  have c0 := h.c0
  have c1 := h.c1
  clear h
  go_enter Tryd.func65, Tryd.ntmps65
  go_wp2
  go_region
  go_wp2
  go_ret
  exact ⟨rfl, (Below.refl _ _).drew⟩
theorem go_rest : goFn Tryd.prog 65 = true := by kernel_rfl
end Go.Proofs.YtolikoediafkkaaDoor

/- Contract of bytes.Index (the library's own, laid at this program), in the words of cutS. -/
namespace Go.Proofs.YtolikoediafkkaaDoor
open Go.ChangeShapes Go.WideShapes Go.ChangeAt Go.RowKit Go.Shelf
set_option linter.unusedVariables false
set_option linter.unusedSimpArgs false

def renI : Go.Shelf.Ren := ⟨fun | 115 => 32 | 185 => 64 | 187 => 75 | 224 => 77 | 253 => 76 | 254 => 78 | 255 => 84 | 291 => 85 | n => n, fun | 0 => 0 | 3 => 3 | 4 => 4 | 5 => 5 | 9 => 9 | 37 => 23 | 46 => 114 | 51 => 111 | 146 => 122 | n => n, fun | 1 => 1 | n => n⟩
theorem laysI : Go.Proofs.Lays.n185 Tryd.prog renI := {
  mixed := by kernel_rfl
  f115 := Tryd.func32.trans (congrArg some (by kernel_rfl))
  f185 := Tryd.func64.trans (congrArg some (by kernel_rfl))
  f187 := Tryd.func75.trans (congrArg some (by kernel_rfl))
  f224 := Tryd.func77.trans (congrArg some (by kernel_rfl))
  f253 := Tryd.func76.trans (congrArg some (by kernel_rfl))
  f254 := Tryd.func78.trans (congrArg some (by kernel_rfl))
  f255 := Tryd.func84.trans (congrArg some (by kernel_rfl))
  f291 := Tryd.func85.trans (congrArg some (by kernel_rfl))
  t0 := Tryd.underlying0
  a0 := Tryd.isAgg0
  z0 := Tryd.sizeOf0
  v0 := Tryd.zeroValue0
  t3 := Tryd.underlying3
  a3 := Tryd.isAgg3
  z3 := Tryd.sizeOf3
  v3 := Tryd.zeroValue3
  t4 := Tryd.underlying4
  a4 := Tryd.isAgg4
  z4 := Tryd.sizeOf4
  v4 := Tryd.zeroValue4
  t5 := Tryd.underlying5
  a5 := Tryd.isAgg5
  z5 := Tryd.sizeOf5
  v5 := Tryd.zeroValue5
  t9 := Tryd.underlying9
  a9 := Tryd.isAgg9
  z9 := Tryd.sizeOf9
  v9 := Tryd.zeroValue9
  t37 := Tryd.underlying23
  a37 := Tryd.isAgg23
  z37 := Tryd.sizeOf23
  v37 := Tryd.zeroValue23
  t46 := Tryd.underlying114
  a46 := Tryd.isAgg114
  z46 := Tryd.sizeOf114
  v46 := Tryd.zeroValue114
  t51 := Tryd.underlying111
  a51 := Tryd.isAgg111
  z51 := Tryd.sizeOf111
  v51 := Tryd.zeroValue111
  t146 := Tryd.underlying122
  a146 := Tryd.isAgg122
  z146 := Tryd.sizeOf122
  v146 := Tryd.zeroValue122
  g1 := by kernel_rfl }
theorem libBytes_is (bs : List UInt8) : Lib.bytesOf (bs.map fun b => (b.toNat : Int)) = bs := by
  unfold Lib.bytesOf
  rw [List.map_map]
  conv => rhs; rw [← List.map_id bs]
  refine List.map_congr_left fun b _ => ?_
  simp
/-- where the first such end begins; -1: nowhere -/
def cutI (sep l : List UInt8) : Int := match cutS sep l with | none => -1 | some x => (x.1.length : Int)
theorem nums_range (bs : List UInt8) : ∀ x ∈ bs.map (fun b => (b.toNat : Int)), 0 ≤ x ∧ x < 256 := by
  intro x hx
  obtain ⟨b, _, rfl⟩ := List.mem_map.1 hx
  have := b.toNat_lt
  omega
theorem piece_cells {w : World} {A : Option Addr} {bs : List UInt8} {c : Nat} (hp : PieceOk w ⟨A, c, bs⟩) (a : Addr) (ha : A = some a) : ∀ i, i < bs.length → w.cell? (a.add i) = some (.int .u8 ((bs.map fun b => (b.toNat : Int)).getD i 0)) := fun i hi => by
  obtain ⟨b, off, e, _, hc⟩ := hp.bytes (show 0 < bs.length by omega)
  simp only at e
  rw [ha] at e
  cases e
  rw [Go.WideShapes.add_plain, hc i hi]
  simp [List.getD, hi]
theorem index_any (A : Option Addr) (bs : List UInt8) (n c : Nat) (g d : Nat) (sep : List UInt8) (k : Nat) (w : World) (hp : PieceOk w ⟨A, c, bs⟩) (hn : bs.length = n) (hl : n ≤ 1000000000) (hq : PieceOk w ⟨some ⟨g, 0, none⟩, d, sep⟩) (hk : sep.length = k) (h0 : 0 < k) (hm : MaxOk w) :
    Calls Tryd.prog 64 #[.slice A n c, .slice (some ⟨g, 0, none⟩) k d] w fun e w' => e = .returned (.int .i64 (cutI sep bs)) ∧ Below w.heap.size w w' := by
  subst hn hk
  obtain ⟨m, hmm⟩ := hm
  have hs : sep ≠ [] := fun e => by subst e; simp at h0
  have hix : Lib.index bs sep = cutI sep bs := cut_index sep hs bs
  have hfit := hp.fits
  have hlq := hq.long
  simp only at hfit hlq
  cases A with
  | some a =>
    have := Any.bytes_Index_at laysI a ⟨g, 0, none⟩ bs.length c sep.length d (bs.map fun b => (b.toNat : Int)) (sep.map fun b => (b.toNat : Int)) m w (by simp) (by simp) (nums_range bs) (nums_range sep) (piece_cells hp a rfl) (piece_cells hq _ rfl) hfit (by omega) (by omega) hmm
    rw [libBytes_is, libBytes_is, hix] at this
    refine this.mono ?_
    rintro e w' ⟨rfl, q, rfl⟩
    exact ⟨rfl, ⟨rfl, rfl, rfl, Nat.le_refl _, fun _ _ => rfl⟩⟩
  | none =>
    have hc0 := hp.nil rfl
    simp only at hc0
    have hb : bs = [] := List.eq_nil_of_length_eq_zero (by omega)
    subst hb
    subst hc0
    have := Any.bytes_Index_nil laysI (some ⟨g, 0, none⟩) sep.length d w (by omega) (fun h1 => ⟨g, 0, ((sep[0]).toNat : Int), rfl, by
      have := piece_cells hq _ rfl 0 (by omega)
      simpa [Addr.add, List.getD, h0] using this⟩)
    refine this.mono ?_
    rintro e w' ⟨rfl, rfl⟩
    refine ⟨?_, Below.refl _ _⟩
    rw [if_neg (by omega)]
    rfl
theorem go_index : goFn Tryd.prog 64 = true := by kernel_rfl
end Go.Proofs.YtolikoediafkkaaDoor

/- Contract of http.reader's until. -/
namespace Go.Proofs.YtolikoediafkkaaDoor
open Go.ChangeShapes Go.WideShapes Go.ChangeAt Go.RowKit
set_option linter.unusedVariables false
set_option linter.unusedSimpArgs false

theorem piece_of (A1 : Option Addr) (bs : List UInt8) (n c k : Nat) (w : World) (A : Option Addr) (hp : PieceOk w ⟨A, c, bs⟩) (hn : bs.length = n) (hk : k ≤ n) (h2 : ∀ w B bs, bs.length = n → BytesAt w B A bs → BytesAt w B A1 (bs.drop k)) (h4 : A1 = none → c - k = 0) : PieceOk w ⟨A1, c - k, bs.drop k⟩ := by
  have h := hp.fits
  have h' := hp.most
  have h'' := hp.long
  simp only at h h' h''
  exact ⟨h2 w _ bs hn hp.bytes, by rw [List.length_drop]; show bs.length - k ≤ c - k; omega, by show c - k ≤ _; omega, by rw [List.length_drop]; show bs.length - k ≤ _; omega, fun hh => h4 hh⟩
set_option maxRecDepth 8000 in
set_option maxHeartbeats 2000000 in
theorem until_none (g : Nat) (A : Option Addr) (bs : List UInt8) (n c k : Nat) (sep : List UInt8) (w : World) (h : RdB g A n c k w) (hp : PieceOk w ⟨A, c, bs⟩) (hn : bs.length = n) (hk : k ≤ n) (hl : n ≤ 1000000) (h0 : 0 < sep.length) (hs : sep.length ≤ 100) (hm : MaxOk w) (hc : cutS sep (bs.drop k) = none) :
    Calls Tryd.prog 54 #[.pointer (some ⟨g, 0, none⟩), .string (strOf sep)] w fun e w' => e = .returned (.tuple #[.string ⟨#[]⟩, .bool false]) ∧ Below w.heap.size w w' := by
  have hfit := hp.fits
  simp only at hfit
  have hnil := hp.nil
  simp only at hnil
  obtain ⟨A1, h1, h2, h3, h4⟩ := slice_lo A n c k hk (by omega) hnil
  have HR := hideIt (rest_any g A A1 n c k (n - k) (c - k) w h h1)
  have HP := hideIt (piece_of A1 bs n c k w A hp hn hk h2 h4)
  have HI : Hid (cutI sep (bs.drop k) = -1) := hideIt (by unfold cutI; rw [hc])
  have HM := hideIt hm
  have hdl : (bs.drop k).length = n - k := by rw [List.length_drop, hn]
  have hml : n - k ≤ 1000000 := by omega
  clear h hp hm hc h1 h2 h3 h4 hnil hfit hn
  generalize bs.drop k = rest at *
  generalize n - k = m1 at *
  generalize c - k = c1 at *
  go_enter Tryd.func54, Tryd.ntmps54
  go_wp2_with fail
  refine HR.out.mono ?_
  rintro e u1 ⟨rfl, hb⟩
  obtain ⟨d, u2, hcv, hq, hb2⟩ := conv_str u1 sep (by omega)
  have B2 := hideIt (below_then hb hb2)
  have HIX := hideIt (index_any A1 rest m1 c1 u1.heap.size d sep sep.length u2 (HP.out.keep B2.out) hdl (by omega) hq rfl h0 (HM.out.keep B2.out))
  rw [HI.out] at HIX
  clear hb hb2 HR hq hdl
  go_wp2_with fail
  refine HIX.out.mono ?_
  rintro e u3 ⟨rfl, hb3⟩
  have B3 := hideIt (below_then B2.out hb3)
  clear hb3 HIX hcv
  go_wp2_with fail
  go_ret2
  exact ⟨rfl, B3.out⟩
set_option maxRecDepth 8000 in
set_option maxHeartbeats 2000000 in
theorem until_some (g : Nat) (A : Option Addr) (bs : List UInt8) (n c k : Nat) (sep x r : List UInt8) (w : World) (h : RdB g A n c k w) (hp : PieceOk w ⟨A, c, bs⟩) (hn : bs.length = n) (hk : k ≤ n) (hl : n ≤ 1000000) (h0 : 0 < sep.length) (hs : sep.length ≤ 100) (hm : MaxOk w) (ha : Apart A bs g) (hc : cutS sep (bs.drop k) = some (x, r)) :
    Calls Tryd.prog 54 #[.pointer (some ⟨g, 0, none⟩), .string (strOf sep)] w fun e w' => e = .returned (.tuple #[.string (strOf x), .bool true]) ∧ RdB g A n c (k + x.length + sep.length) w' ∧ w.grownBy w' (some g) := by
  have hfit := hp.fits
  simp only at hfit
  have hnil := hp.nil
  simp only at hnil
  have hcl := cut_len hc
  rw [List.length_drop, hn] at hcl
  have hct := (cut_take hc).1
  obtain ⟨A1, h1, h2, h3, h4⟩ := slice_lo A n c k hk (by omega) hnil
  obtain ⟨A2, k1, k2, k3⟩ := slice_any A n c k (k + x.length) (by omega) (by omega) (by omega) hnil
  have HR := hideIt (rest_any g A A1 n c k (n - k) (c - k) w h h1)
  have HP := hideIt (piece_of A1 bs n c k w A hp hn hk h2 h4)
  have HI : Hid (cutI sep (bs.drop k) = (x.length : Int)) := hideIt (by unfold cutI; rw [hc])
  have HM := hideIt hm
  have HD := hideIt h
  have HPB := hideIt hp
  have HA := hideIt ha
  have hdl : (bs.drop k).length = n - k := by rw [List.length_drop, hn]
  have hml : n - k ≤ 1000000 := by omega
  have hk2 : ∀ w B, BytesAt w B A bs → BytesAt w B A2 x := fun w B hb => by
    have := k2 w B bs hn hb
    rwa [show k + x.length - k = x.length by omega, hct] at this
  have HK2 := hideIt hk2
  have HSZ := hideIt (strOf_size sep)
  have hw1 : IntKind.i64.wrap ((x.length : Int) + (sep.length : Int)) = ((x.length + sep.length : Nat) : Int) := by rw [← Int.natCast_add]; exact IntWalk.i64_in _ (by omega)
  have hw2 : IntKind.i64.wrap ((k : Int) + ((x.length + sep.length : Nat) : Int)) = ((k + x.length + sep.length : Nat) : Int) := by rw [← Int.natCast_add, ← Nat.add_assoc]; exact IntWalk.i64_in _ (by omega)
  have hw3 : IntKind.i64.wrap ((k : Int) + (x.length : Int)) = ((k + x.length : Nat) : Int) := by rw [← Int.natCast_add]; exact IntWalk.i64_in _ (by omega)
  have hx0 : (0 : Int) ≤ (x.length : Int) := by omega
  have hxl : x.length = k + x.length - k := by omega
  clear h hp hm hc ha h1 h2 h3 h4 hnil hfit hn hcl hct k2 k3 hk2
  generalize bs.drop k = rest at *
  generalize n - k = m1 at *
  generalize c - k = c1 at *
  generalize k + x.length - k = m2 at *
  generalize k + x.length + sep.length = k9 at *
  generalize k + x.length = k8 at *
  generalize x.length + sep.length = x9 at *
  go_enter Tryd.func54, Tryd.ntmps54
  go_wp2_with fail
  refine HR.out.mono ?_
  rintro e u1 ⟨rfl, hb⟩
  obtain ⟨d, u2, hcv, hq, hb2⟩ := conv_str u1 sep (by omega)
  have B2 := hideIt (below_then hb hb2)
  have HIX := hideIt (index_any A1 rest m1 c1 u1.heap.size d sep sep.length u2 (HP.out.keep B2.out) hdl (by omega) hq rfl h0 (HM.out.keep B2.out))
  rw [HI.out] at HIX
  clear hb hb2 HR hq hdl HP HI
  go_wp2_with fail
  refine HIX.out.mono ?_
  rintro e u3 ⟨rfl, hb3⟩
  have B3 := hideIt (below_then B2.out hb3)
  have R3 := HD.out.keep B3.out
  have c0 := R3.c0
  have c1' := R3.c1
  have fz := R3.fz 1
  have RS := hideIt (R3.step k9)
  have G3 := hideIt (grown_then (grown_below B3.out (some g)) (grown_cellB u3 g 1 (.int .i64 (k9 : Int))))
  have hsz := HSZ.out
  have hcv2 : (convert 23 9 (.slice A2 m2 c1)).run Tryd.prog (u3.setCell ⟨g, 1, none⟩ (.int .i64 (k9 : Int))) = .ok (.string (strOf x)) (u3.setCell ⟨g, 1, none⟩ (.int .i64 (k9 : Int))) :=
    conv_bytes A2 x m2 c1 _ _ (HK2.out _ _ (HPB.out.grown G3.out HA.out).bytes) hxl
  clear hb3 HIX hcv R3 B2 B3 HM HD HPB HA HK2 hxl
  generalize (x.length : Int) = xi at *
  go_wp2_with fail
  go_ret2
  exact ⟨rfl, RS.out, G3.out⟩
theorem go_until : goFn Tryd.prog 54 = true := by kernel_rfl
end Go.Proofs.YtolikoediafkkaaDoor
