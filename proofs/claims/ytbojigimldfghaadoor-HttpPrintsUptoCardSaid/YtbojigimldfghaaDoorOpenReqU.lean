/- A Request as an argument, in the second form: what its reading gives, and how much there is. -/
import Derived.Test.YtbojigimldfghaaDoorOpenPairs
import Derived.Test.YtbojigimldfghaaDoorReqMem
import Derived.Test.YtbojigimldfghaaDoorHttpHeavy
import Derived.Test.YtbojigimldfghaaDoorRows
namespace Go.Proofs.YtbojigimldfghaaDoor
open Go.ChangeShapes Go.WideShapes Go.ChangeAt Go.RowKit
set_option linter.unusedVariables false

/-- a pair's reading -/
def pairD {H : Type} (x : PairL) : DataW H := .agg [.lit (.string x.1), .lit (.string x.2)]
theorem bulkQ_upto {H : Type} (ps : List PairL) : bulkQ ps ≤ Rows.uptoBulkAll (ps.map (pairD (H := H))) := by
  induction ps with
  | nil => simp [bulkQ]
  | cons x r ih =>
    rw [show bulkQ (x :: r) = (1 + x.1.length + x.2.length) + bulkQ r by simp [bulkQ], List.map_cons]
    simp only [Rows.uptoBulkAll, pairD, Rows.uptoBulk]
    omega
theorem lits_upto {H : Type} (k : IntKind) (l : List Int) : l.length ≤ Rows.uptoBulkAll (lits (H := H) k l) := by
  induction l with
  | nil => simp
  | cons x r ih =>
    rw [show lits (H := H) k (x :: r) = .lit (.int k x) :: lits k r by simp [lits]]
    simp only [Rows.uptoBulkAll, Rows.uptoBulk, List.length_cons]
    omega
set_option maxRecDepth 100000 in
theorem okWide_req {w : World} {r : Reach} {base : Nat} {v : Value} (h : Value.okWide Tryd.prog w r base 33 v) : ∃ cs, v = .agg cs := by
  obtain ⟨cs, h1, _⟩ := okWide_struct Tryd.underlying33 h
  exact ⟨cs, h1⟩
section
variable {H : Type} {enc : TypeId × Value → H} {w : World} {base : Nat} {spare : Nat → Bool} {held : Bool} {fuel : Nat}
theorem pairs_openW {u : Value} {d : DataW H} {pl : List MemPlace} (h : DataW.trod enc Tryd.prog w base spare held fuel 31 [u] = some (d, pl)) : ∃ ps, PairsV u ps w ∧ bulkQ ps ≤ Rows.uptoBulk d := by
  rcases DataW.trod_slice Tryd.underlying31 h with ⟨hcs, _⟩ | ⟨ad, l, c, elems, rest, n, _, hcs, hx, _, hl, hm, hlen, hel, _, _⟩
  · simp at hcs
    subst hcs
    exact ⟨[], ⟨none, 0, rfl, by simp, by omega, fun _ => rfl, fun hn => by simp at hn⟩, by simp [bulkQ]⟩
  · simp at hcs
    subst hcs
    have hd : d = .slice (elems.map (·.1)) (rest.map (·.1)) := congrArg Prod.fst hx
    subst hd
    have hc2 : Tryd.prog.cellsOf 40 = 2 := by kernel_rfl
    have hc1 : Tryd.prog.cellsOf 9 = 1 := by kernel_rfl
    rw [hc2] at hel
    obtain ⟨ps, h1, h2⟩ := list_ofP (fun i (x : PairL) => w.cell? (ad.add (i * 2)) = some (.string (strOf x.1)) ∧ w.cell? ((ad.add (i * 2)).add 1) = some (.string (strOf x.2)) ∧ (elems[i]?).map (·.1) = some (pairD x)) elems.length (fun i hi => by
      have hE := hel i (by omega)
      rw [List.getElem?_eq_getElem hi, Option.bind_eq_some_iff] at hE
      obtain ⟨cs, hcs, hy⟩ := hE
      obtain ⟨_, hcl, hcc⟩ := World.cells?_some hcs
      match cs, hcl with
      | [u0, u1], _ =>
        obtain ⟨y0, y1, m, hyy, _, hy0, hy1⟩ := trod_struct2 Tryd.underlying40 hy
        obtain ⟨s0, e0, f0, _⟩ := DataW.trod_string Tryd.underlying9 hy0
        obtain ⟨s1, e1, f1, _⟩ := DataW.trod_string Tryd.underlying9 hy1
        simp [hc1] at e0 e1
        subst e0 e1
        have k0 := hcc 0 (by omega)
        have k1 := hcc 1 (by omega)
        refine ⟨(s0.data.toList, s1.data.toList), ?_, ?_, ?_⟩
        · rw [strOf_data]; simpa [Addr.add] using k0
        · rw [strOf_data]; simpa using k1
        · rw [List.getElem?_eq_getElem hi, Option.map_some, hyy, f0, f1]; rfl)
    have hel2 : elems.map (·.1) = ps.map pairD := by
      apply List.ext_getElem?
      intro i
      rw [List.getElem?_map, List.getElem?_map]
      rcases Nat.lt_or_ge i ps.length with hi | hi
      · have := (h2 i _ (List.getElem?_eq_getElem hi)).2.2
        rw [this, List.getElem?_eq_getElem hi]; rfl
      · rw [List.getElem?_eq_none (by omega), List.getElem?_eq_none hi]; rfl
    refine ⟨ps, ⟨some ad, c, by rw [h1, hlen], by omega, by unfold maxLen at hm; omega, (fun hh => by cases hh), fun hn => ?_⟩, ?_⟩
    · obtain ⟨b, off, spot⟩ := ad
      have h00 := (h2 0 _ (List.getElem?_eq_getElem hn)).1
      have hspot : spot = none := by simpa [Addr.add] using World.cell?_spot h00
      subst hspot
      rw [Go.WideShapes.add_plain] at h00
      refine ⟨b, off, rfl, cell_ltP h00, fun i x hx => ?_⟩
      obtain ⟨k0, k1, _⟩ := h2 i x hx
      rw [Go.WideShapes.add_plain] at k0 k1
      rw [Go.WideShapes.add_plain] at k1
      rw [show off + 2 * i = off + i * 2 by omega]
      exact ⟨k0, k1⟩
    · rw [hel2]
      have := bulkQ_upto (H := H) ps
      simp only [Rows.uptoBulk]
      omega
theorem bytes_openW {u : Value} {d : DataW H} {pl : List MemPlace} (h : DataW.trod enc Tryd.prog w base (fun _ => true) held fuel 22 [u] = some (d, pl)) : ∃ A c bs, u = .slice A (bs : List UInt8).length c ∧ bs.length ≤ Rows.uptoBulk d ∧ (bs.length ≤ 1048576 → PieceOk w ⟨A, c, bs⟩) := by
  have key : ∃ a len cap zs, u = .slice a len cap ∧ IsRow .u8 w a len cap zs ∧ len ≤ Rows.uptoBulk d := by
    rcases open_ints Tryd.underlying22 Tryd.underlying5 (by kernel_rfl) h with ⟨hcs, _⟩ | ⟨x, l, c, zs, hcs, _, hl, hm, hz, hd, hcell, hwz⟩
    · simp at hcs
      exact ⟨none, 0, 0, [], hcs, .inl ⟨rfl, rfl, rfl, rfl⟩, Nat.zero_le _⟩
    · simp at hcs
      have hz' : zs.length = c := by simpa using hz
      have hd1 : d = .slice (lits .u8 (zs.take l)) (lits .u8 (zs.drop l)) := congrArg Prod.fst hd
      refine ⟨_, _, _, zs, hcs, .inr ⟨_, rfl, hl, hm, hz', hcell, hwz⟩, ?_⟩
      have := lits_upto (H := H) .u8 (zs.take l)
      rw [List.length_take] at this
      rw [hd1]
      simp only [Rows.uptoBulk]
      omega
  obtain ⟨a, len, cap, zs, rfl, hr, hb⟩ := key
  obtain ⟨bs, h1, h2, h3, h4, h5⟩ := hr.bytes
  subst h1
  have h3' : cap ≤ 9223372036854775807 := h3
  exact ⟨a, cap, bs, rfl, hb, fun hs => ⟨h5, by simp only; omega, h3', by simp only; omega, h4⟩⟩
set_option maxRecDepth 100000 in
theorem req_openU {cs : List Value} {d : DataW H} {pl : List MemPlace} (h : DataW.trod enc Tryd.prog w base (fun _ => true) held fuel 33 cs = some (d, pl)) :
    ∃ (x : ReqL) (f : Value) (a : Option Addr) (c : Nat), (sizeQ x ≤ 1048576 → ReqParts f a c x w) ∧ sizeQ x ≤ Rows.uptoBulk d ∧ cs = [.string (strOf x.m), .string (strOf x.p), f, .slice a x.body.length c] := by
  have hc4 : Tryd.prog.cellsOf 33 = 4 := by kernel_rfl
  have hc1 : Tryd.prog.cellsOf 9 = 1 := by kernel_rfl
  have hcp : Tryd.prog.cellsOf 31 = 1 := by kernel_rfl
  have hcb : Tryd.prog.cellsOf 22 = 1 := by kernel_rfl
  obtain ⟨xs, n, _, hx, hl, hlen, hf⟩ := DataW.trod_struct Tryd.underlying33 h
  rw [hc4] at hl
  match cs, hl, xs, hlen with
  | [u0, u1, u2, u3], _, [y0, y1, y2, y3], _ =>
    have hy0 := hf 0 _ rfl
    have hy1 := hf 1 _ rfl
    have hy2 := hf 2 _ rfl
    have hy3 := hf 3 _ rfl
    simp [hc1, hcp, hcb] at hy0 hy1 hy2 hy3
    obtain ⟨s0, e0, f0, _⟩ := DataW.trod_string Tryd.underlying9 hy0
    obtain ⟨s1, e1, f1, _⟩ := DataW.trod_string Tryd.underlying9 hy1
    simp at e0 e1
    obtain ⟨ps, hps, hpb⟩ := pairs_openW hy2
    obtain ⟨A, c, bs, rfl, hbb, hbo⟩ := bytes_openW hy3
    subst e0 e1
    have hd : d = .agg [y0.1, y1.1, y2.1, y3.1] := by simpa using congrArg Prod.fst hx
    refine ⟨⟨s0.data.toList, s1.data.toList, ps, bs⟩, u2, A, c, fun hs => ⟨hps, hbo ?_⟩, ?_, by rw [strOf_data, strOf_data]⟩
    · unfold sizeQ at hs
      simp only at hs
      omega
    · rw [hd, f0, f1]
      unfold sizeQ
      simp only [Rows.uptoBulk, Rows.uptoBulkAll]
      omega
end
end Go.Proofs.YtbojigimldfghaaDoor
