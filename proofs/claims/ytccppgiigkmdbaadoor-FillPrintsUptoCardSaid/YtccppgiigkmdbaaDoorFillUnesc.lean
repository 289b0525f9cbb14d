/- Contract of fill.Unescape. -/
import Derived.Test.YtccppgiigkmdbaaDoorFillParts
namespace Go.Proofs.YtccppgiigkmdbaaDoor
open Go.ChangeShapes Go.WideShapes Go.ChangeAt Go.RowKit
set_option linter.unusedVariables false
set_option linter.unusedSimpArgs false

theorem bld_other {B b g : Nat} {l : List UInt8} {w w' : World} (h : Bld B b l w) (hg : g < B) (hk : w.grownBy w' (some g)) : Bld B b l w' := by
  have one : ∀ {p : Value}, Lib.BuilderAtF 59 5 B b p (cellsOf l) w → Lib.BuilderAtF 59 5 B b p (cellsOf l) w' := by
    rintro p ⟨hB, v, hb, hown, hne⟩
    refine ⟨hB, v, (hk.block b (Array.getElem?_eq_some_iff.1 hb).1 (by simp; omega)).trans hb, ⟨hown.1, ?_⟩, hne⟩
    rcases hown.2 with h0 | ⟨g', cap, cur, fz, hv, hBg, hc, hrest⟩
    · exact Or.inl h0
    · exact Or.inr ⟨g', cap, cur, fz, hv, hBg, (hk.block g' (Array.getElem?_eq_some_iff.1 hc).1 (by simp; omega)).trans hc, hrest⟩
  exact h.elim (fun x => .inl (one x)) (fun x => .inr (one x))
/-- how far a reader is -/
def rdPos (w : World) (g : Nat) : Nat := match w.cell? ⟨g, 1, none⟩ with
  | some (.int _ k) => k.toNat
  | _ => 0
theorem Rd.pos {g : Nat} {l : List UInt8} {k : Nat} {w : World} (h : Rd g l k w) : rdPos w g = k := by simp [rdPos, h.c1]
def boolN : Value → Nat
  | .bool true => 1
  | _ => 0
/-- a reader at the byte k + 1, and a builder behind it -/
structure RB (w : World) (l : List UInt8) (k : Nat) (acc : List UInt8) (wr : World) : Prop where
  rd : Rd w.heap.size l k wr
  bld : Bld (w.heap.size + 1) (w.heap.size + 1) acc wr
  below : Below w.heap.size w wr
theorem RB.size {w : World} {l : List UInt8} {k : Nat} {acc : List UInt8} {wr : World} (h : RB w l k acc wr) : w.heap.size + 1 ≤ wr.heap.size := h.rd.lt
theorem RB.wrote {w : World} {l : List UInt8} {k : Nat} {acc acc' : List UInt8} {wr w2 : World} (h : RB w l k acc wr) (hb : Bld (w.heap.size + 1) (w.heap.size + 1) acc' w2) (hl : Below (w.heap.size + 1) wr w2) : RB w l k acc' w2 :=
  ⟨h.rd.keep (hl.block _ (by omega)), hb, h.below.trans (hl.mono (by omega))⟩
theorem RB.moved {w : World} {l : List UInt8} {k j : Nat} {acc : List UInt8} {wr w2 : World} (h : RB w l k acc wr) (hr : Rd w.heap.size l j w2) (hg : wr.grownBy w2 (some w.heap.size)) : RB w l j acc w2 :=
  ⟨hr, bld_other h.bld (by omega) hg, h.below.grown hg (by have := h.below.size; omega) (by intro x hx; cases hx; omega)⟩
theorem RB.start (w : World) (l : List UInt8) : RB w l 0 [] ((w.alloc (.cells #[.string (strOf l), .int .i64 0] 56)).alloc (.cells #[.pointer none, .slice none 0 0] 59)) := by
  refine ⟨?_, ?_, below_one (below_one (Below.refl _ _) _) _⟩
  · exact (Below.heap_alloc _ _ _ (by simp)).trans (heap_alloc_new w _)
  · have := Lib.IsBuilderF.of (Lib.fresh_isBuilder 59 5 (w.alloc (.cells #[.string (strOf l), .int .i64 0] 56)))
    rw [alloc_size] at this
    exact this
/-- how Unescape stands -/
def UInv (w : World) (l : List UInt8) (k : Nat) (acc : List UInt8) (c m : Value) (wr : World) : Prop :=
  k ≤ l.length ∧ c = .int .u8 ((l.getD k 0).toNat : Int) ∧ m = .bool (decide (k < l.length)) ∧ RB w l (min (k + 1) l.length) acc wr ∧ unescL l = (unescL (l.drop k)).map (acc ++ ·) ∧ acc.length ≤ k
theorem unesc_done {l acc : List UInt8} {k : Nat} (hk : ¬ k < l.length) (h : unescL l = (unescL (l.drop k)).map (acc ++ ·)) : unescL l = some acc := by
  rw [List.drop_of_length_le (by omega), unesc_nil] at h
  simpa using h
theorem drop_at {l : List UInt8} {k : Nat} (h : k < l.length) : l.drop k = l.getD k 0 :: l.drop (k + 1) := by
  rw [List.drop_eq_getElem_cons h]; simp [List.getD, h]
theorem unesc_step {l acc : List UInt8} {k : Nat} {c : UInt8} (hk : k < l.length) (hc : l.getD k 0 = c) (h37 : c ≠ 37) (h : unescL l = (unescL (l.drop k)).map (acc ++ ·)) : unescL l = (unescL (l.drop (k + 1))).map ((acc ++ [if c = 43 then 32 else c]) ++ ·) := by
  rw [h, drop_at hk, hc, unesc_sign _ _ h37, Option.map_map]
  congr 1
  funext x
  simp
theorem unesc_stepP {l acc : List UInt8} {k x y : Nat} (hk : k < l.length) (hc : l.getD k 0 = 37) (hx : digAt l (k + 1) = some x) (hy : digAt l (k + 2) = some y) (h : unescL l = (unescL (l.drop k)).map (acc ++ ·)) : unescL l = (unescL (l.drop (k + 3))).map ((acc ++ [UInt8.ofNat (16 * x + y)]) ++ ·) := by
  have h1 : k + 1 < l.length := by
    rcases Nat.lt_or_ge (k + 1) l.length with h1 | h1
    · exact h1
    · rw [digAt_end l _ h1] at hx; cases hx
  have h2 : k + 2 < l.length := by
    rcases Nat.lt_or_ge (k + 2) l.length with h1 | h1
    · exact h1
    · rw [digAt_end l _ h1] at hy; cases hy
  rw [h, drop_at hk, hc, drop_at h1, drop_at h2, unesc_pct _ _ _ x y hx hy, Option.map_map]
  congr 1
  funext z
  simp
theorem unesc_stepN {l acc : List UInt8} {k : Nat} (hk : k < l.length) (hc : l.getD k 0 = 37) (hb : ((digAt l (k + 1)).isSome && (digAt l (min (k + 1 + 1) l.length)).isSome) = false) (h : unescL l = (unescL (l.drop k)).map (acc ++ ·)) : unescL l = none := by
  rw [h, drop_at hk, hc]
  suffices hs : unescL (37 :: l.drop (k + 1)) = none by rw [hs]; rfl
  by_cases h2 : k + 2 < l.length
  · have h1 : k + 1 < l.length := by omega
    rw [show min (k + 1 + 1) l.length = k + 2 by omega] at hb
    rw [drop_at h1, drop_at h2]
    cases e1 : digAt l (k + 1) with
    | none => exact unesc_bad1 _ _ _ e1
    | some x =>
      cases e2 : digAt l (k + 2) with
      | none => exact unesc_bad2 _ _ _ e2
      | some y => rw [e1, e2] at hb; cases hb
  · exact unesc_cut _ (by simp; omega)
theorem dig_both {l : List UInt8} {k : Nat} (hb : ((digAt l (k + 1)).isSome && (digAt l (min (k + 1 + 1) l.length)).isSome) = true) : ∃ x y, digAt l (k + 1) = some x ∧ digAt l (k + 2) = some y ∧ k + 2 < l.length ∧ min (k + 1 + 1) l.length = k + 2 := by
  rw [Bool.and_eq_true] at hb
  obtain ⟨x, hx⟩ := Option.isSome_iff_exists.1 hb.1
  obtain ⟨y, hy⟩ := Option.isSome_iff_exists.1 hb.2
  have h2 : k + 2 < l.length := by
    rcases Nat.lt_or_ge (k + 1 + 1) l.length with h | h
    · omega
    · rw [show min (k + 1 + 1) l.length = l.length by omega, digAt_end l _ (Nat.le_refl _)] at hy; cases hy
  rw [show min (k + 1 + 1) l.length = k + 2 by omega] at hy
  exact ⟨x, y, hx, hy, h2, by omega⟩
theorem u8_of (x y : Nat) (hx : x < 16) (hy : y < 16) : (UInt8.ofNat (16 * x + y)).toNat = 16 * x + y := by rw [UInt8.toNat_ofNat']; omega
/-- what the loop's measure says -/
theorem less_of {l : List UInt8} {w : World} {k j : Nat} {acc acc' : List UInt8} {c m c' m' : Value} {wr w2 : World} (h : UInv w l k acc c m wr) (hk : k < l.length) (h' : UInv w l j acc' c' m' w2) (hj : k < j) :
    2 * (l.length - rdPos w2 w.heap.size) + boolN m' < 2 * (l.length - rdPos wr w.heap.size) + boolN m := by
  obtain ⟨_, _, rfl, rb, _, _⟩ := h
  obtain ⟨hjl, _, rfl, rb', _, _⟩ := h'
  rw [rb.rd.pos, rb'.rd.pos, decide_eq_true hk]
  by_cases hlt : j < l.length
  · rw [decide_eq_true hlt]; simp only [boolN]; omega
  · rw [decide_eq_false hlt]; simp only [boolN]; omega
set_option maxRecDepth 8000 in
set_option maxHeartbeats 2000000 in
theorem unescape_any (l : List UInt8) (w : World) (hl : l.length ≤ 1000000) :
    Calls Tryd.prog 21 #[.string (strOf l)] w fun e w' => e = .returned (.tuple #[.string (strOf ((unescL l).getD [])), .bool (unescL l).isSome]) ∧ Below w.heap.size w w' := by
  have S0 := hideIt (RB.start w l)
  have E0 : Hid (strOf [] = ⟨#[]⟩) := hideIt rfl
  go_enter Tryd.func21, Tryd.ntmps21
  go_wp2_with fail
  generalize (w.alloc (.cells #[.string (strOf l), .int .i64 0] 56)).alloc (.cells #[.pointer none, .slice none 0 0] 59) = w0 at *
  refine (next_all w.heap.size l 0 w0 S0.out.rd (Nat.zero_le _) (by omega)).mono ?_
  rintro e w1 ⟨rfl, hr, hg⟩
  have I0 : Hid (UInv w l 0 [] (.int .u8 ((l.getD 0 0).toNat : Int)) (.bool (decide (0 < l.length))) w1) := hideIt ⟨Nat.zero_le _, rfl, rfl, S0.out.moved hr hg, by simp, by simp⟩
  clear hr hg S0
  generalize ((l.getD 0 0).toNat : Int) = x0 at *
  generalize decide (0 < l.length) = b0 at *
  go_wp2_with fail
  go_loopw [6, 7] (fun c m wr => ∃ (k : Nat) (acc : List UInt8), UInv w l k acc c m wr) (fun c m wr => 2 * (l.length - rdPos wr w.heap.size) + boolN m)
  case atStart => exact ⟨0, [], I0.out⟩
  case round =>
    obtain ⟨k, acc, hI⟩ := hrel
    have HI := hideIt hI
    obtain ⟨hk, rfl, rfl, rb, hu, hal⟩ := hI
    have HU := hideIt hu
    have HB := hideIt rb
    clear hu rb I0
    have hw2 := HB.out.size
    by_cases hkl : k < l.length
    · rw [show min (k + 1) l.length = k + 1 by omega] at HB
      have hd : decide (k < l.length) = true := decide_eq_true hkl
      rw [hd] at HI ⊢
      obtain ⟨c, hc⟩ : ∃ c, l.getD k 0 = c := ⟨_, rfl⟩
      rw [hc] at HI ⊢
      clear hd
      by_cases h43 : c = 43
      · subst h43
        rw [show (((43 : UInt8).toNat : Nat) : Int) = 43 from rfl] at HI ⊢
        have HW := hideIt (bbyte_any (w.heap.size + 1) (w.heap.size + 1) acc 32 wr HB.out.bld (by omega) hw2)
        rw [show (((32 : UInt8).toNat : Nat) : Int) = 32 from rfl] at HW
        go_wp2_with fail
        refine HW.out.mono ?_
        rintro e w2 ⟨rfl, hb2, hl2, _⟩
        have B2 := hideIt (HB.out.wrote hb2 hl2)
        clear hb2 hl2 HW HB
        go_wp2_with fail
        refine (next_all w.heap.size l (k + 1) w2 B2.out.rd (by omega) (by omega)).mono ?_
        rintro e w9 ⟨rfl, hr, hg⟩
        have I3 : Hid (UInv w l (k + 1) (acc ++ [32]) (.int .u8 ((l.getD (k + 1) 0).toNat : Int)) (.bool (decide (k + 1 < l.length))) w9) := hideIt ⟨by omega, rfl, rfl, B2.out.moved hr hg, by have := unesc_step hkl hc (by decide) HU.out; simpa using this, by simp; omega⟩
        have M3 := hideIt (less_of HI.out hkl I3.out (by omega))
        clear hr hg B2
        generalize ((l.getD (k + 1) 0).toNat : Int) = x9 at *
        generalize decide (k + 1 < l.length) = b9 at *
        go_wp2_with fail
        go_roundw
        case rel => exact ⟨_, _, I3.out⟩
        case measure => exact M3.out
      · have q43 : ((c.toNat : Int) == 43) = false := by
          rw [beq_eq_false_iff_ne]; intro h; exact h43 (UInt8.toNat_inj.1 (by have := Int.ofNat.inj h; exact this))
        by_cases h37 : c = 37
        · subst h37
          rw [show (((37 : UInt8).toNat : Nat) : Int) = 37 from rfl] at HI ⊢
          clear q43
          have HE := hideIt (escaped_any' w.heap.size l (k + 1) wr HB.out.rd (by omega) (by omega))
          cases hb : ((digAt l (k + 1)).isSome && (digAt l (min (k + 1 + 1) l.length)).isSome)
          · rw [hb] at HE
            have hnone := unesc_stepN hkl hc hb HU.out
            have HN := hideIt hnone
            clear hb hnone
            generalize ((16 * (digAt l (k + 1)).getD 0 + (digAt l (min (k + 1 + 1) l.length)).getD 0 : Nat) : Int) = x at *
            go_wp2_with fail
            refine HE.out.mono ?_
            rintro e w2 ⟨rfl, hr, hg⟩
            have B2 := hideIt (HB.out.moved hr hg)
            clear hr hg
            go_wp2_with fail
            go_ret2
            exact ⟨by rw [HN.out]; rfl, B2.out.below⟩
          · obtain ⟨x, y, hx, hy, h2, hm⟩ := dig_both hb
            rw [hb, hm, hx, hy] at HE
            rw [show min (k + 2 + 1) l.length = k + 3 by omega] at HE
            have hz := u8_of x y (hexU_lt hx) (hexU_lt hy)
            have HX := hideIt (unesc_stepP hkl hc hx hy HU.out)
            simp only [Option.getD_some] at HE
            rw [← hz] at HE
            clear hb hm hx hy hz
            generalize UInt8.ofNat (16 * x + y) = d at *
            go_wp2_with fail
            refine HE.out.mono ?_
            rintro e w2 ⟨rfl, hr, hg⟩
            have B1 := hideIt (HB.out.moved hr hg)
            have HW := hideIt (bbyte_any (w.heap.size + 1) (w.heap.size + 1) acc d w2 B1.out.bld (by omega) B1.out.size)
            clear hr hg HE
            go_wp2_with fail
            refine HW.out.mono ?_
            rintro e w3 ⟨rfl, hb2, hl2, _⟩
            have B2 := hideIt (B1.out.wrote hb2 hl2)
            clear hb2 hl2 HW HB B1
            go_wp2_with fail
            refine (next_all w.heap.size l (k + 3) w3 B2.out.rd (by omega) (by omega)).mono ?_
            rintro e w9 ⟨rfl, hr, hg⟩
            have I3 : Hid (UInv w l (k + 3) (acc ++ [d]) (.int .u8 ((l.getD (k + 3) 0).toNat : Int)) (.bool (decide (k + 3 < l.length))) w9) := hideIt ⟨by omega, rfl, rfl, B2.out.moved hr hg, HX.out, by simp; omega⟩
            have M3 := hideIt (less_of HI.out hkl I3.out (by omega))
            clear hr hg B2
            generalize ((l.getD (k + 3) 0).toNat : Int) = x9 at *
            generalize decide (k + 3 < l.length) = b9 at *
            go_wp2_with fail
            go_roundw
            case rel => exact ⟨_, _, I3.out⟩
            case measure => exact M3.out
        · have q37 : ((c.toNat : Int) == 37) = false := by
            rw [beq_eq_false_iff_ne]; intro h; exact h37 (UInt8.toNat_inj.1 (by have := Int.ofNat.inj h; exact this))
          have HW := hideIt (bbyte_any (w.heap.size + 1) (w.heap.size + 1) acc c wr HB.out.bld (by omega) hw2)
          have HX := hideIt (unesc_step hkl hc h37 HU.out)
          rw [if_neg h43] at HX
          go_wp2_with fail
          refine HW.out.mono ?_
          rintro e w2 ⟨rfl, hb2, hl2, _⟩
          have B2 := hideIt (HB.out.wrote hb2 hl2)
          clear hb2 hl2 HW HB
          go_wp2_with fail
          refine (next_all w.heap.size l (k + 1) w2 B2.out.rd (by omega) (by omega)).mono ?_
          rintro e w9 ⟨rfl, hr, hg⟩
          have I3 : Hid (UInv w l (k + 1) (acc ++ [c]) (.int .u8 ((l.getD (k + 1) 0).toNat : Int)) (.bool (decide (k + 1 < l.length))) w9) := hideIt ⟨by omega, rfl, rfl, B2.out.moved hr hg, HX.out, by simp; omega⟩
          have M3 := hideIt (less_of HI.out hkl I3.out (by omega))
          clear hr hg B2
          generalize ((l.getD (k + 1) 0).toNat : Int) = x9 at *
          generalize decide (k + 1 < l.length) = b9 at *
          go_wp2_with fail
          go_roundw
          case rel => exact ⟨_, _, I3.out⟩
          case measure => exact M3.out
    · have hd : decide (k < l.length) = false := decide_eq_false hkl
      rw [hd] at HI ⊢
      have HN := hideIt (unesc_done hkl HU.out)
      have HS := hideIt (bstring_any (w.heap.size + 1) (w.heap.size + 1) acc wr HB.out.bld hw2)
      have F := hideIt HB.out.below
      clear hd HI HU HB
      generalize ((l.getD k 0).toNat : Int) = x at *
      go_wp2_with fail
      refine HS.out.mono ?_
      rintro e w2 ⟨rfl, hl2⟩
      have F2 := hideIt (F.out.trans (hl2.mono (by omega)))
      clear hl2
      go_wp2_with fail
      go_ret2
      exact ⟨by rw [HN.out]; rfl, F2.out⟩
theorem go_unescape : goFn Tryd.prog 21 = true := by kernel_rfl
end Go.Proofs.YtccppgiigkmdbaaDoor
