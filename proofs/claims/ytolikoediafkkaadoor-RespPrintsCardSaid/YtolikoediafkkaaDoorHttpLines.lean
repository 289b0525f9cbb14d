/- Contract of http.Lines. -/
import Derived.Test.YtolikoediafkkaaDoorHttpUntil
import Derived.Test.YtolikoediafkkaaDoorRefHttpLines
namespace Go.Proofs.YtolikoediafkkaaDoor
open Go.ChangeShapes Go.WideShapes Go.ChangeAt Go.RowKit
set_option linter.unusedVariables false
set_option linter.unusedSimpArgs false

/-- how many bytes a reader in block g has read -/
def rdPosB (w : World) (g : Nat) : Nat := match w.cell? ⟨g, 1, none⟩ with | some (.int _ z) => z.toNat | _ => 0
def boolNB : Value → Nat | .bool true => 1 | _ => 0
theorem RdB.pos {g : Nat} {A : Option Addr} {n c k : Nat} {w : World} (h : RdB g A n c k w) : rdPosB w g = k := by unfold rdPosB; rw [h.c1]; rfl
theorem RdB.keepB {g : Nat} {A : Option Addr} {n c k B : Nat} {w w' : World} (h : RdB g A n c k w) (hb : Below B w w') (hg : g < B) : RdB g A n c k w' := (hb.block g hg).trans h
theorem SOwn.base {base base' : Nat} {v : Value} {ps : List (List UInt8)} {w : World} (h : SOwn base v ps w) (hb : base' ≤ base) : SOwn base' v ps w := by
  refine ⟨h.1, ?_⟩
  rcases h.2 with h0 | ⟨g, cap, cur, rfl, h1, h2⟩
  · exact Or.inl h0
  · exact Or.inr ⟨g, cap, cur, rfl, Nat.le_trans hb h1, h2⟩
theorem SOwn.blockB {base : Nat} {v : Value} {ps : List (List UInt8)} {w w' : World} (h : SOwn base v ps w) (hb : ∀ g, v.ownBlock = some g → w'.heap[g]? = w.heap[g]?) : SOwn base v ps w' := by
  refine ⟨h.1, ?_⟩
  rcases h.2 with h0 | ⟨g, cap, cur, rfl, h1, h2, h3⟩
  · exact Or.inl h0
  · exact Or.inr ⟨g, cap, cur, rfl, h1, (hb g rfl).trans h2, h3⟩
theorem SOwn.grownB {g : Nat} {v : Value} {ps : List (List UInt8)} {w w' : World} (h : SOwn (g + 1) v ps w) (hb : w.grownBy w' (some g)) : SOwn (g + 1) v ps w' :=
  h.blockB fun i hi => by
    have := World.ownsRow.lt h i hi
    exact hb.block i this.2 (fun e => by cases e; omega)
theorem below_grown {w w1 w2 : World} {g : Nat} (h : Below w.heap.size w w1) (hb : w1.grownBy w2 (some g)) (hg : w.heap.size ≤ g) : Below w.heap.size w w2 :=
  h.grown hb (by exact h.size) (fun j hj => by cases hj; exact hg)
/-- how Lines stands: k bytes are behind the lines that are told; the next line, if there is more -/
structure LP (bs : List UInt8) (k : Nat) (out : List (List UInt8)) (line : List UInt8) (more : Bool) (k2 : Nat) : Prop where
  le : k ≤ bs.length
  eq : linesL bs = (linesL (bs.drop k)).map fun z => (out ++ z.1, z.2)
  few : out.length ≤ k
  yes : more = true → cutS crlf (bs.drop k) = some (line, bs.drop k2) ∧ k2 = k + line.length + 2 ∧ k2 ≤ bs.length
  no : more = false → cutS crlf (bs.drop k) = none ∧ k2 = k
theorem LP.stop {bs : List UInt8} {k : Nat} {out : List (List UInt8)} {k2 : Nat} (h : LP bs k out [] true k2) : linesT bs = (out, k2, true) := by
  obtain ⟨hc, h2, h3⟩ := h.yes rfl
  have e := h.eq
  rw [lines_end hc] at e
  unfold linesT
  rw [e]
  simp
  omega
theorem LP.none {bs : List UInt8} {k : Nat} {out : List (List UInt8)} {line : List UInt8} {k2 : Nat} (h : LP bs k out line false k2) : linesT bs = ([], 0, false) := by
  have e := h.eq
  rw [lines_none (h.no rfl).1] at e
  unfold linesT
  rw [e]
  rfl
theorem LP.next {bs : List UInt8} {k : Nat} {out : List (List UInt8)} {line : List UInt8} {k2 : Nat} (h : LP bs k out line true k2) (hl : line ≠ []) : linesL bs = (linesL (bs.drop k2)).map (fun z => (out ++ [line] ++ z.1, z.2)) ∧ (out ++ [line]).length ≤ k2 := by
  obtain ⟨hc, h2, h3⟩ := h.yes rfl
  refine ⟨?_, by have := h.few; simp; omega⟩
  rw [h.eq, lines_step hc hl]
  cases linesL (bs.drop k2) <;> simp
/-- what until leaves of a reader, and tells -/
def UntilSt (g : Nat) (A : Option Addr) (n c : Nat) (bs : List UInt8) (k : Nat) (out : List (List UInt8)) (w0 : World) (e : Ending) (w' : World) : Prop :=
  ∃ line more k2, e = .returned (.tuple #[.string (strOf line), .bool more]) ∧ LP bs k out line more k2 ∧ RdB g A n c k2 w' ∧ w0.grownBy w' (some g)
theorem until_lines (g : Nat) (A : Option Addr) (bs : List UInt8) (n c k : Nat) (out : List (List UInt8)) (w : World) (h : RdB g A n c k w) (hp : PieceOk w ⟨A, c, bs⟩) (hn : bs.length = n) (hk : k ≤ n) (hl : n ≤ 1000000) (hm : MaxOk w) (ha : Apart A bs g) (heq : linesL bs = (linesL (bs.drop k)).map fun z => (out ++ z.1, z.2)) (hf : out.length ≤ k) :
    Calls Tryd.prog 54 #[.pointer (some ⟨g, 0, none⟩), .string ⟨#[13, 10]⟩] w (UntilSt g A n c bs k out w) := by
  cases hc : cutS crlf (bs.drop k) with
  | none =>
    refine (until_none g A bs n c k crlf w h hp hn hk hl (by simp [crlf]) (by simp [crlf]) hm hc).mono ?_
    rintro e w' ⟨rfl, hb⟩
    exact ⟨[], false, k, rfl, ⟨by omega, heq, hf, fun h => (by cases h), fun _ => ⟨hc, rfl⟩⟩, h.keep hb, grown_below hb _⟩
  | some z =>
    obtain ⟨x, r⟩ := z
    have hct := (cut_take hc).2
    have hcl := cut_len hc
    rw [List.length_drop] at hcl
    simp only [crlf, List.length_cons, List.length_nil] at hct hcl
    refine (until_some g A bs n c k crlf x r w h hp hn hk hl (by simp [crlf]) (by simp [crlf]) hm ha hc).mono ?_
    rintro e w' ⟨rfl, hr, hg⟩
    refine ⟨x, true, k + x.length + 2, rfl, ⟨by omega, heq, hf, fun _ => ⟨?_, rfl, by omega⟩, fun h => (by cases h)⟩, hr, hg⟩
    rw [hc, ← hct, List.drop_drop, show k + (x.length + (0 + 1 + 1)) = k + x.length + 2 by omega]
set_option maxRecDepth 8000 in
set_option maxHeartbeats 4000000 in
theorem lines_any (A : Option Addr) (bs : List UInt8) (n c : Nat) (w : World) (hp : PieceOk w ⟨A, c, bs⟩) (hn : bs.length = n) (hl : n ≤ 100000) (hm : MaxOk w) :
    Calls Tryd.prog 45 #[.slice A n c] w fun e w' => ∃ v, e = .returned (.tuple #[v, .int .i64 ((linesT bs).2.1 : Int), .bool (linesT bs).2.2]) ∧ SOwn w.heap.size v (linesT bs).1 w' ∧ Below w.heap.size w w' := by
  have HP := hideIt hp
  have HM := hideIt hm
  have HLT := hideIt hm.lt
  obtain ⟨RR, hRR⟩ : ∃ R, linesT bs = R := ⟨_, rfl⟩
  have HR := hideIt hRR
  rw [hRR]
  have HAP : Hid (Apart A bs w.heap.size) := hideIt (hp.apart (Nat.le_refl _))
  have HN := hideIt hn
  obtain ⟨W, hW⟩ : ∃ W, w.alloc (.cells #[.slice A n c, .int .i64 0] 91) = W := ⟨_, rfl⟩
  have D0 : Hid (RdB w.heap.size A n c 0 W) := hideIt (by rw [← hW]; exact RdB.new w A n c)
  have B0 : Hid (Below w.heap.size w W) := hideIt (by rw [← hW]; exact below_new w _)
  have SZ : Hid (W.heap.size = w.heap.size + 1) := hideIt (by rw [← hW]; exact alloc_size _ _)
  have HW := hideIt hW
  have HU : Hid (∀ (k : Nat) (out : List (List UInt8)) (wr : World), RdB w.heap.size A n c k wr → Below w.heap.size w wr → k ≤ n → linesL bs = (linesL (bs.drop k)).map (fun z => (out ++ z.1, z.2)) → out.length ≤ k → Calls Tryd.prog 54 #[.pointer (some ⟨w.heap.size, 0, none⟩), .string ⟨#[13, 10]⟩] wr (UntilSt w.heap.size A n c bs k out wr)) :=
    hideIt fun k out wr h hb hk he hf => until_lines w.heap.size A bs n c k out wr h (hp.keep hb) hn hk (by omega) (hm.keep hb) HAP.out he hf
  clear hp hm hRR hW
  go_enter Tryd.func45, Tryd.ntmps45
  go_wp2_with fail
  rw [HW.out]
  refine (HU.out 0 [] W D0.out B0.out (by omega) (by cases h : linesL bs <;> simp [h]) (by simp)).mono ?_
  rintro e u1 ⟨line, more, k2, rfl, hlp, hr, hg⟩
  have B1 := hideIt (below_grown B0.out hg (Nat.le_refl _))
  have R1 := hideIt hr
  have L1 := hideIt hlp
  have Z1 : Hid (w.heap.size + 1 ≤ u1.heap.size) := hideIt (by have := hg.size; have := SZ.out; omega)
  clear hr hlp hg
  go_wp2_with fail
  go_loopw [6, 7, 8] (fun lv sv mv wr => ∃ (k : Nat) (out : List (List UInt8)) (line : List UInt8) (more : Bool) (k2 : Nat), sv = .string (strOf line) ∧ mv = .bool more ∧ LP bs k out line more k2 ∧ RdB w.heap.size A n c k2 wr ∧ SOwn (w.heap.size + 1) lv out wr ∧ Below w.heap.size w wr ∧ w.heap.size + 1 ≤ wr.heap.size) (fun lv sv mv wr => 2 * (n - rdPosB wr w.heap.size) + boolNB mv)
  case atStart => exact ⟨0, [], line, more, k2, rfl, rfl, L1.out, R1.out, SOwn.nil _ _, B1.out, Z1.out⟩
  case round =>
    obtain ⟨k, out, line, more, k2, rfl, rfl, hlp, hr, ho, hb, hz⟩ := hrel
    have HLP := hideIt hlp
    have HRD := hideIt hr
    have HO := hideIt ho
    have HB := hideIt hb
    have HZ := hideIt hz
    have hkl := hlp.le
    have hfw := hlp.few
    clear hlp hr ho hb hz L1 R1 B1 Z1
    cases more
    · have E := hideIt HLP.out.none
      clear HU
      go_wp2_with fail
      go_ret3
      have e := HR.out.symm.trans E.out
      exact ⟨_, by rw [e]; rfl, by rw [e]; exact SOwn.nil _ _, HB.out⟩
    · by_cases hln : line = []
      · subst hln
        have E := hideIt HLP.out.stop
        have hem : (strOf []).toList.isEmpty = true := by rw [strOf_toList]; rfl
        have c1 := HRD.out.c1
        clear HU
        go_wp2_with fail
        go_region
        go_wp2_with fail
        go_ret3
        have e := HR.out.symm.trans E.out
        exact ⟨_, by rw [e]; rfl, by rw [e]; exact (HO.out.base (by omega)).keep (Below.refl _ _).drew, HB.out.drew⟩
      · have hem : (strOf line).toList.isEmpty = false := by rw [strOf_toList, List.isEmpty_eq_false_iff]; exact hln
        obtain ⟨hy1, hy2, hy3⟩ := HLP.out.yes rfl
        have NX := hideIt (HLP.out.next hln)
        have hol : Hid (out.length ≤ 200000) := hideIt (by have := HN.out; omega)
        have HK2 : Hid (k2 ≤ n) := hideIt (by have := HN.out; omega)
        have P0 := hideIt HRD.out.pos
        clear hln hy1
        go_wp2_with (at_builtin; refine wpList_appT1 rfl (.tmp 30) (.tmp 32) rfl (w.heap.size + 1) _ out line rfl HO.out rfl hol.out HZ.out ?_)
        intro v7 w7 o7 g7
        have g8 := g7 (w.heap.size + 1) (Nat.le_refl _)
        have O7 := hideIt o7
        have B7 : Hid (Below w.heap.size w w7) := hideIt (HB.out.trans (g7 _ (by omega)))
        have D7 := hideIt (HRD.out.keepB g8 (Nat.lt_succ_self _))
        have Z7 : Hid (w.heap.size + 1 ≤ w7.heap.size) := hideIt (Nat.le_trans HZ.out g8.size)
        clear o7 g7 g8
        go_wp2_with fail
        refine (HU.out k2 (out ++ [line]) w7 D7.out B7.out HK2.out NX.out.1 NX.out.2).mono ?_
        rintro e w8 ⟨line', more', k3, rfl, hlp, hr, hg⟩
        have B8 := hideIt (below_grown B7.out hg (Nat.le_refl _))
        have O8 := hideIt (O7.out.grownB hg)
        have L8 := hideIt hlp
        have Z8 : Hid (w.heap.size + 1 ≤ w8.heap.size) := hideIt (Nat.le_trans Z7.out hg.size)
        have R8 := hideIt hr
        have P8 := hideIt hr.pos
        have M8 : Hid (2 * (n - k3) + boolNB (.bool more') < 2 * (n - k2) + boolNB (.bool true)) := hideIt (by
          cases more'
          · obtain ⟨_, h2⟩ := hlp.no rfl
            simp only [boolNB]; omega
          · obtain ⟨_, h2, h3⟩ := hlp.yes rfl
            have := HN.out
            simp only [boolNB]; omega)
        clear hlp hr hg
        go_wp2_with fail
        go_roundw
        case rel => exact ⟨k2, out ++ [line], line', more', k3, rfl, rfl, L8.out, R8.out, O8.out, B8.out, Z8.out⟩
        case measure => rw [P8.out, P0.out]; exact M8.out
theorem go_lines : goFn Tryd.prog 45 = true := by kernel_rfl
end Go.Proofs.YtolikoediafkkaaDoor
