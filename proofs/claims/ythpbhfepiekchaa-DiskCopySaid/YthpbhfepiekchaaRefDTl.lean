/- The reference's disk in letters: contracts of find, step, without, put, Used for it. -/
import Derived.Test.YthpbhfepiekchaaRefDPut
import Derived.Test.YthpbhfepiekchaaDiskMem
namespace Go.Proofs.Ythpbhfepiekchaa
open Go.ChangeShapes Go.WideShapes Go.ChangeAt Go.RowKit
set_option linter.unusedVariables false
set_option linter.unusedSimpArgs false

/-- a disk by value, told in letters -/
def TL (w : World) (N : Nat → Prop) (A : Option Addr) (n c rm : Nat) (fu : Bool) (left : Int) (dd : Bool) (D : DiskP) : Prop := ∃ rs, rs.length = n ∧ rm = D.room ∧ fu = D.fuse.isSome ∧ dd = D.dead ∧ TOk w N A c rs left D
theorem TIs.letters {w : World} {N : Nat → Prop} {v : Value} {D : DiskP} (h : TIs w N v D) : ∃ A n c rm fu left dd, v = tV (.slice A n c) rm fu left dd ∧ TL w N A n c rm fu left dd D := by
  obtain ⟨A, c, rs, left, rfl, h⟩ := h
  exact ⟨A, _, c, _, _, left, _, rfl, rs, rfl, rfl, rfl, rfl, h⟩
theorem TL.is {w : World} {N : Nat → Prop} {A : Option Addr} {n c rm : Nat} {fu : Bool} {left : Int} {dd : Bool} {D : DiskP} (h : TL w N A n c rm fu left dd D) : TIs w N (tV (.slice A n c) rm fu left dd) D := by
  obtain ⟨rs, rfl, rfl, rfl, rfl, h⟩ := h
  exact ⟨A, c, rs, left, rfl, h⟩
theorem TL.keep {w w' : World} {N : Nat → Prop} {A : Option Addr} {n c rm : Nat} {fu : Bool} {left : Int} {dd : Bool} {D : DiskP} (h : TL w N A n c rm fu left dd D) (hb : Below w.heap.size w w') : TL w' N A n c rm fu left dd D := by
  obtain ⟨rs, h1, h2, h3, h4, h⟩ := h
  exact ⟨rs, h1, h2, h3, h4, h.keep hb⟩
theorem rp_turn {w w' : World} {S : Nat → Prop} {p : Piece} (h : PieceOk w p) (ht : Turn S w w') (ha : ∀ k, S k → Apart p.A p.bs k) : PieceOk w' p := by
  refine ⟨fun hn => ?_, h.fits, h.most, h.long, h.nil⟩
  obtain ⟨q, off, e, hq, hc⟩ := h.bytes hn
  refine ⟨q, off, e, Nat.lt_of_lt_of_le hq ht.size, fun j hj => ?_⟩
  rw [← hc j hj]
  simp only [World.cell?, ht.block q hq fun hs => ha q hs hn _ e rfl]
theorem rp_new {w : World} {p : Piece} (h : PieceOk w p) {k : Nat} (hk : w.heap.size ≤ k) : Apart p.A p.bs k := fun hn ad e he => by
  obtain ⟨q, off, e2, hq, _⟩ := h.bytes hn
  rw [e] at e2
  obtain rfl := Option.some.inj e2
  simp only at he
  omega
theorem TOk.turn {w w' : World} {N : Nat → Prop} {A : Option Addr} {c : Nat} {rs : List FR} {left : Int} {D : DiskP} (h : TOk w N A c rs left D) (ht : Turn N w w') : TOk w' N A c rs left D := by
  refine { h with at_ := ?_, each := fun r hr => rp_turn (h.each r hr) ht (h.awayE r hr) }
  intro hn
  exact (h.at_.moved (w' := w') fun ad e k => ht.block ad.block (by
    obtain ⟨b, off, e2, hb, _⟩ := h.at_ hn
    rw [e] at e2
    obtain rfl := Option.some.inj e2
    exact hb) (h.away ad e hn)) hn
theorem TOk.fresh {w w' : World} {N : Nat → Prop} {A : Option Addr} {c : Nat} {rs : List FR} {left : Int} {D : DiskP} (h : TOk w N A c rs left D) (hb : Below w.heap.size w w') (M : Nat → Prop) (hM : ∀ k, M k → N k ∨ w.heap.size ≤ k) : TOk w' M A c rs left D := by
  refine { h.keep hb with away := fun ad e hn hm => ?_, awayE := fun r hr k hk => ?_ }
  · rcases hM _ hm with h1 | h1
    · exact h.away ad e hn h1
    · obtain ⟨b, off, e2, hb2, _⟩ := h.at_ hn
      rw [e] at e2
      obtain rfl := Option.some.inj e2
      simp only at h1
      omega
  · rcases hM _ hk with h1 | h1
    · exact h.awayE r hr k h1
    · exact rp_new (h.each r hr) h1
theorem TL.turn {w w' : World} {N : Nat → Prop} {A : Option Addr} {n c rm : Nat} {fu : Bool} {left : Int} {dd : Bool} {D : DiskP} (h : TL w N A n c rm fu left dd D) (ht : Turn N w w') : TL w' N A n c rm fu left dd D := by
  obtain ⟨rs, h1, h2, h3, h4, h⟩ := h
  exact ⟨rs, h1, h2, h3, h4, h.turn ht⟩
theorem TL.fresh {w w' : World} {N : Nat → Prop} {A : Option Addr} {n c rm : Nat} {fu : Bool} {left : Int} {dd : Bool} {D : DiskP} (h : TL w N A n c rm fu left dd D) (hb : Below w.heap.size w w') (M : Nat → Prop) (hM : ∀ k, M k → N k ∨ w.heap.size ≤ k) : TL w' M A n c rm fu left dd D := by
  obtain ⟨rs, h1, h2, h3, h4, h⟩ := h
  exact ⟨rs, h1, h2, h3, h4, h.fresh hb M hM⟩
theorem TL.weak {w : World} {N : Nat → Prop} {A : Option Addr} {n c rm : Nat} {fu : Bool} {left : Int} {dd : Bool} {D : DiskP} (h : TL w N A n c rm fu left dd D) (M : Nat → Prop) (hM : ∀ k, M k → N k) : TL w M A n c rm fu left dd D :=
  h.fresh (Below.refl _ _) M fun k hk => Or.inl (hM k hk)
theorem TIs.turn {w w' : World} {N : Nat → Prop} {v : Value} {D : DiskP} (h : TIs w N v D) (ht : Turn N w w') : TIs w' N v D := by
  obtain ⟨A, c, rs, left, e, h⟩ := h
  exact ⟨A, c, rs, left, e, h.turn ht⟩
theorem TIs.fresh {w w' : World} {N : Nat → Prop} {v : Value} {D : DiskP} (h : TIs w N v D) (hb : Below w.heap.size w w') (M : Nat → Prop) (hM : ∀ k, M k → N k ∨ w.heap.size ≤ k) : TIs w' M v D := by
  obtain ⟨A, c, rs, left, e, h⟩ := h
  exact ⟨A, c, rs, left, e, h.fresh hb M hM⟩
theorem turn_set5 {S : Nat → Prop} (w : World) (g : Nat) (hg : S g) (a b c d e : Value) : Turn S w (((((w.setCell ⟨g, 0, none⟩ a).setCell ⟨g, 1, none⟩ b).setCell ⟨g, 2, none⟩ c).setCell ⟨g, 3, none⟩ d).setCell ⟨g, 4, none⟩ e) :=
  ((((turn_cell w ⟨g, 0, none⟩ a S hg).trans (turn_cell _ ⟨g, 1, none⟩ b S hg) fun i h => Or.inl h).trans (turn_cell _ ⟨g, 2, none⟩ c S hg) fun i h => Or.inl h).trans (turn_cell _ ⟨g, 3, none⟩ d S hg) fun i h => Or.inl h).trans (turn_cell _ ⟨g, 4, none⟩ e S hg) fun i h => Or.inl h
/-- the blocks that a call of the reference holds of its own -/
def With (N : Nat → Prop) (g m : Nat) : Nat → Prop := fun k => N k ∨ g ≤ k ∧ k < m
theorem TL.own {w w' : World} {N : Nat → Prop} {A : Option Addr} {n c rm : Nat} {fu : Bool} {left : Int} {dd : Bool} {D : DiskP} (h : TL w N A n c rm fu left dd D) (hb : Below w.heap.size w w') (m : Nat) : TL w' (With N w.heap.size m) A n c rm fu left dd D :=
  h.fresh hb _ fun k hk => by rcases hk with h1 | h1; exact Or.inl h1; exact Or.inr h1.1
/-- the end of a call: a struct is stored into a block of its own -/
theorem TL.ends {w : World} {N : Nat → Prop} {g m : Nat} {A : Option Addr} {n c rm : Nat} {fu : Bool} {left : Int} {dd : Bool} {D : DiskP} (h : TL w (With N g m) A n c rm fu left dd D) (q : Nat) (hq : g ≤ q ∧ q < m) (a b u d e : Value) :
    TL (((((w.setCell ⟨q, 0, none⟩ a).setCell ⟨q, 1, none⟩ b).setCell ⟨q, 2, none⟩ u).setCell ⟨q, 3, none⟩ d).setCell ⟨q, 4, none⟩ e) N A n c rm fu left dd D :=
  (h.turn (turn_set5 w q (Or.inr hq) a b u d e)).weak N fun k hk => Or.inl hk
theorem with_lt {N : Nat → Prop} {g m s : Nat} (hN : ∀ k, N k → k < g) (hm : m ≤ s) (hg : g ≤ s) : ∀ k, With N g m k → k < s := fun k hk => by
  rcases hk with h | h
  · have := hN k h; omega
  · omega
theorem TL.fits {w : World} {N : Nat → Prop} {A : Option Addr} {n c rm : Nat} {fu : Bool} {left : Int} {dd : Bool} {D : DiskP} (h : TL w N A n c rm fu left dd D) : n ≤ c ∧ c ≤ 9223372036854775807 ∧ n = D.files.length ∧ rm = D.room ∧ fu = D.fuse.isSome ∧ dd = D.dead ∧ (A = none → c = 0) ∧ 0 ≤ left ∧ left ≤ 9223372036854775807 := by
  obtain ⟨rs, rfl, h2, h3, h4, h⟩ := h
  exact ⟨h.fit.1, h.fit.2, h.num, h2, h3, h4, h.nil, h.fits⟩
theorem TL.call_step {w : World} {N : Nat → Prop} {A : Option Addr} {n c rm : Nat} {fu : Bool} {left : Int} {dd : Bool} {D : DiskP} (h : TL w N A n c rm fu left dd D) :
    Calls Try.prog 48 #[tV (.slice A n c) rm fu left dd] w fun e w' => ∃ A' n' c' rm' fu' left' dd', e = .returned (.tuple #[tV (.slice A' n' c') rm' fu' left' dd', .bool (canP D)]) ∧ TL w' N A' n' c' rm' fu' left' dd' (stepP D).1 ∧ Below w.heap.size w w' := by
  refine (rstep_any h.is).mono ?_
  rintro e w' ⟨v, rfl, hT, hb⟩
  obtain ⟨A', n', c', rm', fu', left', dd', rfl, ht⟩ := hT.letters
  have e2 : (stepP D).2 = canP D := by unfold stepP; split <;> simp_all
  exact ⟨A', n', c', rm', fu', left', dd', by rw [e2], ht, hb⟩
/-- where a file is found -/
def RFileAt (w : World) (N : Nat → Prop) (A : Option Addr) (j : Nat) (r : FR) : Prop := (∃ b off, A = some ⟨b, off, none⟩ ∧ b < w.heap.size ∧ w.cell? ⟨b, off + j * 3, none⟩ = some (.string (strOf r.name)) ∧ w.cell? ⟨b, off + j * 3 + 1, none⟩ = some r.row ∧ w.cell? ⟨b, off + j * 3 + 2, none⟩ = some (.int .i64 (r.lasts : Int))) ∧ PieceOk w ⟨r.A, r.c, r.b⟩ ∧ ∀ k, N k → Apart r.A r.b k
theorem RFileAt.keep {w w' : World} {N : Nat → Prop} {A : Option Addr} {j : Nat} {r : FR} (h : RFileAt w N A j r) (hb : Below w.heap.size w w') : RFileAt w' N A j r := by
  obtain ⟨⟨b, off, e, hlt, h1, h2, h3⟩, hp, ha⟩ := h
  exact ⟨⟨b, off, e, Nat.lt_of_lt_of_le hlt hb.size, (hb.cell (p := ⟨b, off + j * 3, none⟩) hlt).trans h1, (hb.cell (p := ⟨b, off + j * 3 + 1, none⟩) hlt).trans h2, (hb.cell (p := ⟨b, off + j * 3 + 2, none⟩) hlt).trans h3⟩, hp.keep hb, ha⟩
theorem RFileAt.own {w w' : World} {N : Nat → Prop} {A : Option Addr} {j : Nat} {r : FR} (h : RFileAt w N A j r) (hb : Below w.heap.size w w') (m : Nat) : RFileAt w' (With N w.heap.size m) A j r := by
  obtain ⟨h1, h2, h3⟩ := h.keep hb
  exact ⟨h1, h2, fun k hk => by rcases hk with hk | hk; exact h3 k hk; exact rp_new h.2.1 hk.1⟩
theorem TOk.file {w : World} {N : Nat → Prop} {A : Option Addr} {c : Nat} {rs : List FR} {left : Int} {D : DiskP} (h : TOk w N A c rs left D) {j : Nat} {r : FR} (hr : rs[j]? = some r) : RFileAt w N A j r := by
  have hj := (List.getElem?_eq_some_iff.1 hr).1
  obtain ⟨b, off, rfl, hb, hc⟩ := h.at_ (by omega)
  obtain ⟨q1, q2, q3⟩ := hc j r hr
  rw [show off + 3 * j = off + j * 3 by omega] at q1 q2 q3
  exact ⟨⟨b, off, rfl, hb, q1, q2, q3⟩, h.each r (List.mem_of_getElem? hr), h.awayE r (List.mem_of_getElem? hr)⟩
/-- find's two ends -/
theorem TL.call_find {w : World} {N : Nat → Prop} {A : Option Addr} {n c rm : Nat} {fu : Bool} {left : Int} {dd : Bool} {D : DiskP} (h : TL w N A n c rm fu left dd D) (ho : OkP D) (s : List UInt8) :
    (findP D.files s = none ∧ ∀ u, Below w.heap.size w u → Calls Try.prog 46 #[tV (.slice A n c) rm fu left dd, .string (strOf s)] u fun e w' => e = .returned (.int .i64 (-1)) ∧ Below u.heap.size u w') ∨
    (∃ (j : Nat) (r : FR), findP D.files s = some r.file ∧ r.name = s ∧ j < n ∧ j < 8 ∧ RFileAt w N A j r ∧ ∀ u, Below w.heap.size w u → Calls Try.prog 46 #[tV (.slice A n c) rm fu left dd, .string (strOf s)] u fun e w' => e = .returned (.int .i64 (j : Int)) ∧ Below u.heap.size u w') := by
  obtain ⟨rs, hn, rfl, rfl, rfl, h⟩ := h
  have hm := h.num
  have h8 := ho.many
  have hc : ∀ u, Below w.heap.size w u → _ := fun u hu => rfind_any (h.keep hu) s n D.room hn (by omega) D.fuse.isSome D.dead
  cases hp : posR rs s with
  | none =>
    rw [hp] at hc
    exact Or.inl ⟨by rw [← h.files]; exact posR_none hp, hc⟩
  | some j =>
    rw [hp] at hc
    obtain ⟨r, h1, h2, h3⟩ := posR_some hp
    have hj := (List.getElem?_eq_some_iff.1 h1).1
    exact Or.inr ⟨j, r, by rw [← h.files]; exact h3, h2, by omega, by omega, h.file h1, hc⟩
def DiskP.withFiles (D : DiskP) (l : List FileP) : DiskP := ⟨l, D.room, D.fuse, D.dead⟩
theorem TL.call_without {w : World} {N : Nat → Prop} {A : Option Addr} {n c rm : Nat} {fu : Bool} {left : Int} {dd : Bool} {D : DiskP} (h : TL w N A n c rm fu left dd D) (hN : ∀ k, N k → k < w.heap.size) (hm : D.files.length ≤ 900000) (s : List UInt8) :
    Calls Try.prog 50 #[tV (.slice A n c) rm fu left dd, .string (strOf s)] w fun e w' => ∃ A' n' c', e = .returned (tV (.slice A' n' c') rm fu left dd) ∧ TL w' N A' n' c' rm fu left dd (D.withFiles (withoutP D.files s)) ∧ Below w.heap.size w w' := by
  obtain ⟨rs, hn, rfl, rfl, rfl, h⟩ := h
  have hl := h.num
  refine (rwithout_raw (c := c) h.at_ s n D.room hn (by omega) D.fuse.isSome D.dead left).mono ?_
  rintro e w' ⟨A', c', rfl, hb, hf, ha, hc, hnil⟩
  refine ⟨A', _, c', rfl, ⟨_, rfl, rfl, rfl, rfl, h.newRow hb hN hf ha hc hnil ?_ (fun r hr => ?_) (fun r hr => ?_) rfl⟩, hb⟩
  · rw [without_map, h.files]; rfl
  · exact (h.each r (List.mem_filter.1 hr).1).keep hb
  · exact h.awayE r (List.mem_filter.1 hr).1
theorem TL.call_put {w : World} {N : Nat → Prop} {A : Option Addr} {n c rm : Nat} {fu : Bool} {left : Int} {dd : Bool} {D : DiskP} (h : TL w N A n c rm fu left dd D) (hN : ∀ k, N k → k < w.heap.size) (hm : D.files.length ≤ 900000) (r : FR) (hp : PieceOk w ⟨r.A, r.c, r.b⟩) (ha : ∀ k, N k → Apart r.A r.b k) :
    Calls Try.prog 49 #[tV (.slice A n c) rm fu left dd, .agg #[.string (strOf r.name), .slice r.A r.b.length r.c, .int .i64 (r.lasts : Int)]] w fun e w' => ∃ A' n' c', e = .returned (tV (.slice A' n' c') rm fu left dd) ∧ TL w' N A' n' c' rm fu left dd (D.withFiles (putP D.files r.file)) ∧ Below w.heap.size w w' := by
  obtain ⟨rs, hn, rfl, rfl, rfl, h⟩ := h
  have hl := h.num
  refine (rput_raw (c := c) h.at_ r n D.room hn (by omega) D.fuse.isSome D.dead left).mono ?_
  rintro e w' ⟨A', c', rs', rfl, hb, hf, had, hc, hnil, hfl, hmem⟩
  refine ⟨A', _, c', rfl, ⟨rs', rfl, rfl, rfl, rfl, h.newRow hb hN hf had hc hnil ?_ (fun q hq => ?_) (fun q hq => ?_) rfl⟩, hb⟩
  · rw [hfl, h.files]; rfl
  · rcases hmem q hq with rfl | hq
    · exact hp.keep hb
    · exact (h.each q hq).keep hb
  · rcases hmem q hq with rfl | hq
    · exact ha
    · exact h.awayE q hq
theorem TL.call_used {w : World} {N : Nat → Prop} {A : Option Addr} {n c rm : Nat} {fu : Bool} {left : Int} {dd : Bool} {D : DiskP} (h : TL w N A n c rm fu left dd D) (ho : OkP D) :
    Calls Try.prog 42 #[tV (.slice A n c) rm fu left dd] w fun e w' => e = .returned (.int .i64 (usedP D.files : Nat)) ∧ Below w.heap.size w w' := by
  obtain ⟨rs, hn, rfl, rfl, rfl, h⟩ := h
  have hl := h.num
  have := ho.many; have := ho.used; have := ho.room
  exact rused_any h n D.room hn (by omega) (by omega) D.fuse.isSome D.dead
/-- a third block, with a whole struct -/
theorem third_new (w : World) (a b c d e : Value) : TAt (w.alloc (.cells #[a, b, c, d, e] 37)) w.heap.size #[a, b, c, d, e] ∧ Below w.heap.size w (w.alloc (.cells #[a, b, c, d, e] 37)) ∧ (w.alloc (.cells #[a, b, c, d, e] 37)).heap.size = w.heap.size + 1 :=
  ⟨TAt.new w a b c d e, below_new w _, by simp⟩
theorem step_can {D : DiskP} (h : canP D = true) : stepP D = (doesP D D.files, true) := by unfold stepP; rw [if_pos h]
theorem step_cannot {D : DiskP} (h : canP D = false) : stepP D = (diesP D, false) := by unfold stepP; rw [if_neg (by rw [h]; decide)]
theorem two_is {w w' : World} {N : Nat → Prop} {R : DiskP × Bool} {A : Option Addr} {n c rm : Nat} {fu : Bool} {left : Int} {dd : Bool} {E : DiskP} {b : Bool} (h : TL w' N A n c rm fu left dd E) (hb : Below w.heap.size w w') (e : R = (E, b)) : TTwo w N R (.returned (.tuple #[.agg #[.slice A n c, .int .i64 (rm : Int), .bool fu, .int .i64 left, .bool dd], .bool b])) w' := by
  subst e
  exact ⟨_, rfl, h.is, hb⟩
end Go.Proofs.Ythpbhfepiekchaa
