/- A disk in memory: what its blocks hold; what may turn. Nothing here walks a function. -/
import Derived.Test.YthpbhfepiekchaaStrFacts
import Derived.Test.YthpbhfepiekchaaMapText
import Derived.Test.YthpbhfepiekchaaDiskPlain
import Derived.Lib.Builder
import Derived.Laws.Rows
namespace Go.Proofs.Ythpbhfepiekchaa
open Go.ChangeShapes Go.WideShapes Go.ChangeAt Go.RowKit
set_option linter.unusedVariables false
set_option linter.unusedSimpArgs false

/-- of what was there nothing turns but blocks of S -/
structure Turn (S : Nat → Prop) (w w' : World) : Prop where
  os : w'.os = w.os
  tape : w'.tape = w.tape
  output : w'.output = w.output
  size : w.heap.size ≤ w'.heap.size
  block : ∀ k, k < w.heap.size → ¬ S k → w'.heap[k]? = w.heap[k]?
theorem Turn.refl (S : Nat → Prop) (w : World) : Turn S w w := ⟨rfl, rfl, rfl, Nat.le_refl _, fun _ _ _ => rfl⟩
theorem Turn.trans {S S' : Nat → Prop} {a b c : World} (h : Turn S a b) (k : Turn S' b c) (hs : ∀ i, S' i → S i ∨ a.heap.size ≤ i) : Turn S a c :=
  ⟨k.os.trans h.os, k.tape.trans h.tape, k.output.trans h.output, Nat.le_trans h.size k.size, fun i hi hn => (k.block i (Nat.lt_of_lt_of_le hi h.size) (fun h2 => by
    rcases hs i h2 with h3 | h3
    · exact hn h3
    · omega)).trans (h.block i hi hn)⟩
theorem Turn.mono {S S' : Nat → Prop} {a b : World} (h : Turn S a b) (hs : ∀ i, S i → S' i) : Turn S' a b :=
  ⟨h.os, h.tape, h.output, h.size, fun i hi hn => h.block i hi fun h2 => hn (hs i h2)⟩
theorem Turn.of {w w' : World} (h : Below w.heap.size w w') (S : Nat → Prop) : Turn S w w' := ⟨h.os, h.tape, h.output, h.size, fun k hk _ => h.block k hk⟩
theorem Turn.below {S : Nat → Prop} {a b : World} {B : Nat} (h : Turn S a b) (hB : B ≤ a.heap.size) (hs : ∀ i, S i → B ≤ i) : Below B a b :=
  ⟨h.os, h.tape, h.output, h.size, fun k hk => h.block k (by omega) fun h2 => by have := hs k h2; omega⟩
theorem Turn.drew {S : Nat → Prop} {a b : World} (h : Turn S a b) : Turn S a b.drew := ⟨h.os, h.tape, h.output, h.size, h.block⟩
theorem Turn.from {S : Nat → Prop} {a b : World} (h : Turn S a b) : Turn S a.drew b := ⟨h.os, h.tape, h.output, h.size, h.block⟩
theorem turn_cell (w : World) (p : Addr) (v : Value) (S : Nat → Prop) (hp : S p.block) : Turn S w (w.setCell p v) :=
  ⟨rfl, rfl, rfl, by simp [World.setCell], fun k hk hn => Below.heap_setCell _ _ _ _ (fun e => hn (e ▸ hp))⟩
theorem Turn.grown {S : Nat → Prop} {a b c : World} {row : Option Nat} (h : Turn S a b) (hg : b.grownBy c row) (hr : ∀ k, row = some k → S k ∨ a.heap.size ≤ k) : Turn S a c :=
  ⟨hg.os.trans h.os, hg.tape.trans h.tape, hg.output.trans h.output, Nat.le_trans h.size hg.size, fun k hk hn => (hg.block k (Nat.lt_of_lt_of_le hk h.size) (fun e => by
    rcases hr k e.symm with h3 | h3
    · exact hn h3
    · omega)).trans (h.block k hk hn)⟩

/-- the four cells of a disk's struct -/
def headC (room : Nat) (m : Nat) (left : Int) (dead : Bool) : Array Value := #[.int .i64 (room : Int), .map (some m), .int .i64 left, .bool dead]
def HeadAt (w : World) (d room m : Nat) (left : Int) (dead : Bool) : Prop := w.heap[d]? = some (.cells (headC room m left dead) 62 (0, 0))
section
variable {w : World} {d room m : Nat} {left : Int} {dead : Bool} (h : HeadAt w d room m left dead)
include h
theorem HeadAt.lt : d < w.heap.size := (Array.getElem?_eq_some_iff.1 h).1
theorem HeadAt.c0 : w.cell? ⟨d, 0, none⟩ = some (.int .i64 (room : Int)) := by rw [cell_of_row w _ _ _ _ _ h]; rfl
theorem HeadAt.c1 : w.cell? ⟨d, 1, none⟩ = some (.map (some m)) := by rw [cell_of_row w _ _ _ _ _ h]; rfl
theorem HeadAt.c2 : w.cell? ⟨d, 2, none⟩ = some (.int .i64 left) := by rw [cell_of_row w _ _ _ _ _ h]; rfl
theorem HeadAt.c3 : w.cell? ⟨d, 3, none⟩ = some (.bool dead) := by rw [cell_of_row w _ _ _ _ _ h]; rfl
theorem HeadAt.fz (i : Nat) : w.frozen? ⟨d, i, none⟩ = false := Lib.frozen_of_heap h i
theorem HeadAt.keep {w' : World} (hb : w'.heap[d]? = w.heap[d]?) : HeadAt w' d room m left dead := hb.trans h
theorem HeadAt.setLeft (x : Int) : HeadAt (w.setCell ⟨d, 2, none⟩ (.int .i64 x)) d room m x dead := by
  have := heap_setCell_same w d 2 _ _ (.int .i64 x) h
  simpa [HeadAt, headC] using this
theorem HeadAt.setDead (x : Bool) : HeadAt (w.setCell ⟨d, 3, none⟩ (.bool x)) d room m left x := by
  have := heap_setCell_same w d 3 _ _ (.bool x) h
  simpa [HeadAt, headC] using this
end
/-- a file's struct and its bytes -/
structure FileAt (w : World) (fb : Nat) (v : Value) (b : List UInt8) (n : Nat) : Prop where
  box : w.heap[fb]? = some (.cells #[v, .int .i64 (n : Int)] 67 (0, 0))
  row : w.ownsRow 0 5 1 v b.length (cellsOf b)
section
variable {w : World} {fb n : Nat} {v : Value} {b : List UInt8} (h : FileAt w fb v b n)
include h
theorem FileAt.lt : fb < w.heap.size := (Array.getElem?_eq_some_iff.1 h.box).1
theorem FileAt.c0 : w.cell? ⟨fb, 0, none⟩ = some v := by rw [cell_of_row w _ _ _ _ _ h.box]; rfl
theorem FileAt.c1 : w.cell? ⟨fb, 1, none⟩ = some (.int .i64 (n : Int)) := by rw [cell_of_row w _ _ _ _ _ h.box]; rfl
theorem FileAt.fz (i : Nat) : w.frozen? ⟨fb, i, none⟩ = false := Lib.frozen_of_heap h.box i
theorem FileAt.open : ∃ A c, v = .slice A b.length c ∧ b.length ≤ c ∧ PieceOk w ⟨A, c, b⟩ ∨ 140737488355328 < b.length := by
  by_cases hb : b.length ≤ 140737488355328
  · obtain ⟨A, c, e, hl, hp⟩ := own_pieceAny h.row hb
    exact ⟨A, c, .inl ⟨e, hp.fits, hp⟩⟩
  · exact ⟨none, 0, .inr (by omega)⟩
end
theorem own_at {w w' : World} {base n : Nat} {e : TypeId} {v : Value} {xs : List Value} (h : w.ownsRow base e 1 v n xs) (hb : ∀ k, v.ownBlock = some k → w'.heap[k]? = w.heap[k]?) : w'.ownsRow base e 1 v n xs := by
  refine ⟨h.1, ?_⟩
  rcases h.2 with h0 | ⟨g, cap, cur, rfl, h1, h2, h3⟩
  · exact Or.inl h0
  · exact Or.inr ⟨g, cap, cur, rfl, h1, (hb g rfl).trans h2, h3⟩
theorem FileAt.keep {w w' : World} {fb n : Nat} {v : Value} {b : List UInt8} (h : FileAt w fb v b n) (h1 : w'.heap[fb]? = w.heap[fb]?) (h2 : ∀ k, v.ownBlock = some k → w'.heap[k]? = w.heap[k]?) : FileAt w' fb v b n :=
  ⟨h1.trans h.box, own_at h.row h2⟩
theorem own_cells {w : World} {base n k : Nat} {e : TypeId} {v : Value} {xs : List Value} (h : w.ownsRow base e 1 v n xs) (hk : v.ownBlock = some k) : ∃ cur, w.heap[k]? = some (.cells cur e (0, 0)) := by
  rcases h.2 with ⟨rfl, _⟩ | ⟨g, cap, cur, rfl, _, h2, _⟩
  · cases hk
  · cases hk; exact ⟨cur, h2⟩
/-- what left says of the fuse -/
def FuseIs (left : Int) : Option Nat → Prop
  | none => left < 0
  | some k => left = (k : Int)
/-- a disk in memory: its struct in block d, its map in block m; S: all blocks that are its own -/
structure DiskIn (w : World) (d m : Nat) (es : Array MapEntry) (c : Nat) (left : Int) (loc : List UInt8 → Nat) (row : List UInt8 → Value) (S : Nat → Prop) (D : DiskP) : Prop where
  head : HeadAt w d D.room m left D.dead
  map : MapT w m es c
  fuse : FuseIs left D.fuse
  fits : -9223372036854775808 ≤ left ∧ left ≤ 9223372036854775807
  look : ∀ s, valM es s = (findP D.files s).map fun f => .pointer (some ⟨loc s, 0, none⟩)
  many : es.size = D.files.length
  file : ∀ s f, findP D.files s = some f → FileAt w (loc s) (row s) f.b f.lasts
  inj : ∀ s t f g, findP D.files s = some f → findP D.files t = some g → loc s = loc t → s = t
  rinj : ∀ s t f g k, findP D.files s = some f → findP D.files t = some g → (row s).ownBlock = some k → (row t).ownBlock = some k → s = t
  rise : Rising D.files
  low : ∀ k, S k → k < w.heap.size
  mineD : S d
  mineM : S m
  mineF : ∀ s f, findP D.files s = some f → S (loc s) ∧ ∀ k, (row s).ownBlock = some k → S k
def DiskM (w : World) (d : Nat) (S : Nat → Prop) (D : DiskP) : Prop := OkP D ∧ ∃ m es c left loc row, DiskIn w d m es c left loc row S D
section
variable {w w' : World} {d m c : Nat} {es : Array MapEntry} {left : Int} {loc : List UInt8 → Nat} {row : List UInt8 → Value} {S : Nat → Prop} {D : DiskP}
theorem DiskIn.keep (h : DiskIn w d m es c left loc row S D) (hk : ∀ k, S k → w'.heap[k]? = w.heap[k]?) : DiskIn w' d m es c left loc row S D :=
  { h with
    head := h.head.keep (hk d h.mineD)
    map := h.map.keep (hk m h.mineM)
    file := fun s f hf => (h.file s f hf).keep (hk _ (h.mineF s f hf).1) fun k hr => hk k ((h.mineF s f hf).2 k hr)
    low := fun k hs => by
      have h1 := h.low k hs
      have h2 := hk k hs
      rw [Array.getElem?_eq_getElem h1] at h2
      exact (Array.getElem?_eq_some_iff.1 h2).1 }
theorem DiskIn.below (h : DiskIn w d m es c left loc row S D) (hb : Below w.heap.size w w') : DiskIn w' d m es c left loc row S D := h.keep fun k hk => hb.block k (h.low k hk)
theorem DiskM.keep (h : DiskM w d S D) (hk : ∀ k, S k → w'.heap[k]? = w.heap[k]?) : DiskM w' d S D := by
  obtain ⟨h0, m, es, c, left, loc, row, h⟩ := h
  exact ⟨h0, m, es, c, left, loc, row, h.keep hk⟩
theorem DiskM.low (h : DiskM w d S D) : ∀ k, S k → k < w.heap.size := by
  obtain ⟨h0, m, es, c, left, loc, row, h⟩ := h
  exact h.low
theorem DiskM.below (h : DiskM w d S D) (hb : Below w.heap.size w w') : DiskM w' d S D := h.keep fun k hk => hb.block k (h.low k hk)
theorem DiskM.turn {T : Nat → Prop} (h : DiskM w d S D) (hb : Turn T w w') (hn : ∀ k, S k → ¬ T k) : DiskM w' d S D := h.keep fun k hk => hb.block k (h.low k hk) (hn k hk)
theorem DiskIn.drew (h : DiskIn w d m es c left loc row S D) : DiskIn w.drew d m es c left loc row S D := h.keep fun _ _ => rfl
/-- the map is no block of cells -/
theorem DiskIn.map_ne (h : DiskIn w d m es c left loc row S D) {k : Nat} {cs : Array Value} {e : TypeId} {fr : Nat × Nat} (hk : w.heap[k]? = some (.cells cs e fr)) : k ≠ m := fun e => by
  have h1 := h.map.row
  rw [← e, hk] at h1
  cases h1
theorem DiskIn.head_ne (h : DiskIn w d m es c left loc row S D) {k : Nat} {cs : Array Value} {e : TypeId} {fr : Nat × Nat} (hk : w.heap[k]? = some (.cells cs e fr)) (he : e ≠ 62) : k ≠ d := fun e2 => by
  have h1 : w.heap[d]? = _ := h.head
  rw [← e2, hk] at h1
  exact he (by simpa using congrArg (fun o => match o with | some (Obj.cells _ e _) => e | _ => 0) h1)
theorem DiskIn.loc_ne (h : DiskIn w d m es c left loc row S D) {s : List UInt8} {f : FileP} (hf : findP D.files s = some f) : loc s ≠ d ∧ loc s ≠ m ∧ ∀ k, (row s).ownBlock = some k → k ≠ d ∧ k ≠ m := by
  have hb := h.file s f hf
  refine ⟨h.head_ne hb.box (by decide), h.map_ne hb.box, fun k hk => ?_⟩
  obtain ⟨cur, hc⟩ := own_cells hb.row hk
  exact ⟨h.head_ne hc (by decide), h.map_ne hc⟩
theorem DiskIn.loc_row (h : DiskIn w d m es c left loc row S D) {s t : List UInt8} {f g : FileP} (hf : findP D.files s = some f) (hg : findP D.files t = some g) {k : Nat} (hk : (row t).ownBlock = some k) : loc s ≠ k := fun e => by
  have h1 := (h.file s f hf).box
  obtain ⟨cur, hc⟩ := own_cells (h.file t g hg).row hk
  rw [e, hc] at h1
  simp at h1
/-- the struct's own cells turn -/
theorem DiskIn.rehead (h : DiskIn w d m es c left loc row S D) {left' : Int} {dead' : Bool} {u : Option Nat} (hh : HeadAt w' d D.room m left' dead') (ht : Turn (· = d) w w') (hu : FuseIs left' u) (hf : -9223372036854775808 ≤ left' ∧ left' ≤ 9223372036854775807) :
    DiskIn w' d m es c left' loc row S ⟨D.files, D.room, u, dead'⟩ :=
  { h with
    head := hh
    map := h.map.keep (ht.block m (h.low m h.mineM) fun e => by have h1 := h.map.row; have h2 : w.heap[d]? = _ := h.head; rw [e, h2] at h1; cases h1)
    fuse := hu
    fits := hf
    file := fun s f hf => (h.file s f hf).keep (ht.block _ (h.file s f hf).lt (h.loc_ne hf).1) fun k hr => ht.block k (h.low k ((h.mineF s f hf).2 k hr)) ((h.loc_ne hf).2.2 k hr).1
    low := fun k hs => Nat.lt_of_lt_of_le (h.low k hs) ht.size }
/-- a file's struct, and its row, turn -/
theorem DiskIn.refile (h : DiskIn w d m es c left loc row S D) {s : List UInt8} {f : FileP} (hf : findP D.files s = some f) {v : Value} {b : List UInt8} {n : Nat} (hv : FileAt w' (loc s) v b n)
    (hold : ∀ k, S k → k ≠ loc s → (∀ j, (row s).ownBlock = some j → k ≠ j) → w'.heap[k]? = w.heap[k]?) (hsz : w.heap.size ≤ w'.heap.size)
    (hrow : ∀ k, v.ownBlock = some k → (row s).ownBlock = some k ∨ w.heap.size ≤ k) :
    DiskIn w' d m es c left loc (fun t => if t = s then v else row t) (fun k => S k ∨ v.ownBlock = some k) ⟨putP D.files ⟨s, b, n⟩, D.room, D.fuse, D.dead⟩ := by
  have fsame := find_put_same D.files ⟨s, b, n⟩
  have foth : ∀ t, t ≠ s → findP (putP D.files ⟨s, b, n⟩) t = findP D.files t := fun t ht => find_put_other D.files ⟨s, b, n⟩ ht
  simp only at fsame
  have hln := h.loc_ne hf
  have hoth : ∀ t g, t ≠ s → findP D.files t = some g → FileAt w' (loc t) (row t) g.b g.lasts := fun t g hts hg => by
    refine (h.file t g hg).keep (hold _ (h.mineF t g hg).1 (fun e => hts (h.inj t s g f hg hf e)) (fun j hj => h.loc_row hg hf hj)) fun k hk => hold k ((h.mineF t g hg).2 k hk) (fun e => h.loc_row hf hg hk e.symm) (fun j hj e => hts (h.rinj t s g f k hg hf hk (e ▸ hj)))
  have hrn : ∀ t g k, t ≠ s → findP D.files t = some g → (row t).ownBlock = some k → v.ownBlock ≠ some k := fun t g k hts hg hk hv2 => by
    rcases hrow k hv2 with h1 | h1
    · exact hts (h.rinj t s g f k hg hf hk h1)
    · have := h.low k ((h.mineF t g hg).2 k hk); omega
  refine { head := ?_, map := ?_, fuse := h.fuse, fits := h.fits, look := ?_, many := ?_, file := ?_, inj := ?_, rinj := ?_, rise := rising_put h.rise _, low := ?_, mineD := .inl h.mineD, mineM := .inl h.mineM, mineF := ?_ }
  · exact h.head.keep (hold d h.mineD (fun e => hln.1 e.symm) fun j hj e => (hln.2.2 j hj).1 e.symm)
  · exact h.map.keep (hold m h.mineM (fun e => hln.2.1 e.symm) fun j hj e => (hln.2.2 j hj).2 e.symm)
  · intro t
    rw [h.look t]
    by_cases hts : t = s
    · subst hts; simp only [fsame, hf, Option.map_some]
    · simp only [foth t hts]
  · rw [h.many]; exact ((used_put_old h.rise (f := ⟨s, b, n⟩) hf).2).symm
  · intro t g hg
    by_cases hts : t = s
    · subst hts
      simp only [fsame, Option.some.injEq] at hg
      subst hg
      simpa using hv
    · simp only [foth t hts] at hg
      simpa [hts] using hoth t g hts hg
  · intro t u g g' hg hg' e
    have h1 : ∃ q, findP D.files t = some q := by
      by_cases hts : t = s
      · exact ⟨f, hts ▸ hf⟩
      · exact ⟨g, by simpa only [foth t hts] using hg⟩
    have h2 : ∃ q, findP D.files u = some q := by
      by_cases hts : u = s
      · exact ⟨f, hts ▸ hf⟩
      · exact ⟨g', by simpa only [foth u hts] using hg'⟩
    obtain ⟨q, h1⟩ := h1
    obtain ⟨q', h2⟩ := h2
    exact h.inj t u q q' h1 h2 e
  · intro t u g g' k hg hg' h1 h2
    by_cases hts : t = s
    · by_cases hus : u = s
      · rw [hts, hus]
      · simp only [foth u hus] at hg'
        simp only [if_pos hts] at h1
        simp only [if_neg hus] at h2
        exact absurd h1 (hrn u g' k hus hg' h2)
    · simp only [foth t hts] at hg
      simp only [if_neg hts] at h1
      by_cases hus : u = s
      · simp only [if_pos hus] at h2
        exact absurd h2 (hrn t g k hts hg h1)
      · simp only [foth u hus] at hg'
        simp only [if_neg hus] at h2
        exact h.rinj t u g g' k hg hg' h1 h2
  · rintro k (hk | hk)
    · exact Nat.lt_of_lt_of_le (h.low k hk) hsz
    · obtain ⟨cur, hc⟩ := own_cells hv.row hk
      exact (Array.getElem?_eq_some_iff.1 hc).1
  · intro t g hg
    by_cases hts : t = s
    · subst hts
      exact ⟨.inl (h.mineF t f hf).1, fun k hk => .inr (by simpa using hk)⟩
    · simp only [foth t hts] at hg
      exact ⟨.inl (h.mineF t g hg).1, fun k hk => .inl ((h.mineF t g hg).2 k (by simpa [hts] using hk))⟩
/-- a name is laid into the map: a new one, or one that was there -/
theorem DiskIn.putin (h : DiskIn w d m es c left loc row S D) {s : List UInt8} {fb : Nat} {v : Value} {b : List UInt8} {n : Nat} {es' : Array MapEntry} {c' : Nat} (hm : MapT w' m es' c') (h1 : valM es' s = some (.pointer (some ⟨fb, 0, none⟩))) (h2 : ∀ t, t ≠ s → valM es' t = valM es t)
    (h3 : es'.size = es.size + (if (valM es s).isSome = true then 0 else 1)) (hv : FileAt w' fb v b n) (hold : ∀ k, S k → k ≠ m → w'.heap[k]? = w.heap[k]?) (hsz : w.heap.size ≤ w'.heap.size)
    (hl : ∀ t g, t ≠ s → findP D.files t = some g → loc t ≠ fb) (hr : ∀ t g k, t ≠ s → findP D.files t = some g → (row t).ownBlock = some k → v.ownBlock ≠ some k) :
    DiskIn w' d m es' c' left (fun t => if t = s then fb else loc t) (fun t => if t = s then v else row t) (fun k => S k ∨ k = fb ∨ v.ownBlock = some k) ⟨putP D.files ⟨s, b, n⟩, D.room, D.fuse, D.dead⟩ := by
  have fsame := find_put_same D.files ⟨s, b, n⟩
  have foth : ∀ t, t ≠ s → findP (putP D.files ⟨s, b, n⟩) t = findP D.files t := fun t ht => find_put_other D.files ⟨s, b, n⟩ ht
  simp only at fsame
  have hdm : d ≠ m := fun e => by
    have h1 := h.map.row
    have h2 : w.heap[d]? = _ := h.head
    rw [← e, h2] at h1; cases h1
  refine { head := h.head.keep (hold d h.mineD hdm), map := hm, fuse := h.fuse, fits := h.fits, look := ?_, many := ?_, file := ?_, inj := ?_, rinj := ?_, rise := rising_put h.rise _, low := ?_, mineD := .inl h.mineD, mineM := .inl h.mineM, mineF := ?_ }
  · intro t
    by_cases hts : t = s
    · subst hts; simp only [fsame, Option.map_some, if_true]; exact h1
    · simp only [foth t hts, if_neg hts]; rw [h2 t hts]; exact h.look t
  · rw [h3, h.many, h.look s]
    cases hf : findP D.files s with
    | none => simpa using ((used_put_new (l := D.files) (f := ⟨s, b, n⟩) hf).2).symm
    | some f => simpa using ((used_put_old h.rise (f := ⟨s, b, n⟩) hf).2).symm
  · intro t g hg
    by_cases hts : t = s
    · subst hts
      simp only [fsame, Option.some.injEq] at hg
      subst hg
      simpa using hv
    · simp only [foth t hts] at hg
      simp only [if_neg hts]
      exact (h.file t g hg).keep (hold _ (h.mineF t g hg).1 (h.loc_ne hg).2.1) fun k hk => hold k ((h.mineF t g hg).2 k hk) ((h.loc_ne hg).2.2 k hk).2
  · intro t u g g' hg hg' e
    by_cases hts : t = s
    · by_cases hus : u = s
      · rw [hts, hus]
      · simp only [foth u hus] at hg'
        simp only [if_pos hts, if_neg hus] at e
        exact absurd e.symm (hl u g' hus hg')
    · simp only [foth t hts] at hg
      by_cases hus : u = s
      · simp only [if_neg hts, if_pos hus] at e
        exact absurd e (hl t g hts hg)
      · simp only [foth u hus] at hg'
        simp only [if_neg hts, if_neg hus] at e
        exact h.inj t u g g' hg hg' e
  · intro t u g g' k hg hg' h1 h2
    by_cases hts : t = s
    · by_cases hus : u = s
      · rw [hts, hus]
      · simp only [foth u hus] at hg'
        simp only [if_pos hts] at h1
        simp only [if_neg hus] at h2
        exact absurd h1 (hr u g' k hus hg' h2)
    · simp only [foth t hts] at hg
      simp only [if_neg hts] at h1
      by_cases hus : u = s
      · simp only [if_pos hus] at h2
        exact absurd h2 (hr t g k hts hg h1)
      · simp only [foth u hus] at hg'
        simp only [if_neg hus] at h2
        exact h.rinj t u g g' k hg hg' h1 h2
  · rintro k (hk | rfl | hk)
    · exact Nat.lt_of_lt_of_le (h.low k hk) hsz
    · exact hv.lt
    · obtain ⟨cur, hc⟩ := own_cells hv.row hk
      exact (Array.getElem?_eq_some_iff.1 hc).1
  · intro t g hg
    by_cases hts : t = s
    · subst hts
      exact ⟨.inr (.inl (by simp)), fun k hk => .inr (.inr (by simpa using hk))⟩
    · simp only [foth t hts] at hg
      simp only [if_neg hts]
      exact ⟨.inl (h.mineF t g hg).1, fun k hk => .inl ((h.mineF t g hg).2 k hk)⟩
/-- a name is taken out of the map -/
theorem DiskIn.takeout (h : DiskIn w d m es c left loc row S D) {s : List UInt8} {es' : Array MapEntry} {c' : Nat} (hm : MapT w' m es' c') (h1 : valM es' s = none) (h2 : ∀ t, t ≠ s → valM es' t = valM es t)
    (h3 : es'.size + (if (valM es s).isSome = true then 1 else 0) = es.size) (hold : ∀ k, S k → k ≠ m → w'.heap[k]? = w.heap[k]?) (hsz : w.heap.size ≤ w'.heap.size) :
    DiskIn w' d m es' c' left loc row S ⟨withoutP D.files s, D.room, D.fuse, D.dead⟩ := by
  have foth : ∀ t g, findP (withoutP D.files s) t = some g → t ≠ s ∧ findP D.files t = some g := fun t g hg => by
    by_cases hts : t = s
    · subst hts; rw [find_without_same] at hg; cases hg
    · rw [find_without_other _ hts] at hg; exact ⟨hts, hg⟩
  have hdm : d ≠ m := fun e => by
    have h1 := h.map.row
    have h2 : w.heap[d]? = _ := h.head
    rw [← e, h2] at h1; cases h1
  refine { head := h.head.keep (hold d h.mineD hdm), map := hm, fuse := h.fuse, fits := h.fits, look := ?_, many := ?_, file := ?_, inj := ?_, rinj := ?_, rise := rising_without h.rise _, low := fun k hk => Nat.lt_of_lt_of_le (h.low k hk) hsz, mineD := h.mineD, mineM := h.mineM, mineF := ?_ }
  · intro t
    by_cases hts : t = s
    · subst hts; simp only [find_without_same, Option.map_none]; exact h1
    · simp only [find_without_other _ hts]; rw [h2 t hts]; exact h.look t
  · rw [h.many, h.look s] at h3
    cases hf : findP D.files s with
    | none => simp only [without_miss hf]; simp only [hf] at h3; simpa using h3
    | some f =>
      have := (used_without h.rise hf).2
      simp only [hf] at h3
      simp at h3
      simp only; omega
  · intro t g hg
    obtain ⟨_, hg⟩ := foth t g hg
    exact (h.file t g hg).keep (hold _ (h.mineF t g hg).1 (h.loc_ne hg).2.1) fun k hk => hold k ((h.mineF t g hg).2 k hk) ((h.loc_ne hg).2.2 k hk).2
  · intro t u g g' hg hg' e
    exact h.inj t u g g' (foth t g hg).2 (foth u g' hg').2 e
  · intro t u g g' k hg hg' h1 h2
    exact h.rinj t u g g' k (foth t g hg).2 (foth u g' hg').2 h1 h2
  · intro t g hg
    exact h.mineF t g (foth t g hg).2
end
end Go.Proofs.Ythpbhfepiekchaa
