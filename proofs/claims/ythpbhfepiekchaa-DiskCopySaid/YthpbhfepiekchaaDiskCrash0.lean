/- Crashes, plain: the bytes that are kept, file by file; then the cut. No function is walked here. -/
import Derived.Test.YthpbhfepiekchaaDiskActs
import Derived.Test.YthpbhfepiekchaaDiskWays
namespace Go.Proofs.Ythpbhfepiekchaa
open Go.ChangeShapes Go.WideShapes Go.ChangeAt Go.RowKit
set_option linter.unusedVariables false
set_option linter.unusedSimpArgs false

def raiseL : List FileP → Nat → List FileP
  | [], _ => []
  | f :: r, k => ⟨f.name, f.b, f.lasts + keepP f k⟩ :: raiseL r (k - keepP f k)
def restK : List FileP → Nat → Nat
  | [], k => k
  | f :: r, k => restK r (k - keepP f k)
theorem keepP_zero (f : FileP) : keepP f 0 = 0 := by unfold keepP; omega
theorem raise_zero (l : List FileP) : raiseL l 0 = l := by
  induction l with
  | nil => rfl
  | cons f r ih => simp [raiseL, keepP_zero, ih]
theorem raise_append (a b : List FileP) (k : Nat) : raiseL (a ++ b) k = raiseL a k ++ raiseL b (restK a k) := by
  induction a generalizing k with
  | nil => rfl
  | cons f r ih => simp [raiseL, restK, ih]
theorem rest_append (a b : List FileP) (k : Nat) : restK (a ++ b) k = restK b (restK a k) := by
  induction a generalizing k with
  | nil => rfl
  | cons f r ih => simp [restK, ih]
theorem raise_each {l : List FileP} (h : ∀ g ∈ l, g.lasts ≤ g.b.length) (k : Nat) : ∀ g ∈ raiseL l k, g.lasts ≤ g.b.length := by
  induction l generalizing k with
  | nil => intro g hg; cases hg
  | cons f r ih =>
    intro g hg
    rcases List.mem_cons.1 hg with rfl | hg
    · have := h f (List.mem_cons_self ..)
      show f.lasts + keepP f k ≤ f.b.length
      unfold keepP; omega
    · exact ih (fun q hq => h q (List.mem_cons_of_mem _ hq)) _ g hg
theorem used_le {l : List FileP} {f : FileP} (h : f ∈ l) : f.b.length ≤ usedP l := by
  induction l with
  | nil => cases h
  | cons g r ih =>
    simp only [usedP, List.map_cons, List.sum_cons] at ih ⊢
    rcases List.mem_cons.1 h with rfl | h
    · omega
    · have := ih h; omega
theorem raise_used (l : List FileP) (k : Nat) : usedP (raiseL l k) = usedP l := by
  induction l generalizing k with
  | nil => rfl
  | cons f r ih =>
    have := ih (k - keepP f k)
    simp only [usedP, raiseL, List.map_cons, List.sum_cons] at this ⊢
    omega
theorem raise_names (l : List FileP) (k : Nat) : (raiseL l k).map FileP.name = l.map FileP.name := by
  induction l generalizing k with
  | nil => rfl
  | cons f r ih => simp [raiseL, ih]
theorem rising_of {l m : List FileP} (h : l.map FileP.name = m.map FileP.name) (hm : Rising m) : Rising l := by
  have h1 : (m.map FileP.name).Pairwise (· < ·) := List.pairwise_map.2 hm
  rw [← h] at h1
  exact List.pairwise_map.1 h1
theorem find_append (a b : List FileP) (s : List UInt8) : findP (a ++ b) s = (findP a s).or (findP b s) := by
  induction a with
  | nil => simp [findP]
  | cons f r ih =>
    simp only [List.cons_append, findP]
    split
    · rfl
    · exact ih
theorem find_front {a b : List FileP} {g : FileP} (h : Rising (a ++ g :: b)) : findP a g.name = none := by
  refine findP_none.2 fun f hf e => ?_
  have := (List.pairwise_append.1 h).2.2 f hf g (List.mem_cons_self ..)
  rw [e] at this
  exact List.lt_irrefl _ this
theorem find_mid {a b : List FileP} {g : FileP} (h : Rising (a ++ g :: b)) : findP (a ++ g :: b) g.name = some g := by
  rw [find_append, find_front h]; simp [findP]
theorem put_mid {a b : List FileP} {g f : FileP} (h : Rising (a ++ g :: b)) (hn : g.name = f.name) : putP (a ++ g :: b) f = a ++ f :: b := by
  have hr : Rising (a ++ f :: b) := rising_of (by simp [hn]) h
  refine rising_same (rising_put h f) hr fun t => ?_
  by_cases ht : t = f.name
  · subst ht
    rw [find_put_same, find_mid hr]
  · rw [find_put_other _ _ ht, find_append, find_append]
    congr 1
    have h1 : ¬ g.name = t := fun e => ht (by rw [← e, hn])
    have h2 : ¬ f.name = t := fun e => ht e.symm
    simp [findP, h1, h2]
def cutF (f : FileP) : FileP := ⟨f.name, f.b.take f.lasts, f.lasts⟩
def cutL (ns : List (List UInt8)) (l : List FileP) : List FileP := l.map fun f => if f.name ∈ ns then cutF f else f
theorem cut_names (ns : List (List UInt8)) (l : List FileP) : (cutL ns l).map FileP.name = l.map FileP.name := by
  unfold cutL
  rw [List.map_map]
  refine List.map_congr_left fun f _ => ?_
  simp only [Function.comp_apply]
  split <;> rfl
theorem cut_nil (l : List FileP) : cutL [] l = l := by simp [cutL]
theorem find_cut (ns : List (List UInt8)) (l : List FileP) (t : List UInt8) : findP (cutL ns l) t = (findP l t).map fun f => if t ∈ ns then cutF f else f := by
  induction l with
  | nil => rfl
  | cons f r ih =>
    have e : cutL ns (f :: r) = (if f.name ∈ ns then cutF f else f) :: cutL ns r := rfl
    rw [e]
    have hn : (if f.name ∈ ns then cutF f else f).name = f.name := by split <;> rfl
    simp only [findP, hn]
    split
    · rename_i hf
      subst hf
      rfl
    · exact ih
theorem cut_put {ns : List (List UInt8)} {l : List FileP} {s : List UInt8} {f : FileP} (h : Rising l) (hf : findP l s = some f) (hs : s ∉ ns) : putP (cutL ns l) ⟨s, f.b.take f.lasts, f.lasts⟩ = cutL (ns ++ [s]) l := by
  refine rising_same (rising_put (rising_of (cut_names ns l) h) _) (rising_of (cut_names _ l) h) fun t => ?_
  by_cases ht : t = s
  · subst ht
    have e1 := find_put_same (cutL ns l) ⟨t, f.b.take f.lasts, f.lasts⟩
    simp only at e1
    rw [e1, find_cut, hf]
    have := (findP_name hf).1
    simp [cutF, this]
  · have e1 := find_put_other (cutL ns l) ⟨s, f.b.take f.lasts, f.lasts⟩ (t := t) ht
    rw [e1, find_cut, find_cut]
    simp [ht]
theorem cut_all {ns : List (List UInt8)} {l : List FileP} (h : ∀ f ∈ l, f.name ∈ ns) : cutL ns l = l.map cutF := by
  unfold cutL
  exact List.map_congr_left fun f hf => if_pos (h f hf)
theorem cut_raise (l : List FileP) (k : Nat) : (raiseL l k).map cutF = crashL l k := by
  induction l generalizing k with
  | nil => rfl
  | cons f r ih => simp [raiseL, crashL, cutF, ih]
/-- how the files stand in the midst of a file -/
theorem raise_here {l a b : List FileP} {f : FileP} (h : l = a ++ f :: b) (k : Nat) : raiseL l k = raiseL a k ++ ⟨f.name, f.b, f.lasts + keepP f (restK a k)⟩ :: raiseL b (restK a k - keepP f (restK a k)) := by
  rw [h, raise_append]; rfl
theorem own_take {w : World} {n0 n c : Nat} {A : Option Addr} {b : List UInt8} (h : w.ownsRow 0 5 1 (.slice A n0 c) n0 (cellsOf b)) (hn : n ≤ n0) : w.ownsRow 0 5 1 (.slice A n c) n (cellsOf (b.take n)) := by
  have hl : b.length = n0 := by have := h.1; rwa [cellsOf_length, Nat.mul_one] at this
  refine ⟨by rw [cellsOf_length, List.length_take]; omega, ?_⟩
  rcases h.2 with ⟨e, h0⟩ | ⟨g, cap, cur, e, h1, h2, h3, h4, h5, h6⟩
  · cases e
    obtain rfl : n = 0 := by omega
    exact .inl ⟨rfl, rfl⟩
  · cases e
    refine .inr ⟨g, c, cur, rfl, h1, h2, by omega, h4, h5, ?_⟩
    rw [Nat.mul_one] at h6 ⊢
    have : cellsOf (b.take n) = (cellsOf b).take n := by simp [cellsOf, List.map_take]
    rw [this, ← h6, List.take_take, Nat.min_eq_left hn]
section
variable {w : World} {d m c : Nat} {es : Array MapEntry} {left : Int} {loc : List UInt8 → Nat} {row : List UInt8 → Value} {S : Nat → Prop} {D : DiskP}
/-- a file is cut -/
theorem DiskIn.cutFile (h : DiskIn w d m es c left loc row S D) {s : List UInt8} {f : FileP} (hf : findP D.files s = some f) {A : Option Addr} {cc n : Nat} (hv : row s = .slice A f.b.length cc) (hn : n ≤ f.b.length) :
    ∃ row', DiskIn (w.setCell ⟨loc s, 0, none⟩ (.slice A n cc)) d m es c left loc row' S ⟨putP D.files ⟨s, f.b.take n, f.lasts⟩, D.room, D.fuse, D.dead⟩ := by
  have hfile := h.file s f hf
  have hown := hfile.row
  rw [hv] at hown
  have hbk : ∀ k, (Value.slice A n cc).ownBlock = some k → (row s).ownBlock = some k := fun k hk => by
    rw [hv]; cases A with
    | none => cases hk
    | some a => exact hk
  have hne : ∀ k, (row s).ownBlock = some k → k ≠ loc s := fun k hk e => h.loc_row hf hf hk e.symm
  have := h.refile (w' := w.setCell ⟨loc s, 0, none⟩ (.slice A n cc)) hf (v := .slice A n cc) (b := f.b.take n) (n := f.lasts)
    ⟨by simpa using heap_setCell_same w (loc s) 0 _ _ (.slice A n cc) hfile.box, by
      have hl : (f.b.take n).length = n := by rw [List.length_take]; omega
      rw [hl]
      exact own_at (own_take hown hn) fun k hk => Below.heap_setCell _ _ _ _ (hne k (hbk k hk))⟩
    (fun k _ hk _ => Below.heap_setCell _ _ _ _ hk) (by simp [World.setCell]) (fun k hk => .inl (hbk k hk))
  exact ⟨_, this.sameS (fun _ => rfl) fun k => ⟨fun hk => .inl hk, fun hk => hk.elim id fun hr => (h.mineF s f hf).2 k (hbk k hr)⟩⟩
/-- the fuse is taken out, and it lives -/
theorem DiskIn.wakes (h : DiskIn w d m es c left loc row S D) : DiskIn ((w.setCell ⟨d, 2, none⟩ (.int .i64 (-1))).setCell ⟨d, 3, none⟩ (.bool false)) d m es c (-1) loc row S ⟨D.files, D.room, none, false⟩ :=
  h.rehead ((h.head.setLeft (-1)).setDead false) ((turn_cell w ⟨d, 2, none⟩ _ (· = d) rfl).trans (turn_cell _ ⟨d, 3, none⟩ _ (· = d) rfl) fun i hi => .inl hi) (by simp [FuseIs]) (by omega)
end
end Go.Proofs.Ythpbhfepiekchaa
