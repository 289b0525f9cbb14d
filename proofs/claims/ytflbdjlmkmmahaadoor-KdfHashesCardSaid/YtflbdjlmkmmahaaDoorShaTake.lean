/- The contract of sha.take: words and what is left over, behind a piece more. -/
import Derived.Test.YtflbdjlmkmmahaaDoorShaPad
import Derived.Laws.ResultCell
namespace Go.Proofs.YtflbdjlmkmmahaaDoor
open Go.ChangeShapes Go.WideShapes Go.ChangeAt Go.RowKit
set_option linter.unusedVariables false
set_option linter.unusedSimpArgs false

theorem grown_then {a b c : World} {row : Option Nat} (h : a.grownBy b row) (k : b.grownBy c row) : a.grownBy c row :=
  ⟨k.os.trans h.os, k.tape.trans h.tape, k.output.trans h.output, Nat.le_trans h.size k.size, fun i hi hr => (k.block i (Nat.lt_of_lt_of_le hi h.size) hr).trans (h.block i hi hr)⟩
theorem grown_below {a b : World} (h : Below a.heap.size a b) (row : Option Nat) : a.grownBy b row := ⟨h.os, h.tape, h.output, h.size, fun i hi _ => h.block i hi⟩
theorem grown_drew {a b : World} {row : Option Nat} (h : a.grownBy b row) : a.grownBy b.drew row := ⟨h.os, h.tape, h.output, h.size, h.block⟩
theorem grown_row {a b : World} {row : Option Nat} (h : a.grownBy b row) (g : Nat) (cs : Array Value) (hg : a.heap.size ≤ g) : a.grownBy (b.setRow g cs) row :=
  ⟨h.os, h.tape, h.output, by rw [setRow_size]; exact h.size, fun i hi hr => (setRow_other b g i cs (by omega)).trans (h.block i hi hr)⟩
theorem Arr.grown {w w' : World} {g k : Nat} {ty : TypeId} {l : List Nat} (h : Arr w g ty l) (hb : w.grownBy w' (some k)) (hg : g ≠ k) : Arr w' g ty l := (hb.block g h.lt (by simpa using hg)).trans h
theorem Tabs.grown {w w' : World} {k : Nat} (h : Tabs w) (hb : w.grownBy w' (some k)) (hk : 2 ≤ k) : Tabs w' := by
  have hs := h.size
  obtain ⟨⟨t, fr, h0⟩, t', fr', h1⟩ := h
  exact ⟨⟨t, fr, (hb.block 0 (by omega) (by simp; omega)).trans h0⟩, t', fr', (hb.block 1 (by omega) (by simp; omega)).trans h1⟩
/-- bytes apart from block k -/
def Apart (A : Option Addr) (bs : List UInt8) (k : Nat) : Prop := 0 < bs.length → ∀ ad, A = some ad → ad.block ≠ k
theorem BytesAt.grown {w w' : World} {A : Option Addr} {bs : List UInt8} {k : Nat} (h : BytesAt w w.heap.size A bs) (hb : w.grownBy w' (some k)) (hA : Apart A bs k) : BytesAt w' w'.heap.size A bs := fun hn => by
  obtain ⟨b, off, e, hlt, hc⟩ := h hn
  refine ⟨b, off, e, Nat.lt_of_lt_of_le hlt hb.size, fun j hj => ?_⟩
  rw [← hc j hj]
  exact World.cell?_of_block (w := w) (hb.block b hlt (by simpa using hA hn _ e))
theorem BytesAt.front {w : World} {B : Nat} {A : Option Addr} {bs : List UInt8} (h : BytesAt w B A bs) (n : Nat) : BytesAt w B A (bs.take n) := fun hn => by
  have hl : 0 < bs.length := by rw [List.length_take] at hn; omega
  obtain ⟨b, off, e, hlt, hc⟩ := h hl
  refine ⟨b, off, e, hlt, fun j hj => ?_⟩
  rw [List.length_take] at hj
  rw [hc j (by omega)]
  simp
theorem add_none (A : Option Addr) : A.map (·.add 0) = A := by
  cases A with
  | none => rfl
  | some a => simp [Addr.add]
/-- x[:n] -/
theorem slice_hi (A : Option Addr) (m c n : Nat) (h1 : n ≤ c) (w : World) : (Instr.slice 22 (.slice A m c) none (some (.int .i64 (n : Int))) none).run Tryd.prog w = .ok (.slice A n c) w := by
  obtain ⟨i0, hi, hz0, hz1, hz2⟩ := info_parts info_u8
  have e1 : (0 : Int) ≤ (n : Int) ∧ (n : Int) ≤ (c : Int) := by omega
  simp [Instr.slice, Instr.sliceBounds, Instr.sliceBound, asIntOf, run_underlying Tryd.underlying22, sizeOf, typeInfo, hi, e1, add_none]
  intro h; omega
/-- x[n:] -/
theorem slice_lo (A : Option Addr) (m c n : Nat) (h1 : n ≤ m) (h2 : m ≤ c) (hnil : A = none → c = 0) : ∃ A1, (∀ w, (Instr.slice 22 (.slice A m c) (some (.int .i64 (n : Int))) none none).run Tryd.prog w = .ok (.slice A1 (m - n) (c - n)) w) ∧
    (∀ w B bs, bs.length = m → BytesAt w B A bs → BytesAt w B A1 (bs.drop n)) ∧ (∀ k bs, bs.length = m → Apart A bs k → Apart A1 (bs.drop n) k) ∧ (A1 = none → c - n = 0) := by
  obtain ⟨i0, hi, hz0, hz1, hz2⟩ := info_parts info_u8
  have e1 : (0 : Int) ≤ (n : Int) ∧ (n : Int) ≤ (m : Int) := by omega
  refine ⟨if c = n then A else A.map (·.add (n * 1)), fun w => ?_, fun w B bs hm hb hn => ?_, fun k bs hm hk hn ad had => ?_, fun h => ?_⟩
  · simp [Instr.slice, Instr.sliceBounds, Instr.sliceBound, asIntOf, run_underlying Tryd.underlying22, sizeOf, typeInfo, hi, hz1, e1]
    intro h; omega
  · rw [List.length_drop] at hn
    obtain ⟨b, off, rfl, hlt, hc⟩ := hb (by omega)
    refine ⟨b, off + n, ?_, hlt, fun j hj => ?_⟩
    · rw [if_neg (by omega)]; simp [Addr.add]
    · rw [Nat.add_assoc, hc (n + j) (by rw [List.length_drop] at hj; omega)]
      simp
  · split at had
    · exact hk (by rw [List.length_drop] at hn; omega) ad had
    · cases A with
      | none => cases had
      | some a =>
        simp only [Option.map_some, Option.some.injEq] at had
        subst had
        have := hk (by rw [List.length_drop] at hn; omega) a rfl
        unfold Addr.add
        split <;> exact this
  · split at h
    · omega
    · cases A with
      | none => have := hnil rfl; omega
      | some a => cases h

theorem step_load8 {o : Oper} {a : Act} {w : World} {K : Act → World → Prop} {Q : Exit → Act → World → Prop} {E c' : Prop} [Decidable c'] (hgd : c') (x : Operand) (ho : o.op = .load 47 x)
    (g : Nat) (ty : TypeId) (l : List Nat) (hx : a.eval x = .pointer (some ⟨g, 0, none⟩)) (hA : Arr w g ty l) (hl : l.length = 8)
    (h : K (a.put o.dst (wordsV l)) w) : if c' then Oper.wp Tryd.prog o a w K Q else E := by
  rw [if_pos hgd]
  exact wp_load_row _ x ho g hx ty (wordsC l) (0, 0) _ hA Tryd.underlying47 rfl (by rw [wordsC_size, hl]; exact info_words8) h
theorem step_store8 {o : Oper} {a : Act} {w X : World} {K : Act → World → Prop} {Q : Exit → Act → World → Prop} {E c' : Prop} [Decidable c'] (hgd : c') (x y : Operand) (ho : o.op = .store 47 x y)
    (g : Nat) (ty : TypeId) (old l : List Nat) (hx : a.eval x = .pointer (some ⟨g, 0, none⟩)) (hy : a.eval y = wordsV l) (hA : Arr w g ty old) (ho' : old.length = 8) (hl : l.length = 8) (hX : w.setRow g (wordsC l) = X)
    (h : K (a.put o.dst undef) X) : if c' then Oper.wp Tryd.prog o a w K Q else E := by
  rw [if_pos hgd]
  subst hX
  exact wp_store_row _ x y ho g (wordsC l) hx hy ty (wordsC old) hA (by rw [wordsC_size, hl]; exact info_words8) (by rw [wordsC_size, wordsC_size, hl, ho']) (wordsC_one l) h
theorem wp_store8 {o : Oper} {a : Act} {w X : World} {K : Act → World → Prop} {Q : Exit → Act → World → Prop} (x y : Operand) (ho : o.op = .store 47 x y)
    (g : Nat) (ty : TypeId) (old l : List Nat) (hx : a.eval x = .pointer (some ⟨g, 0, none⟩)) (hy : a.eval y = wordsV l) (hA : Arr w g ty old) (ho' : old.length = 8) (hl : l.length = 8) (hX : w.setRow g (wordsC l) = X)
    (h : K (a.put o.dst undef) X) : Oper.wp Tryd.prog o a w K Q := by
  subst hX
  exact wp_store_row _ x y ho g (wordsC l) hx hy ty (wordsC old) hA (by rw [wordsC_size, hl]; exact info_words8) (by rw [wordsC_size, wordsC_size, hl, ho']) (wordsC_one l) h
theorem step_fit {w : World} {o : Oper} {a : Act} {K : Act → World → Prop} {Q : Exit → Act → World → Prop} {E c' : Prop} [Decidable c'] (hgd : c') (s x : Operand)
    (ho : o.op = .call { callee := .builtin .append, args := #[s, x], argTypes := #[22, 22] })
    (base g n cap : Nat) (xs : List UInt8) (hs : a.eval s = .slice (some ⟨g, 0, none⟩) n cap) (hown : w.ownsRow base 5 1 (.slice (some ⟨g, 0, none⟩) n cap) n (cellsOf xs))
    (A : Option Addr) (m c B : Nat) (bs : List UInt8) (hx : a.eval x = .slice A m c) (hm : bs.length = m) (hnil : A = none → c = 0) (hb : BytesAt w B A bs)
    (hroom : n + m ≤ cap)
    (h : ∀ w', w'.ownsRow base 5 1 (.slice (some ⟨g, 0, none⟩) (n + m) cap) (n + m) (cellsOf (xs ++ bs)) → w.grownBy w' (some g) → K (a.put o.dst (.slice (some ⟨g, 0, none⟩) (n + m) cap)) w') :
    if c' then Oper.wp Tryd.prog o a w K Q else E := by
  rw [if_pos hgd]
  obtain ⟨i0, hi, hz0, hz1, hz2⟩ := info_parts info_u8
  subst hm
  rcases A with _ | ad
  · obtain rfl := hnil rfl
    have hbs : bs = [] := by
      rcases Nat.eq_zero_or_pos bs.length with h0 | h0
      · exact List.eq_nil_of_length_eq_zero h0
      · obtain ⟨_, _, hh, _⟩ := hb h0
        cases hh
    subst hbs
    have hrun := run_append_owned_none (P := Tryd.prog) (w := w) base 22 o.type 5 i0 1 Tryd.underlying22 hi _ n _ hown
    have hx' : a.eval x = .slice none 0 0 := hx
    unfold Oper.wp
    simp [execOp, ho, resolve, invoke, builtin, hs, hx', hrun, Result.andThen]
    exact h w (by simpa using hown) ⟨rfl, rfl, rfl, Nat.le_refl _, fun _ _ _ => rfl⟩
  · obtain ⟨w', hrun, r1, r2⟩ := run_append_fits (P := Tryd.prog) w base 22 o.type 5 i0 1 Tryd.underlying22 hi hz1 g n cap _ hown ad bs.length c (cellsOf bs) (by rw [cellsOf_length, Nat.mul_one]) (by
      intro j u hu
      have hj : j < bs.length := by
        rcases Nat.lt_or_ge j bs.length with hh | hh
        · exact hh
        · rw [List.getElem?_eq_none (by rw [cellsOf_length]; exact hh)] at hu; cases hu
      obtain ⟨b, off, he, _, hc⟩ := hb (by omega)
      injection he with he
      subst he
      rw [cellsOf_at bs j hj] at hu
      rw [Go.WideShapes.add_plain, hc j hj, hu]) (by
      intro u hu
      obtain ⟨b, _, rfl⟩ := List.mem_map.1 hu
      rfl) hroom
    unfold Oper.wp
    simp [execOp, ho, resolve, invoke, builtin, hs, hx, hrun, Result.andThen]
    exact h w' (by rw [cellsOf_append]; exact r1) r2

theorem results_words {fn : Func} {p u : Tmp} (h : fn.results = #[.cell p 47, .tmp u]) (tmps : Array Value) (w : World) (g : Nat) (ty : TypeId) (l : List Nat) (v : Value) (hp : tmps.getD p undef = .pointer (some ⟨g, 0, none⟩)) (hu : tmps.getD u undef = v) (hA : Arr w g ty l) (hl : l.length = 8) :
    (results fn tmps).run Tryd.prog w = .ok (.tuple #[wordsV l, v]) w := by
  have hr := run_loadVar_row (P := Tryd.prog) w g ty 47 (wordsC l) (0, 0) _ hA Tryd.underlying47 rfl (by rw [wordsC_size, hl]; exact info_words8)
  rw [results_cell_tmp h, hp, hu]
  simp [asAddr, hr, Result.andThen, wordsV_eq]

def lenV : Value → Nat
  | .slice _ n _ => n
  | _ => 0
/-- what stands in the midst of taking: the words so far, the rest (n bytes), the piece that is left -/
structure TakeAt (w wr : World) (g : Nat) (C : List Nat) (T : List UInt8) (rs : List UInt8) (n : Nat) (hx : List Nat) (bx : List UInt8) (Ax : Option Addr) (cx : Nat) : Prop where
  words : Words8 hx
  now : Arr wr w.heap.size 47 hx
  out : Arr wr (w.heap.size + 1) 47 (List.replicate 8 0)
  own : wr.ownsRow g 5 1 (.slice (some ⟨g, 0, none⟩) n 64) n (cellsOf rs)
  len : rs.length = n
  grown : w.grownBy wr (some g)
  tabs : Tabs wr
  bytes : BytesAt wr w.heap.size Ax bx
  apart : Apart Ax bx g
  nil : Ax = none → cx = 0
  fits : bx.length ≤ cx
  most : cx ≤ 9223372036854775807
  chain : C = chainL hx (rs ++ bx)
  tail : T = tailL (rs ++ bx)
  one : rs = [] ∨ bx = []
  short : n < 64
  old : 2 ≤ g ∧ g < w.heap.size
theorem TakeAt.drew {w wr : World} {g : Nat} {C : List Nat} {T rs : List UInt8} {n : Nat} {hx : List Nat} {bx : List UInt8} {Ax : Option Addr} {cx : Nat} (h : TakeAt w wr g C T rs n hx bx Ax cx) : TakeAt w wr.drew g C T rs n hx bx Ax cx :=
  ⟨h.words, h.now, h.out, h.own, h.len, grown_drew h.grown, h.tabs, h.bytes, h.apart, h.nil, h.fits, h.most, h.chain, h.tail, h.one, h.short, h.old⟩
theorem TakeAt.done {w wr : World} {g : Nat} {C : List Nat} {T rs : List UInt8} {n : Nat} {hx : List Nat} {bx : List UInt8} {Ax : Option Addr} {cx : Nat} (h : TakeAt w wr g C T rs n hx bx Ax cx) (hl : bx.length < 64) : C = hx ∧ T = rs ++ bx ∧ n + bx.length < 64 := by
  have hs : n + bx.length < 64 := by
    have := h.len
    rcases h.one with e | e
    · rw [e] at this; simp at this; omega
    · rw [e]; have := h.short; simp; omega
  have hl2 : (rs ++ bx).length < 64 := by rw [List.length_append, h.len]; exact hs
  exact ⟨by rw [h.chain, chainL_lt hl2], by rw [h.tail, tailL_lt hl2], hs⟩
/-- one block more -/
theorem TakeAt.next {w wr w2 : World} {g : Nat} {C : List Nat} {T rs : List UInt8} {n : Nat} {hx : List Nat} {bx : List UInt8} {Ax A1 : Option Addr} {cx : Nat} (h : TakeAt w wr g C T rs n hx bx Ax cx) (hb : Below wr.heap.size wr w2) (hl : 64 ≤ bx.length)
    (hs : ∀ w B bs, bs.length = bx.length → BytesAt w B Ax bs → BytesAt w B A1 (bs.drop 64)) (ha : Apart A1 (bx.drop 64) g) (hn : A1 = none → cx - 64 = 0) :
    TakeAt w (w2.setRow w.heap.size (wordsC (blockL hx (bx.take 64)))) g C T rs n (blockL hx (bx.take 64)) (bx.drop 64) A1 (cx - 64) := by
  have hrs : rs = [] := by
    rcases h.one with e | e
    · exact e
    · rw [e] at hl; simp at hl
  have hsz := h.grown.size
  refine ⟨blockL_words h.words _, (h.now.keep hb).row _, (h.out.keep hb).otherRow _ (by omega), own_keep h.own ?_, h.len, ?_, ?_, ?_, ha, hn, ?_, ?_, ?_, ?_, Or.inl hrs, h.short, h.old⟩
  · rw [setRow_other _ _ _ _ (by have := h.old; omega)]
    exact hb.block g (by have := h.old; omega)
  · exact grown_row (grown_then h.grown (grown_below hb _)) _ _ (Nat.le_refl _)
  · exact (h.tabs.keep hb).below (below_setRow (B := w.heap.size) (Below.refl _ _) (Nat.le_refl _) _) (by have := h.old; omega)
  · have hb1 : BytesAt w2 w.heap.size Ax bx := h.bytes.keep fun p hp => hb.cell (by omega)
    exact (hs w2 w.heap.size bx rfl hb1).keep fun p hp => cell_setRow_other w2 _ _ p (by omega)
  · rw [List.length_drop]; have := h.fits; omega
  · have := h.most; omega
  · rw [h.chain, hrs, List.nil_append, List.nil_append, chainL_ge hl]
  · rw [h.tail, hrs, List.nil_append, List.nil_append, tailL_ge hl]

/-- two new blocks ahead of it all -/
theorem take_start (h : List Nat) (w : World) (g n : Nat) (rs bs : List UInt8) (A : Option Addr) (hT : Tabs w) (ho : w.ownsRow g 5 1 (.slice (some ⟨g, 0, none⟩) n 64) n (cellsOf rs)) (hb : BytesAt w w.heap.size A bs) (W : World)
    (hW : (w.alloc (.cells (wordsC h) 47)).alloc (.cells (wordsC (List.replicate 8 0)) 47) = W) :
    Arr W w.heap.size 47 h ∧ Arr W (w.heap.size + 1) 47 (List.replicate 8 0) ∧ W.ownsRow g 5 1 (.slice (some ⟨g, 0, none⟩) n 64) n (cellsOf rs) ∧ w.grownBy W (some g) ∧ Tabs W ∧ BytesAt W w.heap.size A bs ∧ w.heap.size ≤ W.heap.size := by
  subst hW
  have hbz : Below w.heap.size w ((w.alloc (.cells (wordsC h) 47)).alloc (.cells (wordsC (List.replicate 8 0)) 47)) := below_one (below_one (Below.refl _ _) _) _
  have h2 := Arr.made (w.alloc (.cells (wordsC h) 47)) 47 (List.replicate 8 0)
  rw [alloc_size] at h2
  exact ⟨(Arr.made w _ h).alloc _, h2, own_keep ho (hbz.block g (own_lt ho).2), grown_below hbz _, hT.keep hbz, hb.keep fun p hp => hbz.cell hp, hbz.size⟩

set_option maxHeartbeats 1000000 in
theorem take_none (h : List Nat) (A : Option Addr) (rs bs : List UInt8) (r m c g : Nat) (w : World) (hR : rs.length = r) (hM : bs.length = m) (hr : r = 0) (hh : Words8 h) (hT : Tabs w) (hg : 2 ≤ g)
    (ho : w.ownsRow g 5 1 (.slice (some ⟨g, 0, none⟩) r 64) r (cellsOf rs)) (hb : BytesAt w w.heap.size A bs) (hA : Apart A bs g) (hl : m ≤ c) (hc : c ≤ 9223372036854775807) (hnil : A = none → c = 0) :
    Calls Tryd.prog 36 #[wordsV h, .slice (some ⟨g, 0, none⟩) r 64, .slice A m c] w fun e w' => e = .returned (.tuple #[wordsV (chainL h (rs ++ bs)), .slice (some ⟨g, 0, none⟩) (tailL (rs ++ bs)).length 64]) ∧
      w'.ownsRow g 5 1 (.slice (some ⟨g, 0, none⟩) (tailL (rs ++ bs)).length 64) (tailL (rs ++ bs)).length (cellsOf (tailL (rs ++ bs))) ∧ w.grownBy w' (some g) := by
  have hgl := (own_lt ho).2
  generalize hW : (w.alloc (.cells (wordsC h) 47)).alloc (.cells (wordsC (List.replicate 8 0)) 47) = W
  obtain ⟨d1, d2, o0, g0, tb0, b0, s0⟩ := take_start h w g r rs bs A hT ho hb W hW
  subst hr
  obtain rfl : rs = [] := List.eq_nil_of_length_eq_zero hR
  have t0 : Hid (TakeAt w W g (chainL h ([] ++ bs)) (tailL ([] ++ bs)) [] 0 h bs A c) := hideIt ⟨hh, d1, d2, o0, rfl, g0, tb0, b0, hA, hnil, by omega, hc, rfl, rfl, Or.inl rfl, by decide, hg, hgl⟩
  generalize chainL h ([] ++ bs) = C at *
  generalize tailL ([] ++ bs) = T at *
  rw [← hW] at t0
  subst hM
  clear hb ho hnil hA hl hc hT hh d1 d2 o0 g0 tb0 b0 s0 hR hW
  show Calls Tryd.prog 36 #[.agg (wordsC h), .slice (some ⟨g, 0, none⟩) 0 64, .slice A bs.length c] w _
  go_enter Tryd.func36, Tryd.ntmps36
  go_wp2_with fail
  go_loopw [2] (fun v wr => ∃ hx bx Ax cx, v = .slice Ax (List.length bx) cx ∧ TakeAt w wr g C T ([]) (0) hx bx Ax cx) (fun v _ => lenV v)
  case atStart => exact ⟨h, bs, A, c, rfl, t0.out⟩
  case round =>
    clear t0
    obtain ⟨hx, bx, Ax, cx, rfl, t0⟩ := hrel
    by_cases hlt : 64 ≤ bx.length
    · have hlt' : (64 : Int) ≤ (bx.length : Int) := by omega
      have hmost := t0.most
      have hfits := t0.fits
      have hbl : bx.length ≤ 9223372036854775807 := by omega
      obtain ⟨A1, q1, q2, q3, q4⟩ := slice_lo Ax bx.length cx 64 hlt hfits t0.nil
      have q0 := slice_hi Ax bx.length cx 64 (by omega)
      replace q1 : ∀ w, Sem.run Tryd.prog (Instr.slice 22 (.slice Ax bx.length cx) (some (.int .i64 64)) none none) w = .ok (.slice A1 (bx.length - 64) (cx - 64)) w := q1
      replace q0 : ∀ w, Sem.run Tryd.prog (Instr.slice 22 (.slice Ax bx.length cx) none (some (.int .i64 64)) none) w = .ok (.slice Ax 64 cx) w := q0
      replace q2 := hideIt q2
      replace q3 := hideIt q3
      replace q4 := hideIt q4
      replace t0 := hideIt t0
      go_wp2_with fail
      go_still_tail 3, (by kernel_rfl)
      refine wpStill_load8 rfl (.tmp 3) rfl w.heap.size 47 hx rfl (by exact t0.out.now) t0.out.words.1 ?_
      repeat still_step
      refine wpStill_nil ?_
      change wpList _ _ _ _ _ wr.drew
      go_wp2_with fail
      refine (block_is hx Ax (bx.take 64) cx w.heap.size wr.drew t0.out.words t0.out.tabs (t0.out.bytes.front 64) t0.out.grown.size (by rw [List.length_take]; omega) (by omega) hmost).mono ?_
      rintro e w2 ⟨rfl, hb2⟩
      have hA2 : Arr w2 w.heap.size 47 hx := t0.out.drew.now.keep hb2
      have T2 := hideIt (t0.out.drew.next hb2 hlt q2.out (q3.out g bx rfl t0.out.apart) q4.out)
      have hw8 := t0.out.words.1
      have hw8' := (blockL_words t0.out.words (bx.take 64)).1
      generalize blockL hx (bx.take 64) = h2 at *
      generalize e3 : w2.setRow w.heap.size (wordsC h2) = X at *
      replace e3 := hideIt e3
      clear hb2 t0
      go_wp2_with (refine wpList_store8To rfl (.tmp 3) (.tmp 40) rfl w.heap.size 47 hx h2 rfl rfl (by exact hA2) hw8 hw8' (by exact e3.out) ?_)
      go_roundw
      case rel => exact ⟨h2, bx.drop 64, A1, cx - 64, by rw [List.length_drop], T2.out⟩
      case measure => simp [lenV]; omega
    · have hlt' : ¬ (64 : Int) ≤ (bx.length : Int) := by omega
      have hbl : bx.length ≤ 9223372036854775807 := by omega
      obtain ⟨ec, et, es⟩ := t0.done (by omega)
      have EL : Hid (T.length = bx.length) := hideIt (by rw [et, List.length_append, t0.len]; omega)
      have EC := hideIt ec
      have ET := hideIt et
      clear ec et
      replace t0 := hideIt t0
      have Z1 : Hid (w.heap.size + 1 ≠ g) := hideIt (by have := t0.out.old; omega)
      have Z0 : Hid (w.heap.size ≠ g) := hideIt (by have := t0.out.old; omega)
      go_wp2_with fail
      refine wp_region_any (by kernel_rfl) ?_
      change wpAny _ _ _ _ _ _ _ (World.drew _)
      have D := t0.out.drew
      clear t0
      generalize wr.drew = wd at D ⊢
      replace D := hideIt D
      refine wpAny_take (i := 1) (v := .slice (some ⟨g, 0, none⟩) (0) 64) rfl (by kernel_rfl) (by kernel_rfl) (by kernel_rfl) (fun _ _ _ h => h) (Or.inl ⟨by rfl, ?_⟩) ?_
      · intro w; go_simp
      simp only [List.getElem_toArray, List.getElem_cons_succ, List.getElem_cons_zero, Act.put, List.setIfInBounds_toArray, List.set_cons_succ, List.set_cons_zero]
      refine wpAny_take (i := 2) (v := .slice Ax bx.length cx) rfl (by kernel_rfl) (by kernel_rfl) (by kernel_rfl) (fun _ _ _ h => h) (Or.inl ⟨by rfl, ?_⟩) ?_
      · intro w; go_simp
      simp only [List.getElem_toArray, List.getElem_cons_succ, List.getElem_cons_zero, Act.put, List.setIfInBounds_toArray, List.set_cons_succ, List.set_cons_zero]
      refine wpAny_ready (rs := [0, 3]) (by kernel_rfl) (by simp) ?_
      refine AllReady.cons rfl (fun K hK => ?_) (AllReady.cons rfl (fun K hK => ?_) AllReady.nil)
      · refine step_load8 (by simp [Region.wanted]) (.tmp 3) rfl w.heap.size 47 hx (by simp [Act.eval, Act.put]) (by exact D.out.now) D.out.words.1 ?_
        refine hK _ _ ?_
        clear hK K
        simp only [List.getElem_toArray, List.getElem_cons_succ, List.getElem_cons_zero, Act.put, List.setIfInBounds_toArray, List.set_cons_succ, List.set_cons_zero]
        refine wpAny_ready (rs := [3]) (by kernel_rfl) (by simp) (AllReady.cons rfl (fun K hK => ?_) AllReady.nil)
        refine step_fit (by simp [Region.wanted]) (.tmp 44) (.tmp 45) rfl g g (0) 64 ([]) (by simp [Act.eval, Act.put]) (by exact D.out.own) Ax bx.length cx w.heap.size bx (by simp [Act.eval, Act.put]) rfl D.out.nil (by exact D.out.bytes) (by omega) ?_
        intro w3 h3 hg3
        refine hK _ _ ?_
        clear hK K
        simp only [List.getElem_toArray, List.getElem_cons_succ, List.getElem_cons_zero, Act.put, List.setIfInBounds_toArray, List.set_cons_succ, List.set_cons_zero]
        have z6 : Arr w3 (w.heap.size + 1) 47 (List.replicate 8 0) := Arr.grown (w := wd) (k := g) D.out.out hg3 Z1.out
        generalize e3 : w3.setRow (w.heap.size + 1) (wordsC hx) = X
        have y1 := D.out.words.1
        have hq : ∀ (K : Act → World → Prop) (Q : Exit → Act → World → Prop) (o : Oper) (a : Act), o.op = .store 47 (.tmp 6) (.tmp 43) → a.eval (.tmp 6) = .pointer (some ⟨w.heap.size + 1, 0, none⟩) → a.eval (.tmp 43) = wordsV hx → K (a.put o.dst undef) X → Oper.wp Tryd.prog o a w3 K Q := fun K Q o a q1 q2 q3 q4 => wp_store8 (X := X) (.tmp 6) (.tmp 43) q1 (w.heap.size + 1) 47 (List.replicate 8 0) hx q2 q3 z6 rfl y1 e3 q4
        refine wpAny_ready (rs := [4]) (by kernel_rfl) (by simp) (AllReady.cons rfl (fun K hK => ?_) AllReady.nil)
        rw [if_pos (by simp [Region.wanted])]
        refine hq _ _ _ _ ?_ ?_ ?_ ?_
        · rfl
        · simp [Act.eval, Act.put]
        · simp [Act.eval, Act.put]
        refine hK _ _ ?_
        clear hK K
        simp only [List.getElem_toArray, List.getElem_cons_succ, List.getElem_cons_zero, Act.put, List.setIfInBounds_toArray, List.set_cons_succ, List.set_cons_zero]
        refine wpAny_ready (rs := [5]) (by kernel_rfl) (by simp) (AllReady.cons rfl (fun K hK => ?_) AllReady.nil)
        go_simp
        refine hK _ _ ?_
        clear hK K
        refine wpAny_done (by kernel_rfl) ?_ _
        go_wp2_with fail
        refine bodyPost_ret (v := .tuple #[wordsV hx, .slice (some ⟨g, 0, none⟩) (bx.length) 64]) ?_ rfl ⟨?_, ?_, ?_⟩
        · exact results_words Tryd.results36 _ X (w.heap.size + 1) 47 hx _ rfl rfl (e3 ▸ z6.row hx) y1
        · rw [EC.out, EL.out]
        · rw [EL.out, ET.out]
          rw [Nat.zero_add] at h3
          exact own_keep h3 (by rw [← e3, setRow_other _ _ _ _ (Ne.symm Z1.out)])
        · rw [← e3]
          exact grown_row (grown_then D.out.grown hg3) _ _ (Nat.le_succ _)
      · refine step_fit (by simp [Region.wanted]) (.tmp 44) (.tmp 45) rfl g g (0) 64 ([]) (by simp [Act.eval, Act.put]) (by exact D.out.own) Ax bx.length cx w.heap.size bx (by simp [Act.eval, Act.put]) rfl D.out.nil (by exact D.out.bytes) (by omega) ?_
        intro w3 h3 hg3
        refine hK _ _ ?_
        clear hK K
        simp only [List.getElem_toArray, List.getElem_cons_succ, List.getElem_cons_zero, Act.put, List.setIfInBounds_toArray, List.set_cons_succ, List.set_cons_zero]
        refine wpAny_ready (rs := [0]) (by kernel_rfl) (by simp) (AllReady.cons rfl (fun K hK => ?_) AllReady.nil)
        refine step_load8 (by simp [Region.wanted]) (.tmp 3) rfl w.heap.size 47 hx (by simp [Act.eval, Act.put]) (by exact Arr.grown (w := wd) (k := g) D.out.now hg3 Z0.out) D.out.words.1 ?_
        refine hK _ _ ?_
        clear hK K
        simp only [List.getElem_toArray, List.getElem_cons_succ, List.getElem_cons_zero, Act.put, List.setIfInBounds_toArray, List.set_cons_succ, List.set_cons_zero]
        have z6 : Arr w3 (w.heap.size + 1) 47 (List.replicate 8 0) := Arr.grown (w := wd) (k := g) D.out.out hg3 Z1.out
        generalize e3 : w3.setRow (w.heap.size + 1) (wordsC hx) = X
        have y1 := D.out.words.1
        have hq : ∀ (K : Act → World → Prop) (Q : Exit → Act → World → Prop) (o : Oper) (a : Act), o.op = .store 47 (.tmp 6) (.tmp 43) → a.eval (.tmp 6) = .pointer (some ⟨w.heap.size + 1, 0, none⟩) → a.eval (.tmp 43) = wordsV hx → K (a.put o.dst undef) X → Oper.wp Tryd.prog o a w3 K Q := fun K Q o a q1 q2 q3 q4 => wp_store8 (X := X) (.tmp 6) (.tmp 43) q1 (w.heap.size + 1) 47 (List.replicate 8 0) hx q2 q3 z6 rfl y1 e3 q4
        refine wpAny_ready (rs := [4]) (by kernel_rfl) (by simp) (AllReady.cons rfl (fun K hK => ?_) AllReady.nil)
        rw [if_pos (by simp [Region.wanted])]
        refine hq _ _ _ _ ?_ ?_ ?_ ?_
        · rfl
        · simp [Act.eval, Act.put]
        · simp [Act.eval, Act.put]
        refine hK _ _ ?_
        clear hK K
        simp only [List.getElem_toArray, List.getElem_cons_succ, List.getElem_cons_zero, Act.put, List.setIfInBounds_toArray, List.set_cons_succ, List.set_cons_zero]
        refine wpAny_ready (rs := [5]) (by kernel_rfl) (by simp) (AllReady.cons rfl (fun K hK => ?_) AllReady.nil)
        go_simp
        refine hK _ _ ?_
        clear hK K
        refine wpAny_done (by kernel_rfl) ?_ _
        go_wp2_with fail
        refine bodyPost_ret (v := .tuple #[wordsV hx, .slice (some ⟨g, 0, none⟩) (bx.length) 64]) ?_ rfl ⟨?_, ?_, ?_⟩
        · exact results_words Tryd.results36 _ X (w.heap.size + 1) 47 hx _ rfl rfl (e3 ▸ z6.row hx) y1
        · rw [EC.out, EL.out]
        · rw [EL.out, ET.out]
          rw [Nat.zero_add] at h3
          exact own_keep h3 (by rw [← e3, setRow_other _ _ _ _ (Ne.symm Z1.out)])
        · rw [← e3]
          exact grown_row (grown_then D.out.grown hg3) _ _ (Nat.le_succ _)

set_option maxHeartbeats 1000000 in
theorem take_less (h : List Nat) (A : Option Addr) (rs bs : List UInt8) (r m c g : Nat) (w : World) (hR : rs.length = r) (hM : bs.length = m) (hr : 0 < r) (hrm : r + m < 64) (hh : Words8 h) (hT : Tabs w) (hg : 2 ≤ g)
    (ho : w.ownsRow g 5 1 (.slice (some ⟨g, 0, none⟩) r 64) r (cellsOf rs)) (hb : BytesAt w w.heap.size A bs) (hA : Apart A bs g) (hl : m ≤ c) (hc : c ≤ 9223372036854775807) (hnil : A = none → c = 0) :
    Calls Tryd.prog 36 #[wordsV h, .slice (some ⟨g, 0, none⟩) r 64, .slice A m c] w fun e w' => e = .returned (.tuple #[wordsV (chainL h (rs ++ bs)), .slice (some ⟨g, 0, none⟩) (tailL (rs ++ bs)).length 64]) ∧
      w'.ownsRow g 5 1 (.slice (some ⟨g, 0, none⟩) (tailL (rs ++ bs)).length 64) (tailL (rs ++ bs)).length (cellsOf (tailL (rs ++ bs))) ∧ w.grownBy w' (some g) := by
  have hgl := (own_lt ho).2
  generalize hW : (w.alloc (.cells (wordsC h) 47)).alloc (.cells (wordsC (List.replicate 8 0)) 47) = W
  obtain ⟨d1, d2, o0, g0, tb0, b0, s0⟩ := take_start h w g r rs bs A hT ho hb W hW
  obtain ⟨A1, q1, q2, q3, q4⟩ := slice_lo A m c m (Nat.le_refl _) hl hnil
  have q0 := slice_hi A m c m hl
  have i1 : (0 : Int) < (r : Int) := by omega
  have i2 : (m : Int) ≤ 64 - (r : Int) := by omega
  have i3 : ¬ (r : Int) + (m : Int) = 64 := by omega
  have HQ : Hid (∀ w1, w1.ownsRow g 5 1 (.slice (some ⟨g, 0, none⟩) (r + m) 64) (r + m) (cellsOf (rs ++ bs)) → W.grownBy w1 (some g) → TakeAt w w1 g (chainL h (rs ++ bs)) (tailL (rs ++ bs)) (rs ++ bs) (r + m) h [] A1 (c - m)) := hideIt fun w1 o1 g1 =>
    ⟨hh, d1.grown g1 (by omega), d2.grown g1 (by omega), o1, by rw [List.length_append, hR, hM], grown_then g0 g1, tb0.grown g1 hg, BytesAt.nil _ _ _, (fun hn => absurd hn (by simp)), q4, by simp, by omega, by rw [List.append_nil], by rw [List.append_nil], Or.inr rfl, hrm, hg, hgl⟩
  generalize chainL h (rs ++ bs) = C at *
  generalize tailL (rs ++ bs) = T at *
  subst hW
  replace o0 := hideIt o0
  replace b0 := hideIt b0
  replace hM := hideIt hM
  replace hnil := hideIt hnil
  clear hb ho hA hT hh d1 d2 g0 tb0 s0 hR q2 q3 q4
  show Calls Tryd.prog 36 #[.agg (wordsC h), .slice (some ⟨g, 0, none⟩) r 64, .slice A m c] w _
  go_enter Tryd.func36, Tryd.ntmps36
  go_wp2_with (at_builtin; refine wpList_fit rfl (.tmp 18) (.tmp 21) rfl g g r 64 rs rfl (by exact o0.out) A m c w.heap.size bs rfl hM.out hnil.out (by exact b0.out) (by omega) ?_; intro w1 o1 g1)
  have t0 := hideIt (HQ.out w1 o1 g1)
  clear o1 g1 HQ o0 b0 q0 q1
  go_loopw [2] (fun v wr => ∃ hx bx Ax cx, v = .slice Ax (List.length bx) cx ∧ TakeAt w wr g C T (rs ++ bs) (r + m) hx bx Ax cx) (fun v _ => lenV v)
  case atStart => exact ⟨h, [], A1, c - m, rfl, t0.out⟩
  case round =>
    clear t0
    obtain ⟨hx, bx, Ax, cx, rfl, t0⟩ := hrel
    by_cases hlt : 64 ≤ bx.length
    · exfalso
      rcases t0.one with e | e
      · have := t0.len
        rw [e] at this
        simp at this
        omega
      · rw [e] at hlt
        simp at hlt
    · have hlt' : ¬ (64 : Int) ≤ (bx.length : Int) := by omega
      have hbl : bx.length ≤ 9223372036854775807 := by omega
      obtain ⟨ec, et, es⟩ := t0.done (by omega)
      have EL : Hid (T.length = r + m + bx.length) := hideIt (by rw [et, List.length_append, t0.len])
      have EC := hideIt ec
      have ET := hideIt et
      clear ec et
      replace t0 := hideIt t0
      have Z1 : Hid (w.heap.size + 1 ≠ g) := hideIt (by have := t0.out.old; omega)
      have Z0 : Hid (w.heap.size ≠ g) := hideIt (by have := t0.out.old; omega)
      go_wp2_with fail
      refine wp_region_any (by kernel_rfl) ?_
      change wpAny _ _ _ _ _ _ _ (World.drew _)
      have D := t0.out.drew
      clear t0
      generalize wr.drew = wd at D ⊢
      replace D := hideIt D
      refine wpAny_take (i := 1) (v := .slice (some ⟨g, 0, none⟩) (r + m) 64) rfl (by kernel_rfl) (by kernel_rfl) (by kernel_rfl) (fun _ _ _ h => h) (Or.inl ⟨by rfl, ?_⟩) ?_
      · intro w; go_simp
      simp only [List.getElem_toArray, List.getElem_cons_succ, List.getElem_cons_zero, Act.put, List.setIfInBounds_toArray, List.set_cons_succ, List.set_cons_zero]
      refine wpAny_take (i := 2) (v := .slice Ax bx.length cx) rfl (by kernel_rfl) (by kernel_rfl) (by kernel_rfl) (fun _ _ _ h => h) (Or.inl ⟨by rfl, ?_⟩) ?_
      · intro w; go_simp
      simp only [List.getElem_toArray, List.getElem_cons_succ, List.getElem_cons_zero, Act.put, List.setIfInBounds_toArray, List.set_cons_succ, List.set_cons_zero]
      refine wpAny_ready (rs := [0, 3]) (by kernel_rfl) (by simp) ?_
      refine AllReady.cons rfl (fun K hK => ?_) (AllReady.cons rfl (fun K hK => ?_) AllReady.nil)
      · refine step_load8 (by simp [Region.wanted]) (.tmp 3) rfl w.heap.size 47 hx (by simp [Act.eval, Act.put]) (by exact D.out.now) D.out.words.1 ?_
        refine hK _ _ ?_
        clear hK K
        simp only [List.getElem_toArray, List.getElem_cons_succ, List.getElem_cons_zero, Act.put, List.setIfInBounds_toArray, List.set_cons_succ, List.set_cons_zero]
        refine wpAny_ready (rs := [3]) (by kernel_rfl) (by simp) (AllReady.cons rfl (fun K hK => ?_) AllReady.nil)
        refine step_fit (by simp [Region.wanted]) (.tmp 44) (.tmp 45) rfl g g (r + m) 64 (rs ++ bs) (by simp [Act.eval, Act.put]) (by exact D.out.own) Ax bx.length cx w.heap.size bx (by simp [Act.eval, Act.put]) rfl D.out.nil (by exact D.out.bytes) (by omega) ?_
        intro w3 h3 hg3
        refine hK _ _ ?_
        clear hK K
        simp only [List.getElem_toArray, List.getElem_cons_succ, List.getElem_cons_zero, Act.put, List.setIfInBounds_toArray, List.set_cons_succ, List.set_cons_zero]
        have z6 : Arr w3 (w.heap.size + 1) 47 (List.replicate 8 0) := Arr.grown (w := wd) (k := g) D.out.out hg3 Z1.out
        generalize e3 : w3.setRow (w.heap.size + 1) (wordsC hx) = X
        have y1 := D.out.words.1
        have hq : ∀ (K : Act → World → Prop) (Q : Exit → Act → World → Prop) (o : Oper) (a : Act), o.op = .store 47 (.tmp 6) (.tmp 43) → a.eval (.tmp 6) = .pointer (some ⟨w.heap.size + 1, 0, none⟩) → a.eval (.tmp 43) = wordsV hx → K (a.put o.dst undef) X → Oper.wp Tryd.prog o a w3 K Q := fun K Q o a q1 q2 q3 q4 => wp_store8 (X := X) (.tmp 6) (.tmp 43) q1 (w.heap.size + 1) 47 (List.replicate 8 0) hx q2 q3 z6 rfl y1 e3 q4
        refine wpAny_ready (rs := [4]) (by kernel_rfl) (by simp) (AllReady.cons rfl (fun K hK => ?_) AllReady.nil)
        rw [if_pos (by simp [Region.wanted])]
        refine hq _ _ _ _ ?_ ?_ ?_ ?_
        · rfl
        · simp [Act.eval, Act.put]
        · simp [Act.eval, Act.put]
        refine hK _ _ ?_
        clear hK K
        simp only [List.getElem_toArray, List.getElem_cons_succ, List.getElem_cons_zero, Act.put, List.setIfInBounds_toArray, List.set_cons_succ, List.set_cons_zero]
        refine wpAny_ready (rs := [5]) (by kernel_rfl) (by simp) (AllReady.cons rfl (fun K hK => ?_) AllReady.nil)
        go_simp
        refine hK _ _ ?_
        clear hK K
        refine wpAny_done (by kernel_rfl) ?_ _
        go_wp2_with fail
        refine bodyPost_ret (v := .tuple #[wordsV hx, .slice (some ⟨g, 0, none⟩) (r + m + bx.length) 64]) ?_ rfl ⟨?_, ?_, ?_⟩
        · exact results_words Tryd.results36 _ X (w.heap.size + 1) 47 hx _ rfl rfl (e3 ▸ z6.row hx) y1
        · rw [EC.out, EL.out]
        · rw [EL.out, ET.out]
          exact own_keep h3 (by rw [← e3, setRow_other _ _ _ _ (Ne.symm Z1.out)])
        · rw [← e3]
          exact grown_row (grown_then D.out.grown hg3) _ _ (Nat.le_succ _)
      · refine step_fit (by simp [Region.wanted]) (.tmp 44) (.tmp 45) rfl g g (r + m) 64 (rs ++ bs) (by simp [Act.eval, Act.put]) (by exact D.out.own) Ax bx.length cx w.heap.size bx (by simp [Act.eval, Act.put]) rfl D.out.nil (by exact D.out.bytes) (by omega) ?_
        intro w3 h3 hg3
        refine hK _ _ ?_
        clear hK K
        simp only [List.getElem_toArray, List.getElem_cons_succ, List.getElem_cons_zero, Act.put, List.setIfInBounds_toArray, List.set_cons_succ, List.set_cons_zero]
        refine wpAny_ready (rs := [0]) (by kernel_rfl) (by simp) (AllReady.cons rfl (fun K hK => ?_) AllReady.nil)
        refine step_load8 (by simp [Region.wanted]) (.tmp 3) rfl w.heap.size 47 hx (by simp [Act.eval, Act.put]) (by exact Arr.grown (w := wd) (k := g) D.out.now hg3 Z0.out) D.out.words.1 ?_
        refine hK _ _ ?_
        clear hK K
        simp only [List.getElem_toArray, List.getElem_cons_succ, List.getElem_cons_zero, Act.put, List.setIfInBounds_toArray, List.set_cons_succ, List.set_cons_zero]
        have z6 : Arr w3 (w.heap.size + 1) 47 (List.replicate 8 0) := Arr.grown (w := wd) (k := g) D.out.out hg3 Z1.out
        generalize e3 : w3.setRow (w.heap.size + 1) (wordsC hx) = X
        have y1 := D.out.words.1
        have hq : ∀ (K : Act → World → Prop) (Q : Exit → Act → World → Prop) (o : Oper) (a : Act), o.op = .store 47 (.tmp 6) (.tmp 43) → a.eval (.tmp 6) = .pointer (some ⟨w.heap.size + 1, 0, none⟩) → a.eval (.tmp 43) = wordsV hx → K (a.put o.dst undef) X → Oper.wp Tryd.prog o a w3 K Q := fun K Q o a q1 q2 q3 q4 => wp_store8 (X := X) (.tmp 6) (.tmp 43) q1 (w.heap.size + 1) 47 (List.replicate 8 0) hx q2 q3 z6 rfl y1 e3 q4
        refine wpAny_ready (rs := [4]) (by kernel_rfl) (by simp) (AllReady.cons rfl (fun K hK => ?_) AllReady.nil)
        rw [if_pos (by simp [Region.wanted])]
        refine hq _ _ _ _ ?_ ?_ ?_ ?_
        · rfl
        · simp [Act.eval, Act.put]
        · simp [Act.eval, Act.put]
        refine hK _ _ ?_
        clear hK K
        simp only [List.getElem_toArray, List.getElem_cons_succ, List.getElem_cons_zero, Act.put, List.setIfInBounds_toArray, List.set_cons_succ, List.set_cons_zero]
        refine wpAny_ready (rs := [5]) (by kernel_rfl) (by simp) (AllReady.cons rfl (fun K hK => ?_) AllReady.nil)
        go_simp
        refine hK _ _ ?_
        clear hK K
        refine wpAny_done (by kernel_rfl) ?_ _
        go_wp2_with fail
        refine bodyPost_ret (v := .tuple #[wordsV hx, .slice (some ⟨g, 0, none⟩) (r + m + bx.length) 64]) ?_ rfl ⟨?_, ?_, ?_⟩
        · exact results_words Tryd.results36 _ X (w.heap.size + 1) 47 hx _ rfl rfl (e3 ▸ z6.row hx) y1
        · rw [EC.out, EL.out]
        · rw [EL.out, ET.out]
          exact own_keep h3 (by rw [← e3, setRow_other _ _ _ _ (Ne.symm Z1.out)])
        · rw [← e3]
          exact grown_row (grown_then D.out.grown hg3) _ _ (Nat.le_succ _)
end Go.Proofs.YtflbdjlmkmmahaaDoor
