/- Words that every seat over this program shares: facts kept from a walk, rows of bytes in memory, appends, texts of one byte. Nothing here speaks of one function. -/
import Derived.Test.YtbojigimldfghaaDoorRows
import Derived.Test.YtbojigimldfghaaDoorPlain
import Derived.WalkKit
import Derived.ProofKit
import Derived.OpenShut
import Derived.OwnWalk
import Derived.Laws.AppendOwnNone
import Derived.Laws.BytesArg
import Derived.Laws.RangeString
import Derived.Laws.RangeAny
namespace Go.Proofs.YtbojigimldfghaaDoor
open Go.ChangeShapes Go.WideShapes Go.ChangeAt Go.RowKit
set_option linter.unusedVariables false

theorem hideIt {p : Prop} (h : p) : Hid p := h


/-- a number that fits a uint64 -/
def U64 (a : Int) : Prop := 0 ≤ a ∧ a < 18446744073709551616
theorem u64_of_wf {a : Int} (h : (Lit.int .u64 a).wf = true) : U64 a := by
  have := bounds_u64 h; unfold U64; omega
theorem u64_wrap (x : Int) : U64 (IntKind.u64.wrap x) := by
  rw [IntKind.wrap_u64]; unfold U64; omega
theorem wf_small {x : Int} (h1 : -1 ≤ x) (h2 : x ≤ 4294967296) : (Lit.int .i64 x).wf = true := by
  have e1 : IntKind.i64.min = -9223372036854775808 := by decide
  have e2 : IntKind.i64.max = 9223372036854775807 := by decide
  simp only [Lit.wf, e1, e2, Bool.and_eq_true, decide_eq_true_eq]
  omega


theorem ret_true {b : Bool} (h : b = true) : Ending.returned (.bool b) = .returned (.bool true) := by rw [h]
theorem info_u8 : (Tryd.prog.info? 5).map (fun i => (i.zero, i.size, i.bytes)) = some (some (.int .u8 0), 1, 1) := by kernel_rfl

theorem below_made {w w1 : World} (hg : w.grownBy w1 none) : Below w.heap.size w w1 := ⟨hg.os, hg.tape, hg.output, hg.size, fun i hi => hg.block i hi (by simp)⟩

theorem own_made0 (k : Nat) {w1 : World} {b g : Nat} {e : TypeId} (h : w1.ownsRow b e 1 (.slice (some ⟨g, 0, none⟩) k k) k (madeCells (Value.int .u8 0).cells (k * 1)).toList) : w1.ownsRow b e 1 (.slice (some ⟨g, 0, none⟩) k k) k (List.replicate k (Value.int .u8 0)) := by
  have e0 : (Value.int .u8 0).cells = #[Value.int .u8 0] := rfl
  rw [e0, toList_madeCells_one, Nat.mul_one] at h
  exact h
theorem own_bytes {w : World} {base g k cap : Nat} {e : TypeId} {bs : List UInt8} (h : w.ownsRow base e 1 (.slice (some ⟨g, 0, none⟩) k cap) k (cellsOf bs)) : BytesAt w w.heap.size (some ⟨g, 0, none⟩) bs := fun hn => by
  have hl : bs.length = k := by have := h.1; rwa [cellsOf_length, Nat.mul_one] at this
  refine ⟨g, 0, rfl, (h.lt g rfl).2, fun j hj => ?_⟩
  rw [Nat.zero_add, h.cellAt j (by omega), cellsOf_at bs j hj]
/-- an owned row, opened: it is a slice, and can be read -/
theorem own_open {w : World} {base n : Nat} {e : TypeId} {v : Value} {bs : List UInt8} (h : w.ownsRow base e 1 v n (cellsOf bs)) :
    ∃ A c, v = .slice A n c ∧ bs.length = n ∧ n ≤ c ∧ c ≤ maxLen ∧ (A = none → c = 0) ∧ BytesAt w w.heap.size A bs := by
  have hl : bs.length = n := by have := h.1; rwa [cellsOf_length, Nat.mul_one] at this
  subst hl
  rcases h.2 with ⟨rfl, h0⟩ | ⟨g, cap, cur, rfl, hb, hg, hnc, hcm, _⟩
  · exact ⟨none, 0, by rw [h0], rfl, by omega, by unfold maxLen; omega, fun _ => rfl, fun hh => by omega⟩
  · exact ⟨_, cap, rfl, rfl, hnc, hcm, (fun hh => by cases hh), own_bytes h⟩

/-- a row that was made: noughts -/
theorem own_zeros {w1 : World} {b g k : Nat} {e : TypeId} (h : w1.ownsRow b e 1 (.slice (some ⟨g, 0, none⟩) k k) k (madeCells (Value.int .u8 0).cells (k * 1)).toList) : w1.ownsRow b e 1 (.slice (some ⟨g, 0, none⟩) k k) k (cellsOf (List.replicate k 0)) := by
  have := own_made0 k h
  simpa [cellsOf] using this
/-- append of whatever bytes onto a row of the call's own -/
theorem wpList_app {w : World} {ops : Array Oper} {rest : List Oper} {o : Oper} {a : Act} {Q : Exit → Act → World → Prop} (hgd : o.guard = none) (s x : Operand)
    (ho : o.op = .call { callee := .builtin .append, args := #[s, x], argTypes := #[22, 22] })
    (base : Nat) (v : Value) (n : Nat) (xs : List UInt8) (hs : a.eval s = v) (hown : w.ownsRow base 5 1 v n (cellsOf xs))
    (A : Option Addr) (m c B : Nat) (bs : List UInt8) (hx : a.eval x = .slice A m c) (hm : bs.length = m) (hnil : A = none → c = 0) (hb : BytesAt w B A bs)
    (hlen : n + m ≤ 140737488355328) (hbase : base ≤ w.heap.size)
    (h : ∀ v' w', w'.ownsRow base 5 1 v' (n + m) (cellsOf (xs ++ bs)) → w.grownBy w' v.ownBlock → wpList Tryd.prog ops Q rest (a.put o.dst v') w') : wpList Tryd.prog ops Q (o :: rest) a w := by
  obtain ⟨i0, hi, hz0, hz1, hz2⟩ := info_parts info_u8
  subst hm
  rcases A with _ | ad
  · obtain rfl := hnil rfl
    have hbs : bs = [] := by
      rcases Nat.eq_zero_or_pos bs.length with h0 | h0
      · exact List.eq_nil_of_length_eq_zero h0
      · obtain ⟨_, _, hh, _⟩ := hb h0
        cases hh
    subst hbs
    refine wpList_append_own_none hgd s x 22 ho base 5 i0 1 Tryd.underlying22 hi v n _ hs hown hx ?_
    have := h v w (by simpa using hown) ⟨rfl, rfl, rfl, Nat.le_refl _, fun _ _ _ => rfl⟩
    exact this
  · refine wpList_append_own w hgd s x 22 ho base 5 i0 (.int .u8 0) 1 1 Tryd.underlying22 hi hz0 hz1 hz2 rfl (by decide) v n _ hs hown ad bs.length c (cellsOf bs) hx (by rw [cellsOf_length, Nat.mul_one]) ?_ ?_ (by unfold maxLen; omega) (by omega) hbase ?_
    · intro j u hu
      have hj : j < bs.length := by
        rcases Nat.lt_or_ge j bs.length with hh | hh
        · exact hh
        · rw [List.getElem?_eq_none (by rw [cellsOf_length]; exact hh)] at hu; cases hu
      obtain ⟨b, off, he, _, hc⟩ := hb (by omega)
      obtain rfl := Option.some.inj he
      rw [cellsOf_at bs j hj] at hu
      rw [Go.WideShapes.add_plain, hc j hj, hu]
    · intro u hu
      obtain ⟨b, _, rfl⟩ := List.mem_map.1 hu
      rfl
    · intro v' w' h1 h2 _
      exact h v' w' (by rw [cellsOf_append]; exact h1) h2

/-- what is told of a row of numbers that came in -/
def IsRow (k : IntKind) (w : World) (a : Option Addr) (len cap : Nat) (zs : List Int) : Prop :=
  (a = none ∧ len = 0 ∧ cap = 0 ∧ zs = []) ∨
  ∃ x, a = some x ∧ len ≤ cap ∧ cap ≤ maxLen ∧ zs.length = cap ∧ (∀ i, i < zs.length → w.cell? (x.add i) = some (.int k (zs.getD i 0))) ∧ ∀ n ∈ zs, (Lit.int k n).wf = true
/-- numbers as bytes -/
def bytesOf (zs : List Int) : List UInt8 := zs.map fun n => UInt8.ofNat n.toNat
theorem cell_lt {w : World} {b off : Nat} {v : Value} (h : w.cell? ⟨b, off, none⟩ = some v) : b < w.heap.size := by
  rcases Nat.lt_or_ge b w.heap.size with hlt | hge
  · exact hlt
  · simp [World.cell?, Array.getElem?_eq_none hge] at h
theorem IsRow.bytes {w : World} {a : Option Addr} {len cap : Nat} {zs : List Int} (h : IsRow .u8 w a len cap zs) :
    ∃ bs : List UInt8, bs.length = len ∧ len ≤ cap ∧ cap ≤ maxLen ∧ (a = none → cap = 0) ∧ BytesAt w w.heap.size a bs := by
  rcases h with ⟨rfl, rfl, rfl, rfl⟩ | ⟨x, rfl, hl, hm, hz, hc, hw⟩
  · exact ⟨[], rfl, by omega, by unfold maxLen; omega, fun _ => rfl, BytesAt.nil _ _ _⟩
  · refine ⟨bytesOf (zs.take len), by simp [bytesOf]; omega, hl, hm, (fun hh => by cases hh), fun hn => ?_⟩
    have hn' : 0 < zs.length := by simp [bytesOf] at hn; omega
    obtain ⟨b, off, rfl, hc'⟩ := ints_at hc hn'
    have hat : ∀ j, j < zs.length → ∃ u : UInt8, zs.getD j 0 = (u.toNat : Int) ∧ UInt8.ofNat (zs.getD j 0).toNat = u := fun j hj => by
      have hj' : zs.getD j 0 = zs[j] := by simp [List.getD, hj]
      have hb := bounds_u8 (hw zs[j] (List.getElem_mem hj))
      refine ⟨UInt8.ofNat (zs.getD j 0).toNat, ?_, rfl⟩
      rw [hj', UInt8.toNat_ofNat']; omega
    refine ⟨b, off, rfl, cell_lt (hc' 0 hn'), fun j hj => ?_⟩
    have hj' : j < zs.length := by simp [bytesOf] at hj; omega
    obtain ⟨u, h1, h2⟩ := hat j hj'
    have h3 : (bytesOf (zs.take len))[j] = u := by
      rw [← h2]
      simp [bytesOf, List.getD, hj']
    rw [hc' j hj', h3, h1]
/-- a text of one byte -/
def oneB (x : Int) : ByteArray := ⟨#[UInt8.ofNat x.toNat]⟩
theorem oneB_size (x : Int) : (oneB x).size = 1 := rfl
theorem oneB_cat (x : Int) (s : ByteArray) : (oneB x ++ s).data.toList = UInt8.ofNat x.toNat :: s.data.toList := by
  simp [oneB, ByteArray.data_append]
/-- a slice of one byte, new, as a text -/
theorem conv_one (W : World) (x : Int) : (convert 22 9 (.slice (some ⟨W.heap.size, 0, none⟩) 1 1)).run Tryd.prog (W.alloc (.cells #[.int .u8 x] 5)) = .ok (.string (oneB x)) (W.alloc (.cells #[.int .u8 x] 5)) :=
  run_convert_bytes_arg _ 22 5 Tryd.underlying22 Tryd.underlying5 W.heap.size 0 1 1 [x] rfl (fun i hi => by
    obtain rfl : i = 0 := by omega
    simp) 9 Tryd.underlying9

theorem below_one {w wr : World} (h : Below w.heap.size w wr) (o : Obj) : Below w.heap.size w (wr.alloc o) := h.alloc h.size o

theorem below_new (X : World) (o : Obj) : Below X.heap.size X (X.alloc o) := below_one (Below.refl _ _) _
theorem below_iter (w : World) (s : ByteArray) (p : Nat) : Below w.heap.size w (w.iter s p) := (Below.refl _ _).alloc (Nat.le_refl _) _

end Go.Proofs.YtbojigimldfghaaDoor
