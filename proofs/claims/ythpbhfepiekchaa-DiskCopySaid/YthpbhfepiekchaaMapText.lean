/- Maps with texts as keys, whatever their values: what asking, storing, taking away and counting do. Nothing here speaks of one program. -/
import Derived.Test.YthpbhfepiekchaaStr
import Derived.MapKept
import Derived.Laws.IdiomRangeMap
import Derived.RangeFuncRecord
namespace Go.Proofs.Ythpbhfepiekchaa
open Go.MapKept
set_option linter.unusedVariables false
set_option linter.unusedSimpArgs false

def keyIs (s : List UInt8) (e : MapEntry) : Bool := match e.key with | .string b => b == strOf s | _ => false
/-- what stands at a key -/
def valM (es : Array MapEntry) (s : List UInt8) : Option Value := (es.toList.find? (keyIs s)).map (·.val)
def keyL (e : MapEntry) : List UInt8 := match e.key with | .string b => b.data.toList | _ => []
def keysM (es : Array MapEntry) : List (List UInt8) := es.toList.map keyL
/-- a map with texts as keys, in a block -/
structure MapT (w : World) (b : Nat) (es : Array MapEntry) (c : Nat) : Prop where
  row : w.heap[b]? = some (.map es c)
  stamp : Stamped es c
  keys : ∀ x ∈ es.toList, IsKey .string x.key
theorem keyIs_iff {s : List UInt8} {e : MapEntry} : keyIs s e = true ↔ e.key = .string (strOf s) := by
  unfold keyIs
  cases e.key <;> simp [bytes_beq]
theorem keyL_iff {s : List UInt8} {e : MapEntry} (h : IsKey .string e.key) : keyL e = s ↔ e.key = .string (strOf s) := by
  unfold keyL
  cases hk : e.key <;> rw [hk] at h <;> simp [IsKey] at h
  rename_i b
  constructor
  · rintro rfl; simp [strOf]
  · intro h2; simp only [Value.string.injEq] at h2; subst h2; simp [strOf]
theorem find_nodup {l : List MapEntry} (hn : (l.map (·.key)).Nodup) {e : MapEntry} (he : e ∈ l) {s : List UInt8} (hk : e.key = .string (strOf s)) : l.find? (keyIs s) = some e := by
  induction l with
  | nil => cases he
  | cons a r ih =>
    rw [List.map_cons, List.nodup_cons] at hn
    by_cases ha : keyIs s a = true
    · rw [List.find?_cons_of_pos ha]
      rcases List.mem_cons.1 he with rfl | he
      · rfl
      · exact absurd (List.mem_map.2 ⟨e, he, by rw [hk, keyIs_iff.1 ha]⟩) hn.1
    · rw [List.find?_cons_of_neg ha]
      rcases List.mem_cons.1 he with rfl | he
      · exact absurd (keyIs_iff.2 hk) ha
      · exact ih hn.2 he
theorem val_some {es : Array MapEntry} {c : Nat} (hs : Stamped es c) {e : MapEntry} (he : e ∈ es.toList) {s : List UInt8} (hk : e.key = .string (strOf s)) : valM es s = some e.val := by
  rw [valM, find_nodup hs.2.2 he hk]; rfl
theorem val_none {es : Array MapEntry} {s : List UInt8} : valM es s = none ↔ ∀ x ∈ es.toList, x.key ≠ .string (strOf s) := by
  rw [valM, Option.map_eq_none_iff, List.find?_eq_none]
  constructor
  · intro h x hx e; exact h x hx (keyIs_iff.2 e)
  · intro h x hx e; exact h x hx (keyIs_iff.1 e)
theorem val_mem {es : Array MapEntry} {s : List UInt8} {v : Value} (h : valM es s = some v) : ∃ e ∈ es.toList, e.key = .string (strOf s) ∧ e.val = v := by
  rw [valM, Option.map_eq_some_iff] at h
  obtain ⟨e, h1, h2⟩ := h
  exact ⟨e, List.mem_of_find?_eq_some h1, keyIs_iff.1 (List.find?_some h1), h2⟩
theorem MapT.find {w : World} {b c : Nat} {es : Array MapEntry} (h : MapT w b es c) (s : List UInt8) :
    (Instr.findNow .string (.string (strOf s)) es.toList 0 = some none ∧ valM es s = none ∧ ∀ x ∈ es.toList, x.key ≠ .string (strOf s)) ∨
    ∃ j e, Instr.findNow .string (.string (strOf s)) es.toList 0 = some (some (j, e.val)) ∧ es[j]? = some e ∧ e.key = .string (strOf s) ∧ valM es s = some e.val := by
  rcases findNow_spec (d := .string) (k := .string (strOf s)) trivial es.toList 0 h.keys with ⟨h1, h2⟩ | ⟨j, e, h1, h2, h3⟩
  · exact .inl ⟨h1, val_none.2 h2, h2⟩
  · exact .inr ⟨j, e, by rw [h1, Nat.zero_add], by simpa using h2, h3, val_some h.stamp (List.mem_of_getElem? h2) h3⟩
theorem MapT.keep {w w' : World} {b c : Nat} {es : Array MapEntry} (h : MapT w b es c) (hw : w'.heap[b]? = w.heap[b]?) : MapT w' b es c := ⟨hw.trans h.row, h.stamp, h.keys⟩
section
variable {P : Program} {w : World} {b c : Nat} {es : Array MapEntry} {mty kt et : TypeId}
theorem run_lookT (h : MapT w b es c) (hm : P.underlying mty = some (.map kt et)) (hk : P.underlying kt = some .string) (s : List UInt8) (v : Value) (hv : valM es s = some v) (ok : Bool) :
    (Instr.lookup mty (.map (some b)) (.string (strOf s)) ok).run P w = .ok (if ok = true then .tuple #[v, .bool true] else v) w := by
  have hkey : IsKey .string (Value.string (strOf s)) := trivial
  rcases h.find s with ⟨_, h2, _⟩ | ⟨j, e, h1, _, _, h4⟩
  · rw [h2] at hv; cases hv
  · rw [h4] at hv
    cases hv
    simp [Instr.lookup, run_underlying hm, MapKept.run_getObj_map h.row, run_checkKey hk hkey, run_findKey hk h1, Result.andThen]
theorem run_missT (h : MapT w b es c) (hm : P.underlying mty = some (.map kt et)) (hk : P.underlying kt = some .string) (s : List UInt8) (z : Value) (hz : (zeroValue et).run P w = .ok z w) (hv : valM es s = none) (ok : Bool) :
    (Instr.lookup mty (.map (some b)) (.string (strOf s)) ok).run P w = .ok (if ok = true then .tuple #[z, .bool false] else z) w := by
  have hkey : IsKey .string (Value.string (strOf s)) := trivial
  rcases h.find s with ⟨h1, _, _⟩ | ⟨j, e, _, _, _, h4⟩
  · simp [Instr.lookup, run_underlying hm, MapKept.run_getObj_map h.row, run_checkKey hk hkey, run_findKey hk h1, hz, Result.andThen]
  · rw [h4] at hv; cases hv
theorem run_lenT (h : MapT w b es c) (hm : P.underlying mty = some (.map kt et)) (ty : TypeId) : (Builtin.len_ #[mty] ty #[.map (some b)]).run P w = .ok (goInt es.size) w := by
  simp [Builtin.len_, run_underlying hm, MapKept.run_getObj_map h.row, Result.andThen]
theorem run_updT (h : MapT w b es c) (hm : P.underlying mty = some (.map kt et)) (hk : P.underlying kt = some .string) (s : List UInt8) (v : Value) :
    ∃ es' c', (Instr.mapUpdate mty (.map (some b)) (.string (strOf s)) v).run P w = .ok () (w.putObj b (.map es' c')) ∧ MapT (w.putObj b (.map es' c')) b es' c' ∧
      valM es' s = some v ∧ (∀ t, t ≠ s → valM es' t = valM es t) ∧ es'.size = es.size + (if (valM es s).isSome = true then 0 else 1) := by
  have hkey : IsKey .string (Value.string (strOf s)) := trivial
  rcases h.find s with ⟨h1, h2, h3⟩ | ⟨j, e, h1, h2, h3, h4⟩
  · have hat : (w.putObj b (.map (es.push { key := .string (strOf s), val := v, born := c }) (c + 1))).heap[b]? = some (.map (es.push { key := .string (strOf s), val := v, born := c }) (c + 1)) := (heap_set h.row).1
    have hst : Stamped (es.push { key := .string (strOf s), val := v, born := c }) (c + 1) := stamped_push h.stamp h3
    have hks : ∀ x ∈ (es.push { key := .string (strOf s), val := v, born := c }).toList, IsKey .string x.key := by
      intro x hx
      rw [Array.toList_push, List.mem_append, List.mem_singleton] at hx
      rcases hx with hx | rfl
      · exact h.keys x hx
      · trivial
    refine ⟨es.push { key := .string (strOf s), val := v, born := c }, c + 1, ?_, ⟨hat, hst, hks⟩, val_some (e := { key := .string (strOf s), val := v, born := c }) hst (by simp) rfl, fun t ht => ?_, by rw [h2]; simp⟩
    · simp [Instr.mapUpdate, run_underlying hm, MapKept.run_getObj_map h.row, run_checkKey hk hkey, run_findKey hk h1, MapKept.run_setObj_map _ h.row, Result.andThen]
      rfl
    · cases hv : valM es t with
      | none =>
        refine val_none.2 fun x hx => ?_
        rw [Array.toList_push, List.mem_append, List.mem_singleton] at hx
        rcases hx with hx | rfl
        · exact val_none.1 hv x hx
        · intro e; exact ht (strOf_inj (Value.string.inj e)).symm
      | some u =>
        obtain ⟨x, hx, hxk, rfl⟩ := val_mem hv
        exact val_some hst (by simp [hx]) hxk
  · have hlt : j < es.size := (Array.getElem?_eq_some_iff.1 h2).1
    have hej : es[j] = e := (Array.getElem?_eq_some_iff.1 h2).2
    obtain ⟨es', hes⟩ : ∃ a, (es.modify j fun q => { q with key := .string (strOf s), val := v }) = a := ⟨_, rfl⟩
    have hst : Stamped es' c := by
      rw [← hes]
      exact stamped_modify h.stamp j _ (fun q _ => rfl) (fun q _ hq => by rw [h2] at hq; cases hq; exact h3.symm)
    have hkk : ∀ q, es[j]? = some q → ({ q with key := Value.string (strOf s), val := v } : MapEntry).key = q.key := fun q hq => by rw [h2] at hq; cases hq; exact h3.symm
    have hks : ∀ x ∈ es'.toList, IsKey .string x.key := by
      rw [← hes]; exact isKey_modify h.keys j _ hkk
    have hat : (w.putObj b (.map es' c)).heap[b]? = some (.map es' c) := (heap_set h.row).1
    have hnew : es'[j]? = some { e with key := .string (strOf s), val := v } := by rw [← hes, Array.getElem?_modify]; simp [h2]
    refine ⟨es', c, ?_, ⟨hat, hst, hks⟩, ?_, fun t ht => ?_, by rw [h4, ← hes]; simp⟩
    · have hb2 := run_keyThatStays (P := P) (w := w) (k := Value.string (strOf s)) (d := .string) trivial
      simp [Instr.mapUpdate, run_underlying hm, MapKept.run_getObj_map h.row, run_checkKey hk hkey, run_findKey hk h1, h2, h3, hb2, MapKept.run_setObj_map _ h.row, Result.andThen]
      rw [← hes]; rfl
    · exact val_some (e := { e with key := .string (strOf s), val := v }) hst (List.mem_of_getElem? (i := j) (by simpa using hnew)) rfl
    · cases hv : valM es t with
      | none =>
        refine val_none.2 fun x hx => ?_
        obtain ⟨i, hi⟩ := List.getElem?_of_mem hx
        rw [Array.getElem?_toList, ← hes, Array.getElem?_modify] at hi
        by_cases hij : j = i
        · subst hij
          simp [h2] at hi
          subst hi
          intro e2; exact ht (strOf_inj (Value.string.inj e2)).symm
        · rw [if_neg hij] at hi
          exact val_none.1 hv x (List.mem_of_getElem? (by rw [Array.getElem?_toList]; exact hi))
      | some u =>
        obtain ⟨x, hx, hxk, rfl⟩ := val_mem hv
        obtain ⟨i, hi⟩ := List.getElem?_of_mem hx
        rw [Array.getElem?_toList] at hi
        have hij : j ≠ i := by
          rintro rfl
          rw [h2] at hi; cases hi
          rw [h3] at hxk; exact ht (strOf_inj (Value.string.inj hxk)).symm
        refine val_some hst (e := x) (List.mem_of_getElem? (i := i) ?_) hxk
        rw [Array.getElem?_toList, ← hes, Array.getElem?_modify, if_neg hij, hi]
theorem run_delT (h : MapT w b es c) (hm : P.underlying mty = some (.map kt et)) (hk : P.underlying kt = some .string) (s : List UInt8) (ty : TypeId) (ts : Array TypeId) (h0 : ts[0]? = some mty) :
    ∃ es', (Builtin.delete_ ts ty #[.map (some b), .string (strOf s)]).run P w = .ok (.tuple #[]) (w.putObj b (.map es' c)) ∧ MapT (w.putObj b (.map es' c)) b es' c ∧
      valM es' s = none ∧ (∀ t, t ≠ s → valM es' t = valM es t) ∧ es'.size + (if (valM es s).isSome = true then 1 else 0) = es.size := by
  have hkey : IsKey .string (Value.string (strOf s)) := trivial
  rcases h.find s with ⟨h1, h2, h3⟩ | ⟨j, e, h1, h2, h3, h4⟩
  · refine ⟨es, ?_, ⟨(heap_set h.row).1, h.stamp, h.keys⟩, h2, fun _ _ => rfl, by rw [h2]; simp⟩
    simp [Builtin.delete_, h0, run_underlying hm, MapKept.run_getObj_map h.row, run_checkKey hk hkey, run_findKey hk h1, MapKept.run_setObj_map _ h.row, Result.andThen]
    rfl
  · have hlt : j < es.size := (Array.getElem?_eq_some_iff.1 h2).1
    have hej : es[j] = e := (Array.getElem?_eq_some_iff.1 h2).2
    obtain ⟨es', hes⟩ : ∃ a, es.eraseIdxIfInBounds j = a := ⟨_, rfl⟩
    have hst : Stamped es' c := by rw [← hes]; exact stamped_erase h.stamp j
    have hl : es'.toList = es.toList.eraseIdx j := by
      rw [← hes, Array.eraseIdxIfInBounds, dif_pos hlt, Array.toList_eraseIdx]
    have hsub : ∀ x ∈ es'.toList, x ∈ es.toList := fun x hx => by rw [hl] at hx; exact List.mem_of_mem_eraseIdx hx
    have hsp : es.toList = es.toList.take j ++ e :: es.toList.drop (j + 1) := by
      conv => lhs; rw [← List.take_append_drop j es.toList, List.drop_eq_getElem_cons (by simpa using hlt)]
      simp [hej]
    have hl2 : es'.toList = es.toList.take j ++ es.toList.drop (j + 1) := by rw [hl, List.eraseIdx_eq_take_drop_succ]
    have hnd := h.stamp.2.2
    rw [hsp, List.map_append, List.map_cons, List.nodup_append, List.nodup_cons] at hnd
    refine ⟨es', ?_, ⟨(heap_set h.row).1, hst, fun x hx => h.keys x (hsub x hx)⟩, ?_, fun t ht => ?_, ?_⟩
    · simp [Builtin.delete_, h0, run_underlying hm, MapKept.run_getObj_map h.row, run_checkKey hk hkey, run_findKey hk h1, MapKept.run_setObj_map _ h.row, Result.andThen]
      rw [hes]; rfl
    · refine val_none.2 fun x hx hxk => ?_
      rw [hl2, List.mem_append] at hx
      rcases hx with hx | hx
      · exact hnd.2.2 _ (List.mem_map.2 ⟨x, hx, rfl⟩) _ (List.mem_cons_self ..) (by rw [hxk, h3])
      · exact hnd.2.1.1 (List.mem_map.2 ⟨x, hx, by rw [hxk, h3]⟩)
    · cases hv : valM es t with
      | none => exact val_none.2 fun x hx => val_none.1 hv x (hsub x hx)
      | some u =>
        obtain ⟨x, hx, hxk, rfl⟩ := val_mem hv
        refine val_some hst (e := x) ?_ hxk
        rw [hsp, List.mem_append, List.mem_cons] at hx
        rw [hl2, List.mem_append]
        rcases hx with hx | rfl | hx
        · exact .inl hx
        · rw [h3] at hxk; exact absurd (strOf_inj (Value.string.inj hxk)).symm ht
        · exact .inr hx
    · have := congrArg List.length hl
      rw [Array.length_toList, List.length_eraseIdx] at this
      simp only [Array.length_toList, if_pos hlt] at this
      rw [h4]; simp; omega
end
theorem keys_mem {es : Array MapEntry} {w : World} {b c : Nat} (h : MapT w b es c) (s : List UInt8) : s ∈ keysM es ↔ (valM es s).isSome = true := by
  unfold keysM
  rw [List.mem_map]
  constructor
  · rintro ⟨e, he, hk⟩
    rw [val_some h.stamp he ((keyL_iff (h.keys e he)).1 hk)]; rfl
  · intro hv
    obtain ⟨v, hv⟩ := Option.isSome_iff_exists.1 hv
    obtain ⟨e, he, hk, _⟩ := val_mem hv
    exact ⟨e, he, (keyL_iff (h.keys e he)).2 hk⟩
theorem keys_nodup {es : Array MapEntry} {w : World} {b c : Nat} (h : MapT w b es c) : (keysM es).Nodup := by
  have h1 := h.stamp.2.2
  have h2 := h.keys
  unfold keysM
  generalize es.toList = l at *
  induction l with
  | nil => simp
  | cons a r ih =>
    rw [List.map_cons, List.nodup_cons] at h1 ⊢
    refine ⟨fun hm => h1.1 ?_, ih h1.2 fun x hx => h2 x (List.mem_cons_of_mem _ hx)⟩
    obtain ⟨e, he, hk⟩ := List.mem_map.1 hm
    have ha := (keyL_iff (h2 a (List.mem_cons_self ..))).1 rfl
    have hb := (keyL_iff (h2 e (List.mem_cons_of_mem _ he))).1 hk
    exact List.mem_map.2 ⟨e, he, by rw [hb, ha]⟩
end Go.Proofs.Ythpbhfepiekchaa
