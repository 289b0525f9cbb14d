/- The contract of hexa.Bytes: the way back. -/
import Derived.Test.YtmhiclangfhhcaaHexText
import Derived.Test.YtmhiclangfhhcaaHexMeaning
namespace Go.Proofs.Ytmhiclangfhhcaa
open Go.ChangeShapes Go.WideShapes Go.ChangeAt Go.RowKit
set_option linter.unusedVariables false
set_option linter.unusedSimpArgs false

/-- an iterator stays where another block is written -/
theorem modify_push {α : Type} (l : Array α) (x : α) (i : Nat) (f : α → α) (h : i < l.size) : (l.push x).modify i f = (l.modify i f).push x := by
  refine Array.ext (by simp) fun j h1 h2 => ?_
  rw [Array.getElem_modify, Array.getElem_push, Array.getElem_push]
  by_cases hij : i = j
  · subst hij
    simp [h, Array.getElem_modify]
  · rw [if_neg hij]
    by_cases hj : j < l.size
    · simp [hj, Array.getElem_modify, hij]
    · simp [hj]
theorem setCell_iter (W : World) (s : ByteArray) (k : Nat) (a : Addr) (v : Value) (h : a.block < W.heap.size) : (W.iter s k).setCell a v = (W.setCell a v).iter s k := by
  simp only [World.setCell, World.iter, World.alloc, modify_push _ _ _ _ h]
theorem iterPos_at (W : World) (s : ByteArray) (p b : Nat) (h : W.heap.size = b) : (W.iter s p).iterPos b = p := by subst h; simp
/-- what Bytes answers -/
def BytesTold (w : World) (l : List UInt8) (e : Ending) (w' : World) : Prop :=
  (okL l = true ∧ ∃ g, w.heap.size ≤ g ∧ e = .returned (.tuple #[.slice (some ⟨g, 0, none⟩) (l.length / 2) (l.length / 2), .bool true]) ∧ w'.ownsRow w.heap.size 5 1 (.slice (some ⟨g, 0, none⟩) (l.length / 2) (l.length / 2)) (l.length / 2) (cellsOf (unL l)) ∧ Below w.heap.size w w') ∨
  (okL l = false ∧ e = .returned (.tuple #[.slice none 0 0, .bool false]) ∧ Below w.heap.size w w')
theorem or4 (p q : Nat) (hp : p < 16) (hq : q < 16) : bits .or .u8 ((p : Int) * 16) (q : Int) = ((16 * p + q : Nat) : Int) := by
  have := u8_or_nat (p * 16) q (by omega) (by omega)
  rw [show ((p * 16 : Nat) : Int) = (p : Int) * 16 by omega] at this
  rw [this]
  have h : ∀ (a b : Fin 16), a.val * 16 ||| b.val = 16 * a.val + b.val := by decide
  rw [h ⟨p, hp⟩ ⟨q, hq⟩]
set_option maxHeartbeats 1000000 in
theorem bytes_any (l : List UInt8) (w : World) (hl : l.length ≤ 1000000) :
    Calls Try.prog 17 #[.string (strOf l)] w fun e w' => BytesTold w l e w' := by
  have hsz := strOf_size l
  have hget := strOf_get? l
  generalize hs : strOf l = s at *
  obtain ⟨i0, hi, hz0, hz1, hz2⟩ := info_parts info_u8
  by_cases hodd : l.length % 2 = 1
  · have E := hideIt (okL_odd l hodd)
    have h1 : Int.tmod (s.size : Int) 2 = 1 := by rw [hsz, Int.tmod_eq_emod_of_nonneg (by omega)]; omega
    go_enter Try.func17, Try.ntmps17
    go_wp2
    go_ret2
    exact .inr ⟨E.out, rfl, Below.refl _ _⟩
  have hev : l.length % 2 = 0 := by omega
  obtain ⟨m, hm⟩ : ∃ m, l.length = 2 * m := ⟨l.length / 2, by omega⟩
  have h0 : Int.tmod (s.size : Int) 2 = 0 := by rw [hsz, Int.tmod_eq_emod_of_nonneg (by omega)]; omega
  have hq0 : Int.tdiv (s.size : Int) 2 = (m : Int) := by rw [hsz, hm, Int.tdiv_eq_ediv_of_nonneg (by omega)]; omega
  have HEV := hideIt hev
  have HM := hideIt hm
  have HSZ := hideIt hsz
  have HGET := hideIt hget
  have hm' : m ≤ 500000 := by omega
  clear hev hm hget hodd hsz
  go_enter Try.func17, Try.ntmps17
  go_wp2_with (at_make; refine wpList_makeCap rfl (.tmp 15) (.tmp 15) rfl m m m m (by first | rfl | (show Value.int _ _ = _; congr 1)) (by first | rfl | (show Value.int _ _ = _; congr 1)) rfl rfl (by omega) (by omega) ?_; intro w1 hown hg)
  have hb1 := below_made hg
  have ho0 : w1.ownsRow w.heap.size 5 1 (.slice (some ⟨w.heap.size, 0, none⟩) m m) m (cellsOf (halfL l 0)) := by rw [halfL_zero, HM.out, Nat.mul_div_cancel_left m (by omega)]; exact hown
  have HO0 := hideIt ho0
  have HB1 := hideIt hb1
  clear hown hg ho0 hb1
  go_loopw [] (fun wr => ∃ (k : Nat) (W : World), k ≤ l.length ∧ wr = W.iter s k ∧ W.heap.size = w1.heap.size ∧ W.ownsRow w.heap.size 5 1 (.slice (some ⟨w.heap.size, 0, none⟩) m m) m (cellsOf (halfL l k)) ∧ Below w.heap.size w W ∧ (l.take k).all isHex = true) (fun wr => l.length - wr.iterPos w1.heap.size)
  case atStart => exact ⟨0, w1, Nat.zero_le _, rfl, rfl, HO0.out, HB1.out, rfl⟩
  case round =>
    obtain ⟨k, W, hk, rfl, hW, ho, hb, ha⟩ := hrel
    have HW := hideIt hW
    have HO := hideIt ho
    have HB := hideIt hb
    have HA := hideIt ha
    clear ho hb ha HO0 HB1
    by_cases hkl : k < l.length
    · have hks : k < s.size := by have := HSZ.out; omega
      have hsk : s[k] = l[k] := by
        have := HGET.out k
        rw [getElem?_pos s k hks, List.getElem?_eq_getElem hkl] at this
        exact Option.some.inj this
      by_cases hd : isHex l[k] = true
      · have hv := hexV_facts l[k] hd
        have hN := halfV_next' l k hkl (by rw [all_take_succ l k hkl, HA.out, hd]; rfl)
        have hasc : (s[k]).toNat < 128 := by rw [hsk]; have := (isHex_iff l[k]).1 hd; omega
        have hnx : ∀ ty, (Instr.next (.pointer (some ⟨w1.heap.size, 0, none⟩)) true ty).run Try.prog (W.iter s k) = .ok (.tuple #[.bool true, .int .i64 (k : Int), .int .i32 ((l[k]).toNat : Int)]) (W.iter s (k + 1)) := fun ty => by
          have := run_next_ascii (P := Try.prog) W s k ty hks hasc
          rw [hW, hsk] at this
          exact this
        clear hW
        obtain ⟨q, hq⟩ : ∃ q, k / 2 = q := ⟨_, rfl⟩
        have hqm : q < m := by have := HM.out; omega
        have htd : Int.tdiv (k : Int) 2 = (q : Int) := by rw [Int.tdiv_eq_ediv_of_nonneg (by omega)]; omega
        have hST := halfL_set l k hkl HEV.out
        have hAT := halfL_at l k q (by have := HM.out; omega)
        rw [hq] at hN hST
        have hX : (UInt8.ofNat (halfV l (k + 1) q)).toNat = halfV l (k + 1) q := by rw [UInt8.toNat_ofNat']; omega
        have hY : (UInt8.ofNat (halfV l k q)).toNat = halfV l k q := by rw [UInt8.toNat_ofNat']; omega
        have hlt := own_lt HO.out
        have hcW : W.cell? ⟨w.heap.size, q, none⟩ = some (.int .u8 (halfV l k q : Int)) := by
          have := cell_told HO.out q _ hAT
          rwa [hY] at this
        have hfW := HO.out.frozenAt q
        have hc : (W.iter s (k + 1)).cell? ⟨w.heap.size, q, none⟩ = some (.int .u8 (halfV l k q : Int)) := ((below_iter W s (k + 1)).cell hlt.2).trans hcW
        have hf : (W.iter s (k + 1)).frozen? ⟨w.heap.size, q, none⟩ = false := by
          have e : (W.iter s (k + 1)).heap[w.heap.size]? = W.heap[w.heap.size]? := Below.heap_alloc W _ _ hlt.2
          simpa [World.frozen?, e] using hfW
        have hst := HO.out.stored q (.int .u8 ((UInt8.ofNat (halfV l (k + 1) q)).toNat : Int))
        rw [cellsOf_set, hST, hX] at hst
        have hor := or4 (halfV l k q) (hexV l[k]) hN.1 hv.1
        rw [← hN.2.1] at hor
        have hwr : IntKind.u8.wrap ((halfV l k q : Int) * 16) = (halfV l k q : Int) * 16 := by rw [IntKind.wrap_u8']; have := hN.1; omega
        have R : Hid (∃ (W' : World), (W.iter s (k + 1)).setCell ⟨w.heap.size, q, none⟩ (.int .u8 (halfV l (k + 1) q : Int)) = W'.iter s (k + 1) ∧ W'.heap.size = w1.heap.size ∧ W'.ownsRow w.heap.size 5 1 (.slice (some ⟨w.heap.size, 0, none⟩) m m) m (cellsOf (halfL l (k + 1))) ∧ Below w.heap.size w W' ∧ (l.take (k + 1)).all isHex = true) := hideIt
          ⟨W.setCell ⟨w.heap.size, q, none⟩ (.int .u8 (halfV l (k + 1) q : Int)), setCell_iter W s (k + 1) _ _ hlt.2, by rw [← HW.out]; simp [World.setCell], hst.1, HB.out.grown hst.2 HB.out.size (by intro x hx; cases hx; exact Nat.le_refl _), by rw [all_take_succ l k hkl, HA.out, hd]; rfl⟩
        have HM' := hideIt (meaning_hex l[k] (W.iter s (k + 1)) hd)
        have HKL := hideIt hkl
        have HIP := hideIt (iterPos_at W s k _ HW.out)
        clear hST hAT hX hY hcW hfW hst hN hv hlt hsk hasc hd HO HB HA HW hks hq
        generalize halfV l (k + 1) q = x at *
        generalize halfV l k q = p at *
        generalize hexV l[k] = v at *
        generalize (l[k]).toNat = u at *
        go_wp2_with fail
        refine HM'.out.mono ?_
        rintro e w2 ⟨rfl, rfl⟩
        clear HM'
        go_wp2_with fail
        obtain ⟨W', e1, e2, e3, e4, e5⟩ := R.out
        rw [e1]
        go_roundw
        case rel => exact ⟨k + 1, W', HKL.out, rfl, e2, e3, e4, e5⟩
        case measure => rw [iterPos_at _ _ _ _ e2, HIP.out]; have := HKL.out; omega
      · have E := hideIt (okL_bad l k hkl (by simpa using hd))
        have hd' : isHex l[k] = false := by simpa using hd
        have HBI := hideIt (below_then HB.out (below_iter W s (k + 1)))
        by_cases hasc : (s[k]).toNat < 128
        · have hnx : ∀ ty, (Instr.next (.pointer (some ⟨w1.heap.size, 0, none⟩)) true ty).run Try.prog (W.iter s k) = .ok (.tuple #[.bool true, .int .i64 (k : Int), .int .i32 ((l[k]).toNat : Int)]) (W.iter s (k + 1)) := fun ty => by
            have := run_next_ascii (P := Try.prog) W s k ty hks hasc
            rw [hW, hsk] at this
            exact this
          have HM' := hideIt (meaning_bad ((l[k]).toNat : Int) (W.iter s (k + 1)) (by omega) (by have := (l[k]).toNat_lt; omega) (isHex_no hd').1 (isHex_no hd').2)
          generalize (l[k]).toNat = u at *
          clear hW hd hd' hsk hasc
          go_wp2_with fail
          refine HM'.out.mono ?_
          rintro e w2 ⟨rfl, rfl⟩
          clear HM'
          go_wp2_with fail
          go_ret2
          exact .inr ⟨E.out, rfl, HBI.out⟩
        · have hnx : ∀ ty, (Instr.next (.pointer (some ⟨w1.heap.size, 0, none⟩)) true ty).run Try.prog (W.iter s k) = .ok (.tuple #[.bool true, .int .i64 (k : Int), .int .i32 ((Utf8.decode s k).1 : Int)]) (W.iter s (k + (Utf8.decode s k).2)) := fun ty => by
            have := run_next_any (P := Try.prog) W s k ty hks
            rw [hW] at this
            exact this
          have hhi := (decode_high s k hks (by omega)).1
          have hle := decode_le s k
          have HBI := hideIt (below_then HB.out (below_iter W s (k + (Utf8.decode s k).2)))
          have HM' := hideIt (meaning_bad ((Utf8.decode s k).1 : Int) (W.iter s (k + (Utf8.decode s k).2)) (by omega) (by omega) (by omega) (by omega))
          generalize (Utf8.decode s k).1 = u at *
          generalize k + (Utf8.decode s k).2 = k2 at *
          clear hW hd hd' hsk hasc
          go_wp2_with fail
          refine HM'.out.mono ?_
          rintro e w2 ⟨rfl, rfl⟩
          clear HM'
          go_wp2_with fail
          go_ret2
          exact .inr ⟨E.out, rfl, HBI.out⟩
    · obtain rfl : k = l.length := by omega
      have hnx : ∀ ty, (Instr.next (.pointer (some ⟨w1.heap.size, 0, none⟩)) true ty).run Try.prog (W.iter s l.length) = .ok (.tuple #[.bool false]) (W.iter s l.length) := fun ty => by
        have := run_next_end (P := Try.prog) W s l.length ty (by have := HSZ.out; omega)
        rw [hW] at this
        exact this
      have R : Hid (BytesTold w l (.returned (.tuple #[.slice (some ⟨w.heap.size, 0, none⟩) m m, .bool true])) (W.iter s l.length)) := hideIt (.inl (by
        have h2 : l.length / 2 = m := by have := HM.out; omega
        have h3 := HA.out
        rw [List.take_of_length_le (Nat.le_refl _)] at h3
        have h4 := HO.out
        rw [halfL_all l HEV.out] at h4
        rw [h2]
        exact ⟨by rw [okL, decide_eq_true HEV.out, h3]; rfl, w.heap.size, Nat.le_refl _, rfl, own_stay h4 (below_iter W s l.length), below_then HB.out (below_iter W s l.length)⟩))
      clear hW HO HB HA HW hkl
      go_wp2_with fail
      go_ret2
      exact R.out
theorem go_bytes : goFn Try.prog 17 = true := by kernel_rfl
end Go.Proofs.Ytmhiclangfhhcaa
