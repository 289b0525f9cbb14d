/- The reference's without: contract. -/
import Derived.Test.YthpbhfepiekchaaRefDStep
namespace Go.Proofs.Ythpbhfepiekchaa
open Go.ChangeShapes Go.WideShapes Go.ChangeAt Go.RowKit
set_option linter.unusedVariables false
set_option linter.unusedSimpArgs false

def otherR (s : List UInt8) (r : FR) : Bool := decide (r.name ≠ s)
theorem without_map (rs : List FR) (s : List UInt8) : (rs.filter (otherR s)).map FR.file = withoutP (rs.map FR.file) s := by
  unfold withoutP
  rw [List.filter_map]
  rfl
theorem filter_take (p : FR → Bool) (rs : List FR) (j : Nat) (q : FR) (h : rs[j]? = some q) : (rs.take (j + 1)).filter p = (rs.take j).filter p ++ if p q = true then [q] else [] := by
  obtain ⟨h1, h2⟩ := List.getElem?_eq_some_iff.1 h
  rw [List.take_succ_eq_append_getElem h1, List.filter_append, h2]
  congr 1
  by_cases hp : p q = true <;> simp [hp]
theorem frC_single (q : FR) : frC [q] = [.string (strOf q.name), q.row, .int .i64 (q.lasts : Int)] := rfl
/-- append of one file, that lies in a new block -/
theorem wpList_appF1 {X : World} {ops : Array Oper} {rest : List Oper} {o : Oper} {a : Act} {Q : Exit → Act → World → Prop} (hgd : o.guard = none) (s x : Operand)
    (ho : o.op = .call { callee := .builtin .append, args := #[s, x], argTypes := #[35, 35] })
    (base : Nat) (v : Value) (ps : List FR) (q : FR) (hs : a.eval s = v) (hown : FOwn base v ps X) (hx : a.eval x = .slice (some ⟨X.heap.size, 0, none⟩) 1 1) (hlen : ps.length ≤ 900000) (hbase : base ≤ X.heap.size)
    (h : ∀ v' w', FOwn base v' (ps ++ [q]) w' → (∀ k, k ≤ base → Below k X w') → wpList Try.prog ops Q rest (a.put o.dst v') w') : wpList Try.prog ops Q (o :: rest) a (X.alloc (.cells #[.string (strOf q.name), .slice q.A q.b.length q.c, .int .i64 (q.lasts : Int)] 76)) := by
  have hb := below_new X (.cells #[.string (strOf q.name), .slice q.A q.b.length q.c, .int .i64 (q.lasts : Int)] 76)
  refine wpList_appF hgd s x ho base v ps hs (hown.keep hb) (some ⟨X.heap.size, 0, none⟩) 1 1 [q] hx rfl (fun h => by cases h) (fun _ => ⟨X.heap.size, 0, rfl, by simp, fun j r hj => ?_⟩) (by simp; omega) (Nat.le_trans hbase hb.size) fun v' w' h1 h2 => h v' w' h1 fun k hk => ?_
  · obtain ⟨rfl, rfl⟩ : j = 0 ∧ r = q := by
      cases j with
      | zero => simp at hj; exact ⟨rfl, hj.symm⟩
      | succ j => simp at hj
    have hn := heap_alloc_new X (.cells #[.string (strOf r.name), .slice r.A r.b.length r.c, .int .i64 (r.lasts : Int)] 76)
    exact ⟨by rw [cell_of_row _ _ _ _ _ _ hn]; rfl, by rw [cell_of_row _ _ _ _ _ _ hn]; rfl, by rw [cell_of_row _ _ _ _ _ _ hn]; rfl⟩
  · exact ((hb.mono (by omega)).grown h2 (by have := hb.size; omega) (fun j hj => by have := (World.ownsRow.lt hown j hj).1; omega))
/-- a disk whose files lie in a new row -/
theorem TOk.newRow {w w' : World} {N : Nat → Prop} {A : Option Addr} {c : Nat} {rs : List FR} {left : Int} {D : DiskP} (h : TOk w N A c rs left D) (hb : Below w.heap.size w w') (hN : ∀ k, N k → k < w.heap.size) {A' : Option Addr} {c' : Nat} {rs' : List FR} {E : DiskP}
    (hat : FAt w' A' rs') (hbase : ∀ ad, A' = some ad → w.heap.size ≤ ad.block) (hfit : rs'.length ≤ c' ∧ c' ≤ maxLen) (hnil : A' = none → c' = 0) (hfiles : rs'.map FR.file = E.files) (heach : ∀ r ∈ rs', PieceOk w' ⟨r.A, r.c, r.b⟩) (hawayE : ∀ r ∈ rs', ∀ k, N k → Apart r.A r.b k) (hfu : E.fuse = D.fuse) : TOk w' N A' c' rs' left E :=
  ⟨hfiles, hat, ⟨hfit.1, by have := hfit.2; unfold maxLen at this; omega⟩, hnil, heach, fun ad e _ hn => by have := hbase ad e; have := hN _ hn; omega, hawayE, hfu ▸ h.leftIs, h.fits⟩
set_option maxRecDepth 100000 in
set_option maxHeartbeats 8000000 in
theorem rwithout_raw {w : World} {A : Option Addr} {c : Nat} {rs : List FR} (hF : FAt w A rs) (s : List UInt8) (n room : Nat) (hn : rs.length = n) (hm : rs.length ≤ 900000) (fu dead : Bool) (left : Int) :
    Calls Try.prog 50 #[tV (.slice A n c) room fu left dead, .string (strOf s)] w fun e w' => ∃ A' c', e = .returned (tV (.slice A' (rs.filter (otherR s)).length c') room fu left dead) ∧ Below w.heap.size w w' ∧
      FAt w' A' (rs.filter (otherR s)) ∧ (∀ ad, A' = some ad → w.heap.size ≤ ad.block) ∧ ((rs.filter (otherR s)).length ≤ c' ∧ c' ≤ maxLen) ∧ (A' = none → c' = 0) := by
  obtain ⟨hX, hZ, hB, hS⟩ := two_blocks w (.slice A n c) (.int .i64 (room : Int)) (.bool fu) (.int .i64 left) (.bool dead)
  unfold zeroD at hX hZ hB hS
  have hF2 := hF.keep hB
  have hg : Hid (w.heap.size + 1 ≠ w.heap.size) := hideIt (by omega)
  have HX := hideIt hX
  have HZ := hideIt hZ
  have HB := hideIt hB
  have HS := hideIt hS
  have HF := hideIt hF2
  have HN := hideIt hn
  have HM := hideIt hm
  clear hX hZ hB hS hF2 hF hn hm
  unfold tV tC
  go_enter Try.func50, Try.ntmps50
  go_upto_region 1 with fail
  generalize (w.alloc (.cells #[.slice A n c, .int .i64 (room : Int), .bool fu, .int .i64 left, .bool dead] 37)).alloc (.cells #[.slice none 0 0, .int .i64 0, .bool false, .int .i64 0, .bool false] 37) = X at *
  go_wp2_with fail
  go_loopw [5, 6] (fun l i wr => ∃ (j : Nat), i = .int .i64 (j : Int) ∧ j ≤ n ∧ FOwn (w.heap.size + 2) l ((rs.take j).filter (otherR s)) wr ∧ Below (w.heap.size + 2) X wr) (fun _ i _ => n - (intOf i).toNat)
  case atStart => exact ⟨0, rfl, by omega, FOwn.nil _ _, Below.refl _ _⟩
  case round =>
    obtain ⟨j, rfl, hj, hO, hb⟩ := hrel
    have hTw := HX.out.keep (hb.block w.heap.size (by omega))
    have c0 : wr.cell? ⟨w.heap.size, 0, none⟩ = some (.slice A n c) := hTw.cell 0
    have hbX : Below X.heap.size X wr := by rw [HS.out]; exact hb
    by_cases hlt : j < n
    · have hlt' : (j : Int) < (n : Int) := by omega
      have hwj : IntKind.i64.wrap ((j : Int) + 1) = (j : Int) + 1 := IntWalk.i64_in _ (by have := HM.out; have := HN.out; omega)
      obtain ⟨q, hq⟩ : ∃ q, rs[j]? = some q := ⟨_, List.getElem?_eq_getElem (by have := HN.out; omega)⟩
      obtain ⟨b, off, rfl, hbb, hc⟩ := (HF.out.keep hbX) (by have := HN.out; omega)
      obtain ⟨q1, q2, q3⟩ := hc j q hq
      rw [show off + 3 * j = off + j * 3 by omega] at q1 q2 q3
      unfold FR.row at q2
      have hft := filter_take (otherR s) rs j q hq
      by_cases he : q.name = s
      · have heq := eq_text q.name s true (decide_eq_true he)
        have R : Hid (∃ (j' : Nat), Value.int .i64 ((j : Int) + 1) = .int .i64 (j' : Int) ∧ j' ≤ n ∧ FOwn (w.heap.size + 2) u5 ((rs.take j').filter (otherR s)) wr ∧ Below (w.heap.size + 2) X wr) := hideIt
          ⟨j + 1, by simp, by omega, by rw [hft, if_neg (by simp [otherR, he]), List.append_nil]; exact hO, hb⟩
        clear hc hq hft he hO hb hTw hbX
        go_wp2
        go_roundw
        case rel => exact R.out
        case measure => simp [intOf]; omega
      · have heq := eq_text q.name s false (decide_eq_false he)
        have HO := hideIt hO
        have HFT : Hid ((rs.take (j + 1)).filter (otherR s) = (rs.take j).filter (otherR s) ++ [q]) := hideIt (by rw [hft, if_pos (by simp [otherR, he])])
        have HWB := hideIt hb
        have HLN : Hid (((rs.take j).filter (otherR s)).length ≤ 900000) := hideIt (by
          have h1 := List.length_filter_le (otherR s) (rs.take j)
          have h2 : (rs.take j).length ≤ rs.length := by rw [List.length_take]; omega
          have := HM.out; omega)
        have HWZ : Hid (w.heap.size + 2 ≤ wr.heap.size) := hideIt (by have := hb.size; rw [HS.out] at this; exact this)
        clear hc hq hft he hO hb hTw hbX
        go_wp2_with (at_builtin; refine wpList_appF1 rfl (.tmp 22) (.tmp 28) rfl (w.heap.size + 2) _ _ q rfl HO.out rfl HLN.out HWZ.out ?_)
        intro v3 w3 o3 g3
        rw [← HFT.out] at o3
        have R : Hid (∃ (j' : Nat), Value.int .i64 ((j : Int) + 1) = .int .i64 (j' : Int) ∧ j' ≤ n ∧ FOwn (w.heap.size + 2) v3 ((rs.take j').filter (otherR s)) w3 ∧ Below (w.heap.size + 2) X w3) := hideIt
          ⟨j + 1, by simp, by omega, o3, HWB.out.trans (g3 _ (Nat.le_refl _))⟩
        clear o3 g3
        go_wp2_with fail
        go_roundw
        case rel => exact R.out
        case measure => simp [intOf]; omega
    · have hjn : j = n := by omega
      subst hjn
      have ht : rs.take j = rs := List.take_of_length_le (by have := HN.out; omega)
      rw [ht] at hO
      obtain ⟨A', c', rfl, o1, o2, o3, o4, o5⟩ := hO.open
      obtain ⟨n', hn'⟩ : ∃ n', (rs.filter (otherR s)).length = n' := ⟨_, rfl⟩
      rw [hn'] at o1
      have HNN := hideIt hn'
      obtain ⟨p0, p1, p2, p3, p4, d0, d1, d2, d3, d4, pl⟩ := hTw.all
      have hX1 := hTw.set 0 (.slice A' n' c')
      have hZw := HZ.out.keep (hb.block (w.heap.size + 1) (by omega))
      have hZ1 := hZw.keep (Below.heap_setCell wr ⟨w.heap.size, 0, none⟩ (.slice A' n' c') _ hg.out)
      replace hX1 : TAt (wr.setCell ⟨w.heap.size, 0, none⟩ (.slice A' n' c')) w.heap.size #[.slice A' n' c', .int .i64 (room : Int), .bool fu, .int .i64 left, .bool dead] := hX1
      obtain ⟨p0', p1', p2', p3', p4', d0', d1', d2', d3', d4', pl'⟩ := hX1.all
      obtain ⟨z0, z1, z2, z3, z4, y0, y1, y2, y3, y4, _⟩ := hZ1.all
      have ZS := hideIt (hZ1.set5 (.slice A' n' c') (.int .i64 (room : Int)) (.bool fu) (.int .i64 left) (.bool dead))
      have hBw : Below w.heap.size w wr := HB.out.trans (hb.mono (by omega))
      have BS := hideIt (below_set5 (hBw.setCell (p := ⟨w.heap.size, 0, none⟩) (Nat.le_refl _) (.slice A' n' c')) (by omega : w.heap.size ≤ w.heap.size + 1) (.slice A' n' c') (.int .i64 (room : Int)) (.bool fu) (.int .i64 left) (.bool dead))
      have HAT : Hid (FAt (((((((wr.setCell ⟨w.heap.size, 0, none⟩ (.slice A' n' c')).setCell ⟨w.heap.size + 1, 0, none⟩ (.slice A' n' c')).setCell ⟨w.heap.size + 1, 1, none⟩ (.int .i64 (room : Int))).setCell ⟨w.heap.size + 1, 2, none⟩ (.bool fu)).setCell ⟨w.heap.size + 1, 3, none⟩ (.int .i64 left)).setCell ⟨w.heap.size + 1, 4, none⟩ (.bool dead))) A' (rs.filter (otherR s))) := hideIt (o4.moved fun ad had k => by
        have := o5 ad had
        rw [heap_set5 _ _ _ _ _ _ _ _ (by omega), Below.heap_setCell _ _ _ _ (by simp only; omega)])
      have HO5 : Hid (∀ ad, A' = some ad → w.heap.size ≤ ad.block) := hideIt fun ad had => by have := o5 ad had; omega
      have HO1 := hideIt (And.intro o1 o2)
      have HO3 := hideIt o3
      rw [hn']
      clear hn'
      clear hO hX1 hZ1 hZw hb hBw hTw hbX o1 o2 o3 o4 o5 ht hlt
      go_wp2
      refine bodyPost_ret (results_D Try.results50 _ _ (w.heap.size + 1) _ _ _ _ _ rfl (by exact ZS.out)) rfl ?_
      exact ⟨A', c', by rw [HNN.out], BS.out, HAT.out, HO5.out, by rw [HNN.out]; exact HO1.out, HO3.out⟩
end Go.Proofs.Ythpbhfepiekchaa
