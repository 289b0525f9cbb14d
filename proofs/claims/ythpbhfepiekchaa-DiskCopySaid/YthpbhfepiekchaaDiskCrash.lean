/- Contract of Crash. -/
import Derived.Test.YthpbhfepiekchaaDiskCrash0
import Derived.Test.YthpbhfepiekchaaDiskNames
namespace Go.Proofs.Ythpbhfepiekchaa
open Go.ChangeShapes Go.WideShapes Go.ChangeAt Go.RowKit
set_option linter.unusedVariables false
set_option linter.unusedSimpArgs false

def CrashPost (d : Nat) (S : Nat → Prop) (D : DiskP) (n : Int) (w : World) (e : Ending) (w' : World) : Prop := e = .returned (.tuple #[]) ∧ DiskM w' d S (crashP D n) ∧ Turn S w w'
set_option maxRecDepth 100000 in
set_option maxHeartbeats 8000000 in
theorem crash_any {w : World} {d : Nat} {S : Nat → Prop} {D : DiskP} (h : DiskM w d S D) (n : Int) (hn : -9223372036854775808 ≤ n ∧ n ≤ 9223372036854775807) :
    Calls Try.prog 14 #[.pointer (some ⟨d, 0, none⟩), .int .i64 n] w (CrashPost d S D n w) := by
  have HN := hideIt (names_any h)
  have HOS := hideIt (h.1.crash n)
  have HSZ := hideIt (fun s f => h.size (s := s) (f := f))
  have HOK := hideIt h.1
  have HLOW := hideIt h.low
  have hlen8 := h.1.many
  obtain ⟨h0, m, es, c, left, loc, row, h⟩ := h
  have H := hideIt h
  clear h h0
  go_enter Try.func14, Try.ntmps14
  go_wp2
  go_step3
  go_wp2
  go_step3
  go_wp2_with fail
  refine HN.out.mono ?_
  rintro e w1 ⟨v, rfl, hO, hB⟩
  obtain ⟨A0, c0, rfl, hc1, hc2, hSA⟩ := hO.open
  have hnl : (namesP D).length = D.files.length := by simp [namesP]
  rw [hnl]
  have HO := hideIt hO
  have HB := hideIt hB
  have HSA := hideIt hSA
  have HD1 := hideIt (H.out.keep (w' := w1) fun k hk => hB.block k (H.out.low k hk))
  clear hO hB hSA hc1 hc2
  go_wp2_with fail
  go_loopw [1, 14] (fun kv i wr => ∃ (j : Nat) (q : Int), kv = .int .i64 q ∧ i = .int .i64 (j : Int) ∧ j ≤ D.files.length ∧ -9223372036854775808 ≤ q ∧ q ≤ 9223372036854775807 ∧ q.toNat = restK (D.files.take j) n.toNat ∧ DiskIn wr d m es c left loc row S ⟨raiseL (D.files.take j) n.toNat ++ D.files.drop j, D.room, D.fuse, D.dead⟩ ∧ Turn S w1 wr) (fun _ i _ => D.files.length - (intOf i).toNat)
  case atStart => exact ⟨0, n, rfl, rfl, by omega, hn.1, hn.2, by simp [restK], by simpa [raiseL] using HD1.out, Turn.refl _ _⟩
  case round =>
    obtain ⟨j, q, rfl, rfl, hj, hq1, hq2, hq3, hI, hT⟩ := hrel
    have HT := hideIt hT
    have HQ := hideIt hq3
    have hsz1 : w1.heap.size ≤ wr.heap.size := hT.size
    by_cases hlt : j < D.files.length
    · obtain ⟨f, hf⟩ : ∃ f, D.files[j]? = some f := ⟨_, List.getElem?_eq_getElem hlt⟩
      have hdr : D.files.drop j = f :: D.files.drop (j + 1) := by
        obtain ⟨h1, h2⟩ := List.getElem?_eq_some_iff.1 hf
        rw [List.drop_eq_getElem_cons h1, h2]
      have htk : D.files.take (j + 1) = D.files.take j ++ [f] := by
        obtain ⟨h1, h2⟩ := List.getElem?_eq_some_iff.1 hf
        rw [List.take_succ_eq_append_getElem h1, h2]
      have hall : D.files = D.files.take j ++ f :: D.files.drop (j + 1) := by rw [← hdr, List.take_append_drop]
      rw [hdr] at hI
      have hfl := (HOK.out.each f (List.mem_of_getElem? hf)).1
      have hfs : f.b.length ≤ 1048576 := by
        have h1 := find_mid (a := D.files.take j) (b := D.files.drop (j + 1)) (g := f) (by rw [← hall]; exact HOK.out.rise)
        rw [← hall] at h1
        exact HSZ.out _ f h1
      obtain ⟨gb, rfl, hgb, hcs⟩ := HSA.out (by rw [hnl]; omega)
      have hgs : ¬ S gb := fun hs => by
        have h1 := HLOW.out gb hs
        have h2 := (World.ownsRow.lt HO.out gb rfl).1
        omega
      have hnm : wr.cell? ⟨gb, j, none⟩ = some (.string (strOf f.name)) := by
        have h1 := hcs j f.name (by unfold namesP; rw [List.getElem?_map, hf]; rfl)
        simp only [World.cell?] at h1 ⊢
        rw [hT.block gb hgb hgs]
        exact h1
      have hlook := hI.hit (find_mid hI.rise)
      have c1 := hI.head.c1
      have HI := hideIt hI
      have hlt' : (j : Int) < (D.files.length : Int) := by omega
      have hwj : IntKind.i64.wrap ((j : Int) + 1) = (j : Int) + 1 := IntWalk.i64_in _ (by omega)
      have HNX : Hid (∀ (wq : World) (q' : Int) (i : Nat), i = keepP f (restK (D.files.take j) n.toNat) → -9223372036854775808 ≤ q' → q' ≤ 9223372036854775807 → q'.toNat = restK (D.files.take j) n.toNat - i →
          DiskIn wq d m es c left loc row S ⟨raiseL (D.files.take j) n.toNat ++ ⟨f.name, f.b, f.lasts + i⟩ :: D.files.drop (j + 1), D.room, D.fuse, D.dead⟩ → Turn S w1 wq →
          ∃ (j' : Nat) (q'' : Int), Value.int .i64 q' = .int .i64 q'' ∧ Value.int .i64 ((j : Int) + 1) = .int .i64 (j' : Int) ∧ j' ≤ D.files.length ∧ -9223372036854775808 ≤ q'' ∧ q'' ≤ 9223372036854775807 ∧ q''.toNat = restK (D.files.take j') n.toNat ∧ DiskIn wq d m es c left loc row S ⟨raiseL (D.files.take j') n.toNat ++ D.files.drop j', D.room, D.fuse, D.dead⟩ ∧ Turn S w1 wq) := hideIt
        fun wq q' i hi h1 h2 h3 h4 h5 => ⟨j + 1, q', rfl, by simp, by omega, h1, h2, by rw [htk, rest_append, h3, hi]; rfl, by rw [htk, raise_append, List.append_assoc]; rw [hi] at h4; exact h4, h5⟩
      have HBR : Hid (∀ (wq : World) (i : Nat), i = keepP f (restK (D.files.take j) n.toNat) → restK (D.files.take j) n.toNat - i = 0 →
          DiskIn wq d m es c left loc row S ⟨raiseL (D.files.take j) n.toNat ++ ⟨f.name, f.b, f.lasts + i⟩ :: D.files.drop (j + 1), D.room, D.fuse, D.dead⟩ → DiskIn wq d m es c left loc row S ⟨raiseL D.files n.toNat, D.room, D.fuse, D.dead⟩) := hideIt
        fun wq i hi h1 h2 => by
          rw [raise_here hall, ← hi, h1, raise_zero]
          exact h2
      generalize hRR : restK (D.files.take j) n.toNat = RR at *
      have HRR := hideIt hRR
      have hnfs : (D.files.length : Int) ≤ 8 := by omega
      clear hRR hI hT hdr htk hall hcs hf hq3
      go_wp2_with fail
      generalize wr = wz at *
      go_loopw [1] (fun kv wq => ∃ (i : Nat) (q' : Int), kv = .int .i64 q' ∧ i ≤ keepP f RR ∧ -9223372036854775808 ≤ q' ∧ q' ≤ 9223372036854775807 ∧ q'.toNat = RR - i ∧ DiskIn wq d m es c left loc row S ⟨raiseL (D.files.take j) n.toNat ++ ⟨f.name, f.b, f.lasts + i⟩ :: D.files.drop (j + 1), D.room, D.fuse, D.dead⟩ ∧ Turn S w1 wq) (fun kv _ => (intOf kv).toNat)
      case atStart => exact ⟨0, q, rfl, by omega, hq1, hq2, by have := HQ.out; omega, HI.out, HT.out⟩
      case round =>
        obtain ⟨i, q', rfl, hik, hr1, hr2, hr3, hI, hT⟩ := hrel
        have hfind := find_mid hI.rise
        have hfile := hI.file f.name _ hfind
        obtain ⟨A2, c2, hv, _⟩ := hfile.piece (by simp only; omega)
        have c0 := hfile.c0
        have cl := hfile.c1
        have fz := hfile.fz 1
        rw [hv] at c0
        simp only at c0 cl
        have d0 : wr.drew.cell? ⟨loc f.name, 0, none⟩ = some (.slice A2 f.b.length c2) := c0
        have dl : wr.drew.cell? ⟨loc f.name, 1, none⟩ = some (.int .i64 ((f.lasts + i : Nat) : Int)) := cl
        have fd : wr.drew.frozen? ⟨loc f.name, 1, none⟩ = false := fz
        have hkp : keepP f RR = min (f.b.length - f.lasts) RR := rfl
        by_cases hlen : f.lasts + i < f.b.length
        · by_cases hpos : 0 < q'
          · have hI2 := (hI.setLasts hfind (f.lasts + (i + 1))).drew
            simp only [put_mid hI.rise] at hI2
            have hT2 := hT.trans (turn_cell wr ⟨loc f.name, 1, none⟩ (.int .i64 ((f.lasts + (i + 1) : Nat) : Int)) S (hI.mineF f.name _ hfind).1) fun i hi => .inl hi
            have hwl : IntKind.i64.wrap (((f.lasts + i : Nat) : Int) + 1) = ((f.lasts + i : Nat) : Int) + 1 := IntWalk.i64_in _ (by omega)
            have hwr : IntKind.i64.wrap (q' - 1) = q' - 1 := IntWalk.i64_in _ (by omega)
            have hcast : ((f.lasts + (i + 1) : Nat) : Int) = ((f.lasts + i : Nat) : Int) + 1 := by omega
            rw [hcast] at hI2 hT2
            have hl2 : ((f.lasts + i : Nat) : Int) < (f.b.length : Int) := by omega
            have R : Hid (∃ (i' : Nat) (q'' : Int), Value.int .i64 (q' - 1) = .int .i64 q'' ∧ i' ≤ keepP f RR ∧ -9223372036854775808 ≤ q'' ∧ q'' ≤ 9223372036854775807 ∧ q''.toNat = RR - i' ∧ DiskIn (wr.setCell ⟨loc f.name, 1, none⟩ (.int .i64 (((f.lasts + i : Nat) : Int) + 1))).drew d m es c left loc row S ⟨raiseL (D.files.take j) n.toNat ++ ⟨f.name, f.b, f.lasts + i'⟩ :: D.files.drop (j + 1), D.room, D.fuse, D.dead⟩ ∧ Turn S w1 (wr.setCell ⟨loc f.name, 1, none⟩ (.int .i64 (((f.lasts + i : Nat) : Int) + 1))).drew) := hideIt
              ⟨i + 1, q' - 1, rfl, by omega, by omega, by omega, by omega, hI2, hT2.drew⟩
            clear hI hI2 hT hT2 hfile hfind hv hcast hkp hlen hik hr3
            generalize ((f.lasts + i : Nat) : Int) = lz at *
            go_wp2
            go_region
            go_wp2
            go_roundw
            case rel => exact R.out
            case measure => simp [intOf]; omega
          · have HX := hideIt (HBR.out wr i (by omega) (by omega) hI)
            have HTX := hideIt hT
            have x1 : wr.drew.cell? ⟨d, 1, none⟩ = some (.map (some m)) := HX.out.head.c1
            obtain ⟨r0, hr0⟩ : ∃ r0, wr.heap.size = r0 := ⟨_, rfl⟩
            have xr : (Instr.range 60 (.map (some m))).run Try.prog wr.drew = .ok (.pointer (some ⟨r0, 0, none⟩)) (wr.drew.alloc (.mapIter (some m) c #[] c)) := by rw [← hr0]; exact run_range_map wr.drew _ _ _ m es c Try.underlying60 HX.out.map.row
            have HR0 := hideIt hr0
            clear hr0
            have hl2 : ((f.lasts + i : Nat) : Int) < (f.b.length : Int) := by omega
            clear hI hT hfile hfind hv hkp hlen hik hr3
            generalize ((f.lasts + i : Nat) : Int) = lz at *
            go_wp2
            go_region
            go_wp2
            clear c0 cl fz d0 dl fd hlook hnm x1 xr
            generalize wr = wy at *
            go_loopw [] (fun wr => ∃ ls rest row', RangeM wr r0 m c es ls rest ∧ DiskIn wr d m es c left loc row' S ⟨cutL (ls.map keyL) (raiseL D.files n.toNat), D.room, D.fuse, D.dead⟩ ∧ Turn S wy wr) (fun wr => es.size - (wr.iterSeen r0).size)
            case atStart => exact ⟨[], es.toList, row, by have h1 := range_start (w := wy) (m := m) (c := c) (es := es); rw [HR0.out] at h1; exact h1.keep rfl, by rw [List.map_nil, cut_nil]; exact (HX.out.below (below_new wy _)).drew, (Turn.of (below_new wy _) S).drew⟩
            case round =>
              obtain ⟨ls, rest, row', hR, hD, hT⟩ := hrel
              have HLY := hideIt HX.out.low
              rcases range_next (P := Try.prog) hR hD.map 0 with ⟨rfl, hn⟩ | ⟨e, rest', w2, hp, hn, hR1, o1, o2, o3, o4, hoth, hent⟩
              · have hnx : ∀ ty, (Instr.next (.pointer (some ⟨r0, 0, none⟩)) false ty).run Try.prog wr = .ok (.tuple #[.bool false]) wr := fun ty => hn
                have hperm : (ls.map keyL).Perm ((raiseL D.files n.toNat).map FileP.name) := by
                  have h1 := hR.perm
                  rw [List.append_nil] at h1
                  have h2 := (h1.map keyL).trans hD.names
                  have e2 : namesP (⟨cutL (ls.map keyL) (raiseL D.files n.toNat), D.room, D.fuse, D.dead⟩ : DiskP) = (raiseL D.files n.toNat).map FileP.name := cut_names _ _
                  rw [e2] at h2
                  exact h2
                have hcut : cutL (ls.map keyL) (raiseL D.files n.toNat) = crashL D.files n.toNat := by
                  rw [cut_all fun f hf => hperm.mem_iff.2 (List.mem_map.2 ⟨f, hf, rfl⟩), cut_raise]
                have hW := hD.wakes
                simp only [hcut] at hW
                have c2 := hD.head.c2
                have f2 := hD.head.fz 2
                have c3 := (hD.head.setLeft (-1)).c3
                have f3 := (hD.head.setLeft (-1)).fz 3
                have hTT : Turn S wr ((wr.setCell ⟨d, 2, none⟩ (.int .i64 (-1))).setCell ⟨d, 3, none⟩ (.bool false)) := (turn_cell wr ⟨d, 2, none⟩ _ S hD.mineD).trans (turn_cell _ ⟨d, 3, none⟩ _ S hD.mineD) fun i hi => .inl hi
                have R : Hid (CrashPost d S D n w (.returned (.tuple #[])) ((wr.setCell ⟨d, 2, none⟩ (.int .i64 (-1))).setCell ⟨d, 3, none⟩ (.bool false))) := hideIt
                  ⟨rfl, ⟨HOS.out, m, es, c, -1, loc, row', hW⟩, ((((Turn.of HB.out S).trans HTX.out fun i hi => .inl hi).trans hT fun i hi => .inl hi).trans hTT fun i hi => .inl hi)⟩
                clear hn hperm hcut hW hTT hR hD hT
                go_wp2
                refine bodyPost_end (results_none rfl _ _ _) rfl ?_
                exact R.out
              · have hnx : ∀ ty, (Instr.next (.pointer (some ⟨r0, 0, none⟩)) false ty).run Try.prog wr = .ok (.tuple #[.bool true, e.key, e.val]) w2 := fun ty => hn
                have hem : e ∈ es.toList := hR.perm.mem_iff.1 (List.mem_append.2 (.inr (hp.mem_iff.2 (List.mem_cons_self ..))))
                obtain ⟨f, ek, ev, ef⟩ := hD.entry hem
                rw [ek, ev] at hnx hent
                have hlow : ∀ k, S k → k < r0 := fun k hk => by rw [← HR0.out]; exact HLY.out k hk
                have hD2 : DiskIn w2 d m es c left loc row' S ⟨cutL (ls.map keyL) (raiseL D.files n.toNat), D.room, D.fuse, D.dead⟩ := hD.keep fun k hk => hoth k (by have := hlow k hk; omega)
                have hns : keyL e ∉ ls.map keyL := fun hin => by
                  have h1 := keys_nodup hD.map
                  unfold keysM at h1
                  rw [← (hR.perm.map keyL).nodup_iff, List.map_append, List.nodup_append] at h1
                  exact h1.2.2 _ hin _ (List.mem_map.2 ⟨e, hp.mem_iff.2 (List.mem_cons_self ..), rfl⟩) rfl
                obtain ⟨f0, hf0, hff⟩ : ∃ f0, findP (raiseL D.files n.toNat) (keyL e) = some f0 ∧ f = f0 := by
                  have h1 : findP (cutL (ls.map keyL) (raiseL D.files n.toNat)) (keyL e) = some f := ef
                  rw [find_cut] at h1
                  cases hq : findP (raiseL D.files n.toNat) (keyL e) with
                  | none => rw [hq] at h1; cases h1
                  | some f0 => rw [hq] at h1; simp only [Option.map_some, if_neg hns, Option.some.injEq] at h1; exact ⟨f0, rfl, h1.symm⟩
                subst hff
                have hfl : f.lasts ≤ f.b.length := raise_each (fun g hg => (HOK.out.each g hg).1) _ f (findP_name hf0).2
                have hfile := hD2.file (keyL e) f ef
                have hfb : f.b.length ≤ 1048576 := by
                  have h1 := raise_used D.files n.toNat
                  have h2 := used_le (findP_name hf0).2
                  have h3 := HOK.out.used
                  have h4 := HOK.out.room
                  omega
                obtain ⟨A2, cc, hv, hpc⟩ := hfile.piece (by omega)
                have hcap := hpc.fits
                simp only at hcap
                have c0 := hfile.c0
                have c1 := hfile.c1
                have fz := hfile.fz 0
                rw [hv] at c0
                have d0 : w2.drew.cell? ⟨loc (keyL e), 0, none⟩ = some (.slice A2 f.b.length cc) := c0
                have d1 : w2.drew.cell? ⟨loc (keyL e), 1, none⟩ = some (.int .i64 (f.lasts : Int)) := c1
                have fd : w2.drew.frozen? ⟨loc (keyL e), 0, none⟩ = false := fz
                have hsl := fun w => slice_hi A2 f.b.length cc f.lasts (by omega) w
                obtain ⟨row2, hJ⟩ := hD2.drew.cutFile ef hv hfl
                have hput := cut_put (rising_of (raise_names D.files n.toNat) HOK.out.rise) hf0 hns
                simp only [hput] at hJ
                have hmine := (hD2.mineF (keyL e) f ef).1
                have hll := hlow _ hmine
                have hT2 : Turn S wy w2 := ⟨o1.trans hT.os, o2.trans hT.tape, o3.trans hT.output, by rw [o4]; exact hT.size, fun k hk hn2 => (hoth k (by have := HR0.out; omega)).trans (hT.block k hk hn2)⟩
                have hT3 : Turn S wy (w2.drew.setCell ⟨loc (keyL e), 0, none⟩ (.slice A2 f.lasts cc)) := hT2.drew.trans (turn_cell w2.drew ⟨loc (keyL e), 0, none⟩ _ S hmine) fun i hi => .inl hi
                have hR3 : RangeM (w2.drew.setCell ⟨loc (keyL e), 0, none⟩ (.slice A2 f.lasts cc)) r0 m c es (ls ++ [e]) rest' := hR1.keep (Below.heap_setCell w2.drew ⟨loc (keyL e), 0, none⟩ _ r0 (by simp only; omega))
                have R : Hid (∃ ls rest row', RangeM (w2.drew.setCell ⟨loc (keyL e), 0, none⟩ (.slice A2 f.lasts cc)) r0 m c es ls rest ∧ DiskIn (w2.drew.setCell ⟨loc (keyL e), 0, none⟩ (.slice A2 f.lasts cc)) d m es c left loc row' S ⟨cutL (ls.map keyL) (raiseL D.files n.toNat), D.room, D.fuse, D.dead⟩ ∧ Turn S wy (w2.drew.setCell ⟨loc (keyL e), 0, none⟩ (.slice A2 f.lasts cc))) := hideIt
                  ⟨ls ++ [e], rest', row2, hR3, by rw [List.map_append]; exact hJ, hT3⟩
                have M : Hid (es.size - ((w2.drew.setCell ⟨loc (keyL e), 0, none⟩ (.slice A2 f.lasts cc)).iterSeen r0).size < es.size - (wr.iterSeen r0).size) := hideIt (by
                  have e1 : ((w2.drew.setCell ⟨loc (keyL e), 0, none⟩ (.slice A2 f.lasts cc)).iterSeen r0).size = ls.length + 1 := by unfold World.iterSeen; rw [hR3.it]; simp
                  have e2 : (wr.iterSeen r0).size = ls.length := by unfold World.iterSeen; rw [hR.it]; simp
                  have e3 := hR3.perm.length_eq
                  simp at e3
                  rw [e1, e2]; omega)
                clear hn hlow hD2 hns hf0 hfl hfile hfb hv hpc hcap hJ hput hmine hll hT2 hT3 hR3 hR hD hT hp hR1 o1 o2 o3 o4 hoth hem ek ev ef
                go_wp2
                go_region
                go_wp2
                go_roundw
                case rel => exact R.out
                case measure => exact M.out
        · have R := hideIt (HNX.out wr.drew q' i (by omega) hr1 hr2 hr3 hI.drew hT.drew)
          have hl2 : (f.b.length : Int) ≤ ((f.lasts + i : Nat) : Int) := by omega
          clear hI hT hfile hfind hv hkp hlen hik hr3
          generalize ((f.lasts + i : Nat) : Int) = lz at *
          go_wp2
          go_region
          go_wp2
          go_roundw
          case rel => exact R.out
          case measure => simp [intOf]; omega
    · have hjn : j = D.files.length := by omega
      subst hjn
      have hX : DiskIn wr d m es c left loc row S ⟨raiseL D.files n.toNat, D.room, D.fuse, D.dead⟩ := by
        have h1 := hI
        rw [List.take_length, List.drop_length, List.append_nil] at h1
        exact h1
      have HX := hideIt hX
      have HTX := hideIt hT
      have x1 := HX.out.head.c1
      obtain ⟨r0, hr0⟩ : ∃ r0, wr.heap.size = r0 := ⟨_, rfl⟩
      have xr : (Instr.range 60 (.map (some m))).run Try.prog wr = .ok (.pointer (some ⟨r0, 0, none⟩)) (wr.alloc (.mapIter (some m) c #[] c)) := by rw [← hr0]; exact run_range_map wr _ _ _ m es c Try.underlying60 HX.out.map.row
      have HR0 := hideIt hr0
      clear hr0
      clear hI hT hX hq3
      go_wp2
      generalize wr = wy at *
      clear x1 xr
      go_loopw [] (fun wr => ∃ ls rest row', RangeM wr r0 m c es ls rest ∧ DiskIn wr d m es c left loc row' S ⟨cutL (ls.map keyL) (raiseL D.files n.toNat), D.room, D.fuse, D.dead⟩ ∧ Turn S wy wr) (fun wr => es.size - (wr.iterSeen r0).size)
      case atStart => exact ⟨[], es.toList, row, by have h1 := range_start (w := wy) (m := m) (c := c) (es := es); rw [HR0.out] at h1; exact h1, by rw [List.map_nil, cut_nil]; exact (HX.out.below (below_new wy _)), (Turn.of (below_new wy _) S)⟩
      case round =>
        obtain ⟨ls, rest, row', hR, hD, hT⟩ := hrel
        have HLY := hideIt HX.out.low
        rcases range_next (P := Try.prog) hR hD.map 0 with ⟨rfl, hn⟩ | ⟨e, rest', w2, hp, hn, hR1, o1, o2, o3, o4, hoth, hent⟩
        · have hnx : ∀ ty, (Instr.next (.pointer (some ⟨r0, 0, none⟩)) false ty).run Try.prog wr = .ok (.tuple #[.bool false]) wr := fun ty => hn
          have hperm : (ls.map keyL).Perm ((raiseL D.files n.toNat).map FileP.name) := by
            have h1 := hR.perm
            rw [List.append_nil] at h1
            have h2 := (h1.map keyL).trans hD.names
            have e2 : namesP (⟨cutL (ls.map keyL) (raiseL D.files n.toNat), D.room, D.fuse, D.dead⟩ : DiskP) = (raiseL D.files n.toNat).map FileP.name := cut_names _ _
            rw [e2] at h2
            exact h2
          have hcut : cutL (ls.map keyL) (raiseL D.files n.toNat) = crashL D.files n.toNat := by
            rw [cut_all fun f hf => hperm.mem_iff.2 (List.mem_map.2 ⟨f, hf, rfl⟩), cut_raise]
          have hW := hD.wakes
          simp only [hcut] at hW
          have c2 := hD.head.c2
          have f2 := hD.head.fz 2
          have c3 := (hD.head.setLeft (-1)).c3
          have f3 := (hD.head.setLeft (-1)).fz 3
          have hTT : Turn S wr ((wr.setCell ⟨d, 2, none⟩ (.int .i64 (-1))).setCell ⟨d, 3, none⟩ (.bool false)) := (turn_cell wr ⟨d, 2, none⟩ _ S hD.mineD).trans (turn_cell _ ⟨d, 3, none⟩ _ S hD.mineD) fun i hi => .inl hi
          have R : Hid (CrashPost d S D n w (.returned (.tuple #[])) ((wr.setCell ⟨d, 2, none⟩ (.int .i64 (-1))).setCell ⟨d, 3, none⟩ (.bool false))) := hideIt
            ⟨rfl, ⟨HOS.out, m, es, c, -1, loc, row', hW⟩, ((((Turn.of HB.out S).trans HTX.out fun i hi => .inl hi).trans hT fun i hi => .inl hi).trans hTT fun i hi => .inl hi)⟩
          clear hn hperm hcut hW hTT hR hD hT
          go_wp2
          refine bodyPost_end (results_none rfl _ _ _) rfl ?_
          exact R.out
        · have hnx : ∀ ty, (Instr.next (.pointer (some ⟨r0, 0, none⟩)) false ty).run Try.prog wr = .ok (.tuple #[.bool true, e.key, e.val]) w2 := fun ty => hn
          have hem : e ∈ es.toList := hR.perm.mem_iff.1 (List.mem_append.2 (.inr (hp.mem_iff.2 (List.mem_cons_self ..))))
          obtain ⟨f, ek, ev, ef⟩ := hD.entry hem
          rw [ek, ev] at hnx hent
          have hlow : ∀ k, S k → k < r0 := fun k hk => by rw [← HR0.out]; exact HLY.out k hk
          have hD2 : DiskIn w2 d m es c left loc row' S ⟨cutL (ls.map keyL) (raiseL D.files n.toNat), D.room, D.fuse, D.dead⟩ := hD.keep fun k hk => hoth k (by have := hlow k hk; omega)
          have hns : keyL e ∉ ls.map keyL := fun hin => by
            have h1 := keys_nodup hD.map
            unfold keysM at h1
            rw [← (hR.perm.map keyL).nodup_iff, List.map_append, List.nodup_append] at h1
            exact h1.2.2 _ hin _ (List.mem_map.2 ⟨e, hp.mem_iff.2 (List.mem_cons_self ..), rfl⟩) rfl
          obtain ⟨f0, hf0, hff⟩ : ∃ f0, findP (raiseL D.files n.toNat) (keyL e) = some f0 ∧ f = f0 := by
            have h1 : findP (cutL (ls.map keyL) (raiseL D.files n.toNat)) (keyL e) = some f := ef
            rw [find_cut] at h1
            cases hq : findP (raiseL D.files n.toNat) (keyL e) with
            | none => rw [hq] at h1; cases h1
            | some f0 => rw [hq] at h1; simp only [Option.map_some, if_neg hns, Option.some.injEq] at h1; exact ⟨f0, rfl, h1.symm⟩
          subst hff
          have hfl : f.lasts ≤ f.b.length := raise_each (fun g hg => (HOK.out.each g hg).1) _ f (findP_name hf0).2
          have hfile := hD2.file (keyL e) f ef
          have hfb : f.b.length ≤ 1048576 := by
            have h1 := raise_used D.files n.toNat
            have h2 := used_le (findP_name hf0).2
            have h3 := HOK.out.used
            have h4 := HOK.out.room
            omega
          obtain ⟨A2, cc, hv, hpc⟩ := hfile.piece (by omega)
          have hcap := hpc.fits
          simp only at hcap
          have c0 := hfile.c0
          have c1 := hfile.c1
          have fz := hfile.fz 0
          rw [hv] at c0
          have d0 : w2.drew.cell? ⟨loc (keyL e), 0, none⟩ = some (.slice A2 f.b.length cc) := c0
          have d1 : w2.drew.cell? ⟨loc (keyL e), 1, none⟩ = some (.int .i64 (f.lasts : Int)) := c1
          have fd : w2.drew.frozen? ⟨loc (keyL e), 0, none⟩ = false := fz
          have hsl := fun w => slice_hi A2 f.b.length cc f.lasts (by omega) w
          obtain ⟨row2, hJ⟩ := hD2.drew.cutFile ef hv hfl
          have hput := cut_put (rising_of (raise_names D.files n.toNat) HOK.out.rise) hf0 hns
          simp only [hput] at hJ
          have hmine := (hD2.mineF (keyL e) f ef).1
          have hll := hlow _ hmine
          have hT2 : Turn S wy w2 := ⟨o1.trans hT.os, o2.trans hT.tape, o3.trans hT.output, by rw [o4]; exact hT.size, fun k hk hn2 => (hoth k (by have := HR0.out; omega)).trans (hT.block k hk hn2)⟩
          have hT3 : Turn S wy (w2.drew.setCell ⟨loc (keyL e), 0, none⟩ (.slice A2 f.lasts cc)) := hT2.drew.trans (turn_cell w2.drew ⟨loc (keyL e), 0, none⟩ _ S hmine) fun i hi => .inl hi
          have hR3 : RangeM (w2.drew.setCell ⟨loc (keyL e), 0, none⟩ (.slice A2 f.lasts cc)) r0 m c es (ls ++ [e]) rest' := hR1.keep (Below.heap_setCell w2.drew ⟨loc (keyL e), 0, none⟩ _ r0 (by simp only; omega))
          have R : Hid (∃ ls rest row', RangeM (w2.drew.setCell ⟨loc (keyL e), 0, none⟩ (.slice A2 f.lasts cc)) r0 m c es ls rest ∧ DiskIn (w2.drew.setCell ⟨loc (keyL e), 0, none⟩ (.slice A2 f.lasts cc)) d m es c left loc row' S ⟨cutL (ls.map keyL) (raiseL D.files n.toNat), D.room, D.fuse, D.dead⟩ ∧ Turn S wy (w2.drew.setCell ⟨loc (keyL e), 0, none⟩ (.slice A2 f.lasts cc))) := hideIt
            ⟨ls ++ [e], rest', row2, hR3, by rw [List.map_append]; exact hJ, hT3⟩
          have M : Hid (es.size - ((w2.drew.setCell ⟨loc (keyL e), 0, none⟩ (.slice A2 f.lasts cc)).iterSeen r0).size < es.size - (wr.iterSeen r0).size) := hideIt (by
            have e1 : ((w2.drew.setCell ⟨loc (keyL e), 0, none⟩ (.slice A2 f.lasts cc)).iterSeen r0).size = ls.length + 1 := by unfold World.iterSeen; rw [hR3.it]; simp
            have e2 : (wr.iterSeen r0).size = ls.length := by unfold World.iterSeen; rw [hR.it]; simp
            have e3 := hR3.perm.length_eq
            simp at e3
            rw [e1, e2]; omega)
          clear hn hlow hD2 hns hf0 hfl hfile hfb hv hpc hcap hJ hput hmine hll hT2 hT3 hR3 hR hD hT hp hR1 o1 o2 o3 o4 hoth hem ek ev ef
          go_wp2
          go_region
          go_wp2
          go_roundw
          case rel => exact R.out
          case measure => exact M.out
end Go.Proofs.Ythpbhfepiekchaa
