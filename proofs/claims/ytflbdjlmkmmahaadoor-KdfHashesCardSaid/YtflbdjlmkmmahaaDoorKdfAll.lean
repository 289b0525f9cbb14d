/- Hash, Round and Right, the program's and the reference's, whatever the rounds. -/
import Derived.Test.YtflbdjlmkmmahaaDoorRefRight
namespace Go.Proofs.YtflbdjlmkmmahaaDoor
open Go.ChangeShapes Go.WideShapes Go.ChangeAt Go.RowKit
set_option linter.unusedVariables false

theorem piece_none (w : World) : (Fact.piece []).p (.slice none 0 0) w := ⟨none, 0, rfl, piece_nil w⟩
theorem Coded.piece {w w' : World} {l : List UInt8} {e : Ending} (h : Coded w l e w') : ∃ v, e = .returned v ∧ (Fact.piece l).p v w' ∧ Grew w w' := by
  obtain ⟨v, h1, h2, h3⟩ := h
  exact ⟨v, h1, Fact.own_piece (by omega) h2, h3⟩
theorem rounds_cases (r : Int) : (∃ k : Nat, r = (k : Int) ∧ 1 ≤ k ∧ k ≤ 1000) ∨ (r < 1 ∨ 1000 < r) := by
  by_cases h : 1 ≤ r ∧ r ≤ 1000
  · exact .inl ⟨r.toNat, by omega, by omega, by omega⟩
  · exact .inr (by omega)
theorem rightB_in (pass salt : List UInt8) (k : Nat) (h : List UInt8) (hk1 : 1 ≤ k) (hk2 : k ≤ 1000) : decide (hashL pass salt k = h) = rightB pass salt (k : Int) h := by
  unfold rightB
  rw [hashR_in pass salt k hk1 hk2]
  congr 1
  exact propext ⟨fun e => ⟨by omega, by omega, e⟩, fun e => e.2.2⟩
theorem rightB_out (pass salt : List UInt8) (r : Int) (h : List UInt8) (hr : r < 1 ∨ 1000 < r) : rightB pass salt r h = false := by
  unfold rightB
  exact decide_eq_false (by omega)
theorem hashR_any (K : Option Addr) (pass : List UInt8) (kn kc : Nat) (A : Option Addr) (salt : List UInt8) (n c : Nat) (r : Int) (w : World) (hT : Tabs w) (hk : PieceOk w ⟨K, kc, pass⟩) (hkn : pass.length = kn) (hp : PieceOk w ⟨A, c, salt⟩) (hn : salt.length = n) (h1000 : n ≤ 1000) :
    Calls Tryd.prog 10 #[.slice K kn kc, .slice A n c, .int .i64 r] w fun e w' => ∃ v, e = .returned v ∧ (Fact.piece (hashR pass salt r)).p v w' ∧ Grew w w' := by
  rcases rounds_cases r with ⟨k, rfl, hk1, hk2⟩ | h
  · rw [hashR_in pass salt k hk1 hk2]
    exact (hash_in K pass kn kc A salt n c k w hT hk hkn hp hn h1000 hk1 hk2).mono fun e w' h => h.piece
  · rw [hashR_out pass salt r h]
    exact (hash_out K kn kc A n c r w h).mono fun e w' ⟨h1, h2⟩ => ⟨_, h1, piece_none _, h2 ▸ Grew.refl _⟩
theorem refhashR_any (K : Option Addr) (pass : List UInt8) (kn kc : Nat) (A : Option Addr) (salt : List UInt8) (n c : Nat) (r : Int) (w : World) (hk : PieceOk w ⟨K, kc, pass⟩) (hkn : pass.length = kn) (hk4 : kn ≤ 400) (hp : PieceOk w ⟨A, c, salt⟩) (hn : salt.length = n) (h1000 : n ≤ 290) :
    Calls Tryd.prog 9 #[.slice K kn kc, .slice A n c, .int .i64 r] w fun e w' => ∃ v, e = .returned v ∧ (Fact.piece (hashR pass salt r)).p v w' ∧ Grew w w' := by
  rcases rounds_cases r with ⟨k, rfl, hk1, hk2⟩ | h
  · rw [hashR_in pass salt k hk1 hk2]
    exact (refhash_in K pass kn kc A salt n c k w hk hkn hk4 hp hn h1000 hk1 hk2).mono fun e w' h => h.piece
  · rw [hashR_out pass salt r h]
    exact (refhash_out K kn kc A n c r w h).mono fun e w' ⟨h1, h2⟩ => ⟨_, h1, piece_none _, h2 ▸ Grew.refl _⟩
theorem rightR_any (K : Option Addr) (pass : List UInt8) (kn kc : Nat) (A : Option Addr) (salt : List UInt8) (n c : Nat) (r : Int) (H : Option Addr) (h : List UInt8) (hn' hc : Nat) (w : World) (hT : Tabs w) (hk : PieceOk w ⟨K, kc, pass⟩) (hkn : pass.length = kn) (hp : PieceOk w ⟨A, c, salt⟩) (hn : salt.length = n) (hh : PieceOk w ⟨H, hc, h⟩) (hhn : h.length = hn') (h1000 : n ≤ 1000) :
    Calls Tryd.prog 13 #[.slice K kn kc, .slice A n c, .int .i64 r, .slice H hn' hc] w fun e w' => e = .returned (.bool (rightB pass salt r h)) ∧ Grew w w' := by
  rcases rounds_cases r with ⟨k, rfl, hk1, hk2⟩ | h0
  · rw [← rightB_in pass salt k h hk1 hk2]
    exact right_in K pass kn kc A salt n c k H h hn' hc w hT hk hkn hp hn hh hhn h1000 hk1 hk2
  · rw [rightB_out pass salt r h h0]
    exact (right_out K kn kc A n c r _ w h0).mono fun e w' ⟨h1, h2⟩ => ⟨h1, h2 ▸ Grew.refl _⟩
theorem refrightR_any (K : Option Addr) (pass : List UInt8) (kn kc : Nat) (A : Option Addr) (salt : List UInt8) (n c : Nat) (r : Int) (H : Option Addr) (h : List UInt8) (hn' hc : Nat) (w : World) (hk : PieceOk w ⟨K, kc, pass⟩) (hkn : pass.length = kn) (hk4 : kn ≤ 400) (hp : PieceOk w ⟨A, c, salt⟩) (hn : salt.length = n) (hh : PieceOk w ⟨H, hc, h⟩) (hhn : h.length = hn') (h1000 : n ≤ 290) :
    Calls Tryd.prog 14 #[.slice K kn kc, .slice A n c, .int .i64 r, .slice H hn' hc] w fun e w' => e = .returned (.bool (rightB pass salt r h)) ∧ Grew w w' := by
  rcases rounds_cases r with ⟨k, rfl, hk1, hk2⟩ | h0
  · rw [← rightB_in pass salt k h hk1 hk2]
    exact refright_in K pass kn kc A salt n c k H h hn' hc w hk hkn hk4 hp hn hh hhn h1000 hk1 hk2
  · rw [rightB_out pass salt r h h0]
    exact (refright_out K kn kc A n c r _ w h0).mono fun e w' ⟨h1, h2⟩ => ⟨h1, h2 ▸ Grew.refl _⟩
theorem refround_piece (K : Option Addr) (key : List UInt8) (kn kc : Nat) (A : Option Addr) (msg : List UInt8) (n c : Nat) (w : World) (hk : PieceOk w ⟨K, kc, key⟩) (hkn : key.length = kn) (hk4 : kn ≤ 400) (hp : PieceOk w ⟨A, c, msg⟩) (hn : msg.length = n) (hn3 : n ≤ 300) :
    Calls Tryd.prog 12 #[.slice K kn kc, .slice A n c] w fun e w' => ∃ v, e = .returned v ∧ (Fact.piece (codeL key msg)).p v w' ∧ Grew w w' :=
  (refround_any K key kn kc A msg n c w hk hkn hk4 hp hn hn3).mono fun e w' ⟨v, h1, h2, h3⟩ => by
    obtain ⟨A2, c2, rfl, hl2, hp2⟩ := own_pieceAny h2 (by omega)
    exact ⟨_, h1, ⟨A2, c2, by rw [hl2], hp2⟩, h3⟩
end Go.Proofs.YtflbdjlmkmmahaaDoor
