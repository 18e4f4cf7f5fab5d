/-
  P6.1, P6.2: each datum begins in the text where it says. No condition.
-/
import Derived.Test.YtbglcdjimipeeaaGreatDoorReadMays
import Derived.IntWalk
namespace Go.Proofs.YtbglcdjimipeeaaGreatDoor
open Go.RowKit
namespace RX
open LX
/-- Where a datum stands in s. -/
structure AtN (s : ByteArray) (x : Nd) : Prop where
  lt : x.at_.toNat < s.size
  int : x.kind = 1 → s[x.at_.toNat] = 45 ∨ dig s[x.at_.toNat] = true
  bool : x.kind = 2 → s[x.at_.toNat] = 35
  name : x.kind = 3 → (s[x.at_.toNat] = 39 ∧ x.s = quoteB) ∨ (x.at_.toNat + x.s.size ≤ s.size ∧ s.extract x.at_.toNat (x.at_.toNat + x.s.size) = x.s)
  list : x.kind = 4 → s[x.at_.toNat] = 40 ∨ s[x.at_.toNat] = 39
def AtP (s : ByteArray) (p : Pt) : Prop := ∃ h : p.at_.toNat < s.size, s[p.at_.toNat] = 40 ∨ s[p.at_.toNat] = 39
theorem byte_of {s : ByteArray} {p : Nat} {c : UInt8} {l : List UInt8} (hp : p < s.size) (h : s.extract p (p + (c :: l).length) = str (c :: l)) : s[p] = c := by
  rw [LW.cut_str, LW.drop_cons s p hp] at h
  have h2 := congrArg bts h
  rw [bts_str, bts_str, List.length_cons, List.take_succ_cons] at h2
  injection h2
theorem at_brings {s : ByteArray} {ts : List Tk} (h : lex s = .ok ts) : ∀ t ∈ ts, Brings (AtN s) (AtP s) t := by
  have hlt : ∀ t, InT s t → t.at_.toNat < s.size := fun t hi => by have := hi.lt; have := hi.pos; omega
  have hby : ∀ t, InT s t → ∀ c l, tkB t = str (c :: l) → t.kind ≠ 4 → ∀ hh : t.at_.toNat < s.size, s[t.at_.toNat] = c := fun t hi c l e hk hh => by
    have := (hi.fits hk).2
    rw [e, str_size] at this
    exact byte_of hh this
  refine brings _ _ h ?_ ?_ ?_ ?_ ?_
  · intro t hi hk ⟨hh, hb⟩
    exact ⟨hh, fun _ => hb, fun e => by simp at e, fun e => by simp at e, fun e => by simp at e⟩
  · intro t hi hk
    have hh := hlt t hi
    refine ⟨hh, fun e => by simp at e, fun _ => ?_, fun e => by simp at e, fun e => by simp at e⟩
    by_cases h1 : t.n = 1
    · exact hby t hi 35 [116] (by unfold tkB; simp [hk, h1]; rfl) (by omega) hh
    · exact hby t hi 35 [102] (by unfold tkB; simp [hk, h1]; rfl) (by omega) hh
  · intro t hi hk
    have hh := hlt t hi
    refine ⟨hh, fun e => by simp at e, fun e => by simp at e, fun _ => .inr ?_, fun e => by simp at e⟩
    have ht : tkB t = t.s := by unfold tkB; simp [hk]
    obtain ⟨g1, g2⟩ := hi.fits (by omega)
    rw [ht] at g1 g2
    have := hi.pos
    exact ⟨by simp only; omega, g2⟩
  · intro t hi hk b l
    have hh := hlt t hi
    exact ⟨hh, .inl (hby t hi 40 [] (by unfold tkB; simp [hk]; rfl) (by omega) hh)⟩
  · intro t hi hk
    have hh := hlt t hi
    have h39 := hby t hi 39 [] (by unfold tkB; simp [hk]; rfl) (by omega) hh
    exact ⟨fun b l => ⟨hh, .inr h39⟩, ⟨hh, fun e => by simp at e, fun e => by simp at e, fun _ => .inl ⟨h39, rfl⟩, fun e => by simp at e⟩⟩
theorem read_at {s : ByteArray} {r : Rd} (h : read s = .ok r) : ∀ x ∈ r.row, GoodN x ∧ AtN s x :=
  (read_inv (P := AtN s) (Q := AtP s) (fun _ _ _ _ h => h) (fun p ⟨h1, h2⟩ l => ⟨h1, fun e => by simp at e, fun e => by simp at e, fun e => by simp at e, fun _ => h2⟩) h (fun _ hl => at_brings hl)).1.good
end RX
namespace RW6
open LX RX LW
theorem slice_both (s z : ByteArray) (a b : Int) (m n : Nat) (h : s.extract m n = z) (ha : a = (m : Int)) (hb : b = (n : Int)) (h1 : m ≤ n) (h2 : n ≤ s.size) (W : World) : (Instr.slice 9 (.string s) (some (.int .i64 a)) (some (.int .i64 b)) none).run Tryz.prog W = .ok (.string z) W := by
  subst h ha hb
  simp [Instr.slice, Instr.sliceBounds, Instr.sliceBound, asIntOf, run_underlying Tryz.underlying9, h1, h2]
theorem sq_yes {a : ByteArray} {l : List UInt8} (h : a = str l) : (a.toList == l) = true := by rw [h, LW.list_eq, bts_str]; simp
theorem sq_no {a : ByteArray} {l : List UInt8} (h : a ≠ str l) : (a.toList == l) = false := by
  rw [beq_eq_false_iff_ne, LW.list_eq]
  intro e
  exact h (by rw [← e, str_bts])
end RW6
end Go.Proofs.YtbglcdjimipeeaaGreatDoor
