/-
  P6.2's law of quotes. Condition: the argument's reading.
-/
import Derived.Test.YtbglcdjimipeeaaGreatDoorReadQuoteF
import Derived.Test.YtbglcdjimipeeaaGreatDoorReadMays
import Derived.Deep.RegionHeld3
import Derived.IntWalk
namespace Go.Proofs.YtbglcdjimipeeaaGreatDoor
open Go.RowKit
namespace RX
open LX
theorem qA_cut (f : Nat → Nat → ByteArray) (ns : List Nat) (k : Nat) (h : k < ns.length) : qA f ⟨#[]⟩ (ns.take (k + 1)) = qA f ⟨#[]⟩ (ns.take k) ++ f (ns[k] % 4) (ns[k] / 4 % 4) ++ ⟨#[32]⟩ := by
  rw [List.take_succ_eq_append_getElem h, qA_snoc]
theorem and3 (n : Nat) : bits .and .u8 (n : Int) 3 = ((n % 4 : Nat) : Int) := by
  have h3 : (BitVec.ofInt 8 3).toNat = 2 ^ 2 - 1 := by decide
  have key : (BitVec.ofInt 8 n &&& BitVec.ofInt 8 3).toNat = ((n : Int) % ((2 ^ 8 : Nat) : Int)).toNat % 2 ^ 2 := by
    rw [BitVec.toNat_and, BitVec.toNat_ofInt, h3, Nat.and_two_pow_sub_one_eq_mod]
  show IntKind.u8.wrap ((BitVec.ofInt 8 n &&& BitVec.ofInt 8 3).toNat : Nat) = _
  rw [key]
  simp only [IntKind.wrap, IntKind.signed, IntKind.bits]
  simp
  omega
end RX
namespace RW6
open LX RX
theorem one_nd {w : World} {b : Nat} {kd n : Int} {s : ByteArray} {A : Option Addr} {m c : Nat} {l : List Nat} (hl : l.length = m) (hr : MM.Row w b 57 [.int .u8 kd, .int .i64 0, .int .i64 n, .string s, .slice A m c]) (hi : IntRow w A l) : NdRow w (some ⟨b, 0, none⟩) [⟨kd, 0, n, s, l⟩] := by
  intro k hk
  obtain rfl : k = 0 := by simpa using hk
  subst hl
  exact ⟨b, 0, A, c, rfl, hr.lt, hr.at (i := 0) rfl, hr.at (i := 1) rfl, hr.at (i := 2) rfl, hr.at (i := 3) rfl, hr.at (i := 4) rfl, hi⟩
/-- Two rows of one datum each, new ones. -/
theorem one_same (wr : World) (kd n : Int) (s : ByteArray) (A1 A2 : Option Addr) (m c1 c2 : Nat) (l : List Nat) (hl : l.length = m) (hm : m ≤ 8000) (h1 : IntRow wr A1 l) (h2 : IntRow wr A2 l) (o1 o2 : Obj) :
    Calls Tryz.prog 24 #[.slice (some ⟨wr.heap.size + 1 + 1, 0, none⟩) 1 1, .slice (some ⟨wr.heap.size + 1 + 1 + 1, 0, none⟩) 1 1] ((((wr.alloc o1).alloc o2).alloc (.cells #[.int .u8 kd, .int .i64 0, .int .i64 n, .string s, .slice A1 m c1] 57)).alloc (.cells #[.int .u8 kd, .int .i64 0, .int .i64 n, .string s, .slice A2 m c2] 57)).drew fun e w' => e = .returned (.bool true) ∧ MM.Far [] wr w' := by
  have hF : MM.Far [] wr ((((wr.alloc o1).alloc o2).alloc (.cells #[.int .u8 kd, .int .i64 0, .int .i64 n, .string s, .slice A1 m c1] 57)).alloc (.cells #[.int .u8 kd, .int .i64 0, .int .i64 n, .string s, .slice A2 m c2] 57)).drew := ((((MM.Far.refl [] wr).alloc _).alloc _).alloc _ |>.alloc _).drew
  have r1 := ((MM.Row.new ((wr.alloc o1).alloc o2) 57 [.int .u8 kd, .int .i64 0, .int .i64 n, .string s, .slice A1 m c1]).alloc (.cells #[.int .u8 kd, .int .i64 0, .int .i64 n, .string s, .slice A2 m c2] 57)).drew
  have r2 := (MM.Row.new (((wr.alloc o1).alloc o2).alloc (.cells #[.int .u8 kd, .int .i64 0, .int .i64 n, .string s, .slice A1 m c1] 57)) 57 [.int .u8 kd, .int .i64 0, .int .i64 n, .string s, .slice A2 m c2]).drew
  simp only [World.size_alloc] at r1 r2
  exact (same_call (ns := [⟨kd, 0, n, s, l⟩]) (n := 1) rfl (by omega) (by simp; omega) (one_nd hl r1 (h1.far hF)) (one_nd hl r2 (h2.far hF))).mono fun _ _ ⟨e, f⟩ => ⟨e, hF.trans f (by simp)⟩
end RW6
end Go.Proofs.YtbglcdjimipeeaaGreatDoor
