/-
  Several texts in one: LexCode1,LexCode2,LexCode3,LexCode4,LexCode. Each one's own head tells its conditions.
-/
import Derived.Test.YtkcgbhlnkfogeaaDoorQLexRefs
import Derived.Test.YtkcgbhlnkfogeaaDoorMemAll
import Derived.Lib.Bytealg
import Derived.Lib.IndexAny
import Derived.Lib.IndexLaws
import Derived.Laws.Runes
import Derived.Laws.RangeAny
import Derived.Lib.OthersKept
import Derived.Lib.Walk
import Derived.Deep.QuietTactic
import Derived.BigQuiet
import Derived.WalkMore
import Derived.IntWalk
import Derived.Lib.ConvBytes
namespace Go.Proofs.YtkcgbhlnkfogeaaDoor
open Go.RowKit
namespace LW
open LX
theorem iter_far (w:World) (s:ByteArray) (p:Nat):MM.Far [] w (w.iter s p):=(MM.Far.refl [] w).alloc _
end LW
end Go.Proofs.YtkcgbhlnkfogeaaDoor
namespace Go.Proofs.YtkcgbhlnkfogeaaDoor
open Go.RowKit
namespace LW
open LX
structure It (w:World) (s:ByteArray) (pos:Nat) (wr:World):Prop where
  far:MM.Far [] w wr
  it:wr.heap[w.heap.size]? = some (.stringIter s pos)
theorem It.begin (w:World) (s:ByteArray):It w s 0 (w.iter s 0):=⟨iter_far _ _ _,World.iter_heap w s 0⟩
theorem It.next {w wr:World} {s:ByteArray} {pos:Nat} (h:It w s pos wr) (p:Nat):It w s p (wr.iterAt w.heap.size s p):=by
  refine ⟨?_,Lib.iterAt_heap wr _ s pos p h.it⟩
  refine h.far.trans (S':=[w.heap.size]) ⟨rfl,rfl,rfl,by rw [Lib.iterAt_size];exact Nat.le_refl _,fun k _ hn=>Lib.iterAt_other wr _ k s p (by simpa using hn)⟩ ?_
  intro b hb hlt;simp at hb;omega
theorem It.to {w wr w2:World} {s:ByteArray} {pos:Nat} (h:It w s pos wr) (f:MM.Far [] wr w2):It w s pos w2:=by
  refine ⟨h.far.trans f (by simp),?_⟩
  rw [f.block _ (Array.getElem?_eq_some_iff.1 h.it).1 (by simp)];exact h.it
theorem It.pos {w wr:World} {s:ByteArray} {pos:Nat} (h:It w s pos wr):wr.iterPos w.heap.size=pos:=by
  unfold World.iterPos;rw [h.it]
def GI (s:ByteArray) (w:World) (G:Nat) (cm:Bool) (pos:Nat) (wr:World):Prop:=It w s pos wr∧pos+gapF cm ((bts s).drop pos)=G
theorem GI.go {s:ByteArray} {w wr w2:World} {G pos p:Nat} {cm cm2:Bool} (h:GI s w G cm pos wr) (h2:It w s p w2) (e:gapF cm ((bts s).drop pos)=p - pos+gapF cm2 ((bts s).drop p)) (hp:pos≤p):GI s w G cm2 p w2:=⟨h2,by have:=h.2;omega⟩
end LW
end Go.Proofs.YtkcgbhlnkfogeaaDoor
namespace Go.Proofs.YtkcgbhlnkfogeaaDoor
open Go.RowKit
namespace LW
open LX
theorem far_bytes (w:World) (e:TypeId) (s:ByteArray):MM.Far [] w (Lib.bytesWorld w e s):=⟨rfl,rfl,rfl,by rw [Lib.bytesWorld_size];omega,fun k hk _=>Lib.bytesWorld_at_old w e s k hk⟩
structure By (w w1:World) (x:ByteArray):Prop where
  far:MM.Far [] w w1
  cell:∀ j (h:j < x.size),w1.cell? ⟨w.heap.size,j,none⟩=some (.int .u8 ((x[j]'h).toNat:Int))
theorem By.of (w:World) (e:TypeId) (x:ByteArray):By w (Lib.bytesWorld w e x) x:=by
  refine ⟨far_bytes w e x,fun j h=>?_⟩
  rw [Lib.bytesWorld_cell w e x j h];have h1:=data_at x j h;unfold bts at h1;rw [List.getD_eq_getElem?_getD,h1];rfl
structure Cel (w:World) (b:Nat) (t:Tk):Prop where
  c0:w.cell? ⟨b,0,none⟩=some (.int .u8 t.kind)
  c1:w.cell? ⟨b,1,none⟩=some (.int .i64 t.at_)
  c2:w.cell? ⟨b,2,none⟩=some (.int .i64 t.n)
  c3:w.cell? ⟨b,3,none⟩=some (.string t.s)
  f0:w.frozen? ⟨b,0,none⟩=false
  f1:w.frozen? ⟨b,1,none⟩=false
  f2:w.frozen? ⟨b,2,none⟩=false
  f3:w.frozen? ⟨b,3,none⟩=false
theorem Cel.of {w:World} {b:Nat} {T:TypeId} {t:Tk} (h:MM.Row w b T (cellsT t)):Cel w b t :=
  ⟨h.at rfl,h.at rfl,h.at rfl,h.at rfl,h.frozen 0,h.frozen 1,h.frozen 2,h.frozen 3⟩
theorem Cel.new (w:World) (T:TypeId) (w2:World) (F:MM.Far [] (w.alloc (.cells #[.int .u8 0,.int .i64 0,.int .i64 0,.string ⟨#[]⟩] T)) w2):Cel w2 w.heap.size ⟨0,0,0,emp⟩ :=
  Cel.of ((MM.Row.new w T (cellsT ⟨0,0,0,emp⟩)).far F (by simp))
theorem Row.cel {w:World} {b:Nat} {T:TypeId} {x0 x1 x2 x3:Value} {w':World} {kd a n:Int} {s:ByteArray} (h:MM.Row w b T [x0,x1,x2,x3]) (e:w'=(((w.setCell ⟨b,0,none⟩ (.int .u8 kd)).setCell ⟨b,1,none⟩ (.int .i64 a)).setCell ⟨b,2,none⟩ (.int .i64 n)).setCell ⟨b,3,none⟩ (.string s)):MM.Row w' b T (cellsT ⟨kd,a,n,s⟩):=by
  subst e;exact (((h.put 0 _).put 1 _).put 2 _).put 3 _
theorem Cel.set {w w2:World} {T:TypeId} {t:Tk} (R:MM.Row w2 w.heap.size T (cellsT t)) (F:MM.Far [] w w2) (kd a n:Int) (s:ByteArray) :
    Cel ((((w2.setCell ⟨w.heap.size,0,none⟩ (.int .u8 kd)).setCell ⟨w.heap.size,1,none⟩ (.int .i64 a)).setCell ⟨w.heap.size,2,none⟩ (.int .i64 n)).setCell ⟨w.heap.size,3,none⟩ (.string s)) w.heap.size ⟨kd,a,n,s⟩ ∧
    MM.Far [] w ((((w2.setCell ⟨w.heap.size,0,none⟩ (.int .u8 kd)).setCell ⟨w.heap.size,1,none⟩ (.int .i64 a)).setCell ⟨w.heap.size,2,none⟩ (.int .i64 n)).setCell ⟨w.heap.size,3,none⟩ (.string s)):=by
  refine ⟨Cel.of (Row.cel R rfl),?_⟩
  exact (((F.setCell (fun h=>absurd h (Nat.lt_irrefl _)) _).setCell (fun h=>absurd h (Nat.lt_irrefl _)) _).setCell (fun h=>absurd h (Nat.lt_irrefl _)) _).setCell (fun h=>absurd h (Nat.lt_irrefl _)) _
end LW
end Go.Proofs.YtkcgbhlnkfogeaaDoor
namespace Go.Proofs.YtkcgbhlnkfogeaaDoor
open Go.RowKit
namespace LW
open LX
theorem mark_yes {c:UInt8} (h:LX.mark c≠0):c=40∨c=41∨c=39:=by
  unfold LX.mark at h;by_cases h1:c=40
  · exact .inl h1
  · by_cases h2:c=41
    · exact .inr (.inl h2)
    · by_cases h3:c=39
      · exact .inr (.inr h3)
      · rw [if_neg h1,if_neg h2,if_neg h3] at h;exact absurd rfl h
end LW
end Go.Proofs.YtkcgbhlnkfogeaaDoor
namespace Go.Proofs.YtkcgbhlnkfogeaaDoor
open Go.RowKit
namespace LW
open LX
theorem step_pos {c:UInt8} {r:List UInt8} {kd n:Int} {sv:ByteArray} {k:Nat} (h:LX.step (c::r) = .tok kd n sv k):0 < k:=by
  rcases step_adv c r with ⟨e,he⟩ | ⟨h1,_⟩
  · rw [h] at he;cases he
  · rw [h] at h1;exact h1
end LW
end Go.Proofs.YtkcgbhlnkfogeaaDoor
