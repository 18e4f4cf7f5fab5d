/-
  Several texts in one: ExpMem,ExpC1,ExpEnv,ExpC2,ExpC3,ExpPost,ExpRow. Each one's own head tells its conditions.
-/
import Derived.Test.YtehgmmbdlnginaaGreatDoorQExpPure
import Derived.Test.YtehgmmbdlnginaaGreatDoorQCodePlain
import Derived.Test.YtehgmmbdlnginaaGreatDoorQReadMems
import Derived.MapKept
import Derived.Laws.EntriesVeiled
import Derived.Deep.RegionLaw
import Derived.Deep.RegionHeld3
import Derived.BigQuiet
import Derived.Deep.QuietTactic
import Derived.Deep.DeepCutAuto
namespace Go.Proofs.YtehgmmbdlnginaaGreatDoor
open Go.RowKit
namespace EW
open LX SX RW6 EX
open RX (Nd)
def Ty (w:World) (A:Option Addr) (vs:List Value):Prop:=∀ g o sp cs fz,A=some ⟨g,o,sp⟩→w.heap[g]? = some (.cells cs 3 fz)→∀ u∈vs,∃ i,u = .int .i64 i
def Sl (w:World) (Z:List Nat) (v:Value) (vs:List Value):Prop :=
  ∃ A c,v = .slice A vs.length c∧vs.length≤c∧(c≤maxLen∧Ty w A vs)∧∀ k u,vs[k]? = some u→∃ g o,A=some ⟨g,o,none⟩∧g∉Z∧g < w.heap.size∧w.cell? ⟨g,o+k,none⟩=some u
section
variable {w w':World} {Z Z' S:List Nat} {v:Value} {vs:List Value}
theorem Sl.far (h:Sl w Z v vs) (f:MM.Far S w w') (hS:∀ b∈S,b < w.heap.size→b∈Z):Sl w' Z v vs:=by
  obtain ⟨A,c,e,h1,⟨h2,hty⟩,h3⟩:=h;refine ⟨A,c,e,h1,⟨h2,fun g o sp cs fz eA hh u hu=>?_⟩,fun k u hu=>?_⟩
  · obtain ⟨k,hk⟩:=List.getElem?_of_mem hu;obtain ⟨g',o',e2,hz,hl,_⟩:=h3 k u hk;have e3:=e2.symm.trans eA;injection e3 with e3;injection e3 with e4;subst e4;exact hty g' o sp cs fz eA ((f.block g' hl (fun hm=>hz (hS _ hm hl))).symm.trans hh) u hu
  · obtain ⟨g,o,e2,hz,hl,hc⟩:=h3 k u hu;exact ⟨g,o,e2,hz,Nat.lt_of_lt_of_le hl f.size,(f.cell (p:=⟨g,o+k,none⟩) hl (fun hm=>hz (hS _ hm hl))).trans hc⟩
theorem Sl.more (h:Sl w Z v vs) (hZ:∀ b∈Z',b∈Z∨w.heap.size≤b):Sl w Z' v vs:=by
  obtain ⟨A,c,e,h1,h2,h3⟩:=h;refine ⟨A,c,e,h1,h2,fun k u hu=>?_⟩
  obtain ⟨g,o,e2,hz,hl,hc⟩:=h3 k u hu;refine ⟨g,o,e2,fun hm=>?_,hl,hc⟩
  rcases hZ g hm with h | h
  · exact hz h
  · omega
theorem Sl.nil (w:World) (Z:List Nat):Sl w Z (.slice none 0 0) []:=⟨none,0,rfl,Nat.le_refl _,⟨Nat.zero_le _,fun _ _ _ _ _ _ _ u hu=>by cases hu⟩,fun k u h=>by simp at h⟩
theorem Sl.row {b:Nat} {t:TypeId} {l:List Value} (h:MM.Row w b t l) (hb:b∉Z) (hm:l.length≤maxLen) (hi:3≠t∨∀ u∈l,∃ i,u = .int .i64 i:=by first | exact .inl (by decide) | exact .inr (fun u hu=>by simp only [ints,List.mem_map] at hu;obtain ⟨x,_,rfl⟩:=hu;exact ⟨_,rfl⟩)):Sl w Z (.slice (some ⟨b,0,none⟩) l.length l.length) l :=
  ⟨_,_,rfl,Nat.le_refl _,⟨hm,fun g o sp cs fz e hh=>by
    injection e with e;injection e with e1;subst e1;have h':w.heap[b]? = some (.cells l.toArray t (0,0)):=h;rw [h'] at hh;injection hh with hh;injection hh with _ hh
    rcases hi with hi | hi
    · exact absurd hh.symm hi
    · exact hi⟩,fun k u hu=>⟨b,0,rfl,hb,h.lt,by rw [Nat.zero_add];exact h.at hu⟩⟩
theorem Sl.own {base:Nat} {e:TypeId} {n:Nat} (h:w.ownsRow base e 1 v n vs) (hZ:∀ b,v.ownBlock=some b→b∉Z) (hi:3≠e∨∀ u∈vs,∃ i,u = .int .i64 i:=by first | exact .inl (by decide) | exact .inr (fun u hu=>by simp only [ints,List.mem_map] at hu;obtain ⟨x,_,rfl⟩:=hu;exact ⟨_,rfl⟩)):Sl w Z v vs:=by
  obtain ⟨A,c,ev,k0,k1,k2,k3,hh⟩:=MO.form h;have hn:vs.length=n:=by rw [h.1];omega
  refine ⟨A,c,by rw [hn];exact ev,by omega,⟨k2,fun g o sp cs fz eA hg=>?_⟩,fun k u hu=>?_⟩
  · rcases hi with hi | hi
    · rcases h.2 with ⟨rfl,_⟩ | ⟨g',cap,cur,rfl,_,hg',_⟩
      · injection ev with ev _ _;subst ev;cases eA
      · injection ev with ev _ _;rw [← ev] at eA;injection eA with eA;injection eA with eA;subst eA;rw [hg'] at hg;injection hg with hg;injection hg with _ hg;exact absurd hg.symm hi
    · exact hi
  rcases hh with ⟨_,hz,_⟩ | ⟨g,rfl,_,hlt⟩
  · have:=(List.getElem?_eq_some_iff.1 hu).1;omega
  · obtain ⟨ad,e2,hb,hl,hc⟩:=k3 Z hZ (by have:=(List.getElem?_eq_some_iff.1 hu).1;omega);injection e2 with e2;subst e2;refine ⟨g,0,rfl,hb,hl,?_⟩
    have:=hc k u hu;rw [MM.head_add] at this;rw [Nat.zero_add];exact this
theorem Sl.cons {u:Value} (h:Sl w Z v (u::vs)):∃ g o c,v = .slice (some ⟨g,o,none⟩) (vs.length+1) c∧w.cell? ⟨g,o,none⟩=some u∧vs.length+1≤c∧c≤maxLen∧g < w.heap.size∧g∉Z ∧
    Sl w Z (.slice (if c=1 then some ⟨g,o,none⟩ else some ⟨g,o+1,none⟩) vs.length (c - 1)) vs:=by
  obtain ⟨A,c,e,h1,⟨h2,hty⟩,h3⟩:=h;rw [List.length_cons] at e h1;obtain ⟨g,o,rfl,hz,hl,hc⟩:=h3 0 u rfl;refine ⟨g,o,c,e,hc,h1,h2,hl,hz,_,_,rfl,by omega,⟨by omega,fun g' o' sp cs fz eA hg x hx=>?_⟩,fun k x hx=>?_⟩
  · have:g'=g:=by
      split at eA
      · injection eA with eA;injection eA with eA;exact eA.symm
      · injection eA with eA;injection eA with eA;exact eA.symm
    subst this;exact hty _ o none cs fz rfl hg x (List.mem_cons_of_mem _ hx)
  obtain ⟨g',o',e',_,_,hc'⟩:=h3 (k+1) x hx;injection e' with e';injection e' with e1 e2;subst e1;subst e2;have hk:=(List.getElem?_eq_some_iff.1 hx).1;refine ⟨g,o+1,by rw [if_neg (by omega)],hz,hl,?_⟩
  rw [show o+1+k=o+(k+1) by omega];exact hc'
theorem Sl.len {n:Nat} {A:Option Addr} {c:Nat} (h:Sl w Z (.slice A n c) vs):n=vs.length:=by
  obtain ⟨A',c',e,_⟩:=h;injection e
theorem Sl.form (h:Sl w Z v vs):∃ A c,v = .slice A vs.length c∧vs.length≤c∧c≤maxLen:=by
  obtain ⟨A,c,e,h1,h2,_⟩:=h;exact ⟨A,c,e,h1,h2.1⟩
end
theorem slice_ints (g o m c:Nat) (W:World):(Instr.slice 24 (.slice (some ⟨g,o,none⟩) (m+1) c) (some (.int .i64 1)) none none).run Tryz.prog W = .ok (.slice (if c=1 then some ⟨g,o,none⟩ else some ⟨g,o+1,none⟩) m (c - 1)) W:=by
  have hs:(sizeOf (Tryz.prog.elem 24)).run Tryz.prog W = .ok 1 W:=by kernel_rfl
  rw [run_slice_l (P:=Tryz.prog) W 24 (some ⟨g,o,none⟩) (m+1) c (by kernel_rfl) .i64 1 (by omega) (by omega),hs];simp [Result.andThen,sliced,Addr.add]
structure Bx (w:World) (Z:List Nat) (b:Nat) (t:TypeId) (v:Value):Prop where
  row:MM.Row w b t [v]
  out:b∉Z
section
variable {w w':World} {Z Z' S:List Nat} {b:Nat} {t:TypeId} {v:Value}
theorem Bx.far (h:Bx w Z b t v) (f:MM.Far S w w') (hS:∀ b∈S,b < w.heap.size→b∈Z):Bx w' Z b t v:=⟨h.row.far f (fun hm=>h.out (hS _ hm h.row.lt)),h.out⟩
theorem Bx.more (h:Bx w Z b t v) (hZ:∀ b∈Z',b∈Z∨w.heap.size≤b):Bx w Z' b t v:=⟨h.row,fun hm=>by
  rcases hZ b hm with h2 | h2
  · exact h.out h2
  · have:=h.row.lt;omega⟩
theorem Bx.at (h:Bx w Z b t v):w.cell? ⟨b,0,none⟩=some v:=h.row.at (i:=0) rfl
theorem Bx.lt (h:Bx w Z b t v):b < w.heap.size:=h.row.lt
end
@[reducible] def ptr (q:Nat):Value:=.pointer (some ⟨q,0,none⟩)
@[reducible] def num (a:Int):Value:=.int .i64 a
def strs (l:List ByteArray):List Value:=l.map .string
section
variable {w w':World} {Z Z' S:List Nat} {q:Nat} {v:Value} {p:Pt}
end
section
variable {w w':World} {Z Z' S:List Nat} {q:Nat} {v:Value} {p:Pt} {vs:List Value} {ps:List Pt}
end
end EW
end Go.Proofs.YtehgmmbdlnginaaGreatDoor
namespace Go.Proofs.YtehgmmbdlnginaaGreatDoor
open Go.RowKit
namespace EW
open LX SX RW6 EX
open RX (Nd)
section
variable {w:World} {Z:List Nat} {q:Nat}
theorem sz_alloc (w:World) (o:Obj):(w.alloc o).heap.size=w.heap.size+1:=by show (w.heap.push o).size=_;simp
theorem bx_new {k:Nat} (t:TypeId) (v:Value) (hk:w.heap.size=k) (hz:∀ b∈Z,b < w.heap.size):Bx (w.alloc (.cells #[v] t)) Z k t v:=by
  subst hk;exact ⟨MM.Row.new w t [v],fun hm=>Nat.lt_irrefl _ (hz _ hm)⟩
theorem row_new {k:Nat} (t:TypeId) (l:List Value) (hk:w.heap.size=k):MM.Row (w.alloc (.cells l.toArray t)) k t l:=by
  subst hk;exact MM.Row.new w t l
theorem z_alloc {o:Obj} (hz:∀ b∈Z,b < w.heap.size):∀ b∈Z,b < (w.alloc o).heap.size:=fun b hb=>Nat.lt_of_lt_of_le (hz b hb) ((MM.Far.refl [] w).alloc o).size
theorem z_far {S:List Nat} {w':World} (hz:∀ b∈Z,b < w.heap.size) (f:MM.Far S w w'):∀ b∈Z,b < w'.heap.size:=fun b hb=>Nat.lt_of_lt_of_le (hz b hb) f.size
theorem Bx.alloc {b:Nat} {t:TypeId} {v:Value} (h:Bx w Z b t v) (o:Obj):Bx (w.alloc o) Z b t v:=h.far ((MM.Far.refl [] w).alloc o) (by simp)
theorem Sl.alloc {v:Value} {vs:List Value} (h:Sl w Z v vs) (o:Obj):Sl (w.alloc o) Z v vs:=h.far ((MM.Far.refl [] w).alloc o) (by simp)
end
section
variable (w:World) {Z:List Nat} (q:Nat) (hz:∀ b∈Z,b < w.heap.size)
include hz
end
section
variable (w:World) {Z:List Nat} (q:Nat)
end
end EW
end Go.Proofs.YtehgmmbdlnginaaGreatDoor
namespace Go.Proofs.YtehgmmbdlnginaaGreatDoor
open Go.RowKit
namespace EW
open LX SX RW6 EX
open RX (Nd)
def NdR (w:World) (A:Option Addr) (ns:List Nd):Prop :=
  ∀ (k:Nat) (h:k < ns.length),∃ b o LA c,A=some ⟨b,o,none⟩∧b < w.heap.size∧w.cell? ⟨b,o+k*5,none⟩=some (.int .u8 ns[k].kind)∧w.cell? ⟨b,o+k*5+1,none⟩=some (.int .i64 ns[k].at_) ∧
    w.cell? ⟨b,o+k*5+2,none⟩=some (.int .i64 ns[k].n)∧w.cell? ⟨b,o+k*5+3,none⟩=some (.string ns[k].s)∧w.cell? ⟨b,o+k*5+4,none⟩=some (.slice LA ns[k].l.length c)∧ns[k].l.length≤c∧c≤maxLen∧IntRow w LA ns[k].l
theorem NdR.far {w w':World} {A:Option Addr} {ns:List Nd} (h:NdR w A ns) (f:MM.Far [] w w'):NdR w' A ns:=by
  intro k hk;obtain ⟨b,o,LA,c,e,hb,c0,c1,c2,c3,c4,k1,k2,hI⟩:=h k hk;have g (x:Nat):w'.cell? ⟨b,x,none⟩=w.cell? ⟨b,x,none⟩:=f.cell (p:=⟨b,x,none⟩) hb (by simp);exact ⟨b,o,LA,c,e,Nat.lt_of_lt_of_le hb f.size,(g _).trans c0,(g _).trans c1,(g _).trans c2,(g _).trans c3,(g _).trans c4,k1,k2,hI.far f⟩
def most (s:ByteArray):Int:=if s=nQuote then 1 else if s=nIf then 3 else if s=nSet then 2 else 9223372036854775807
section
variable {w w':World} {Z Z' S:List Nat} {q:Nat} {s:ByteArray} {v:Value}
end
section
variable {w w':World} {Z Z' S:List Nat} {q mb:Nat}
end
section
variable {w0 w w':World} {Z:List Nat} {q mb:Nat} {dv:Value}
end
end EW
end Go.Proofs.YtehgmmbdlnginaaGreatDoor
namespace Go.Proofs.YtehgmmbdlnginaaGreatDoor
open Go.RowKit
namespace EW
open LX SX RW6 EX
open RX (Nd)
theorem size_zero {s:ByteArray} (h:s.size=0):s=⟨#[]⟩:=by
  apply ByteArray.ext
  apply Array.toList_inj.1
  exact List.eq_nil_of_length_eq_zero (by rw [Array.length_toList];exact h)
theorem toList_ne {s:ByteArray} (h:s.size≠0):¬ s.toList=[]:=by
  rw [Lib.toList_data];intro e;have:=congrArg List.length e;rw [Array.length_toList] at this;exact h this
theorem beq_list {s x:ByteArray} (h:¬ s=x):(s.toList == x.toList)=false:=by
  rw [beq_eq_false_iff_ne,Lib.toList_data,Lib.toList_data];intro e;exact h (ByteArray.ext (Array.toList_inj.1 e))
section
variable {w0 w:World} {Z:List Nat} {q mb:Nat} {dv:Value}
end
section
variable {w0 w:World} {Z:List Nat} {q mb:Nat} {DA:Option Addr} {n c:Nat} {ns:List Nd}
theorem str_push {ops:Array Oper} {rest:List Oper} {o:Oper} {a:Act} {Q:Exit→Act→World→Prop} {base:Nat} {w:World} {v:Value} {l:List ByteArray} {s:ByteArray}
    (hO:w.ownsRow base 9 1 v l.length (strs l)) (hb:base≤w.heap.size) (hl:l.length≤1099511627776) (hgd:o.guard=none) (x y:Operand)
    (ho:o.op = .call { callee:=.builtin .append,args:=#[x,y],argTypes:=#[35,35] })
    (hs:a.eval x=v) (hx:a.eval y = .slice (some ⟨w.heap.size,0,none⟩) 1 1)
    (h:∀ A c w',w'.ownsRow base 9 1 (.slice A (l.length+1) c) (l++[s]).length (strs (l++[s]))→MM.Far v.ownBlock.toList w w'→wpList Tryz.prog ops Q rest (a.put o.dst (.slice A (l.length+1) c)) w') :
    wpList Tryz.prog ops Q (o::rest) a (w.alloc (.cells #[.string s] 9)):=by
  have hF:MM.Far [] w (w.alloc (.cells #[.string s] 9)):=(MM.Far.refl [] w).alloc _;have hsl:Tryz.prog.underlying 35=some (.slice 9):=by kernel_rfl
  have hinf:(Tryz.prog.info? 9).map (fun i=>(i.zero,i.size,i.bytes))=some (some (.string ⟨#[]⟩),1,16):=by kernel_rfl
  refine MO.wpList_append _ hgd x y 35 ho base 9 (.string ⟨#[]⟩) 1 16 hsl hinf rfl (by omega) v l.length (strs l) hs (MM.own_far hO hF (by simp)) (some ⟨w.heap.size,0,none⟩) 1 1 [.string s] hx rfl (fun h=>by cases h) [] ?_ ?_ ?_ ?_ (by have:=hF.size;omega) ?_
  · exact MM.Src.row (MM.Row.new w 9 [.string s]) (by simp) _ (fun j u hu=>hu)
  · intro u hu;rw [List.mem_singleton] at hu;subst hu;rfl
  · simp only [maxLen];omega
  · omega
  · intro v' w' hv hg hat;obtain ⟨A,c,rfl,_⟩:=MO.form hv;refine h A c w' ?_ (((MM.Far.refl v.ownBlock.toList w).alloc _).trans (MM.Far.of_grown (S:=v.ownBlock.toList) hg (by intro k hk _;simp [hk])) (fun k hk _=>hk))
    rw [List.length_append,List.length_singleton];show w'.ownsRow base _ 1 _ _ ((l++[s]).map .string)
    rw [List.map_append];exact hv
end
section
variable {w0 w:World} {Z:List Nat} {q mb:Nat} {DA:Option Addr} {n c:Nat} {ns:List Nd}
def namesR (names:Option (List ByteArray)) (w':World) (Z:List Nat) (e:Ending):Prop:=match names with
  | none=>e = .returned (.tuple #[.slice none 0 0,.bool false])
  | some l=>∃ v,e = .returned (.tuple #[v,.bool true])∧Sl w' Z v (strs l)
end
end EW
end Go.Proofs.YtehgmmbdlnginaaGreatDoor
namespace Go.Proofs.YtehgmmbdlnginaaGreatDoor
open Go.RowKit
namespace EW
open LX SX RW6 EX
open RX (Nd)
theorem far_cell {w w':World} {p:Addr} {v:Value} (f:MM.Far [] w w') (h:w.cell? p=some v):w'.cell? p=some v:=(f.cell (MR.cell_lt h) (by simp)).trans h
theorem int_head {i:Nat} {l:List Nat}:ints (i::l)=num i::ints l:=rfl
theorem ints_len (l:List Nat):(ints l).length=l.length:=by unfold ints;rw [List.length_map]
theorem strs_len (l:List ByteArray):(strs l).length=l.length:=by unfold strs;rw [List.length_map]
theorem keep2 {w w':World} {p1 p2:Addr} {v1 v2:Value} (f:MM.Far [] w w') (h:w.cell? p1=some v1∧w.cell? p2=some v2):w'.cell? p1=some v1∧w'.cell? p2=some v2:=⟨far_cell f h.1,far_cell f h.2⟩
theorem keep3 {w w':World} {p1 p2 p3:Addr} {v1 v2 v3:Value} (f:MM.Far [] w w') (h:w.cell? p1=some v1∧w.cell? p2=some v2∧w.cell? p3=some v3):w'.cell? p1=some v1∧w'.cell? p2=some v2∧w'.cell? p3=some v3:=⟨far_cell f h.1,keep2 f h.2⟩
theorem keep4 {w w':World} {p1 p2 p3 p4:Addr} {v1 v2 v3 v4:Value} (f:MM.Far [] w w') (h:w.cell? p1=some v1∧w.cell? p2=some v2∧w.cell? p3=some v3∧w.cell? p4=some v4):w'.cell? p1=some v1∧w'.cell? p2=some v2∧w'.cell? p3=some v3∧w'.cell? p4=some v4:=⟨far_cell f h.1,keep3 f h.2⟩
end EW
end Go.Proofs.YtehgmmbdlnginaaGreatDoor
namespace Go.Proofs.YtehgmmbdlnginaaGreatDoor
open Go.RowKit
namespace EW
open LX SX RW6 EX
open RX (Nd)
end EW
end Go.Proofs.YtehgmmbdlnginaaGreatDoor
namespace Go.Proofs.YtehgmmbdlnginaaGreatDoor
open Go.RowKit
namespace EW
open LX SX RW6 EX
open RX (Nd)
open RM6 (Kin)
structure Pc where
  o:EX.Op
  pv:Value
  lv:Value
  av:Value
def fmL (x:Fm × Value × Value):List Value:=[.int .u8 x.1.kind,.int .i64 x.1.at_,.int .i64 x.1.n,.int .i64 0,.string x.1.s,x.2.1,.int .u64 0,x.2.2]
def fmC (rs:List (Fm × Value × Value)):List Value:=rs.flatMap fmL
theorem fmC_snoc (rs:List (Fm × Value × Value)) (x:Fm × Value × Value):fmC (rs++[x])=fmC rs++fmL x:=by simp [fmC]
structure Zto (w w1:World) (Z Z':List Nat):Prop where
  sub:∀ b∈Z,b∈Z'
  new:∀ b∈Z',b∈Z∨w.heap.size≤b
theorem Zto.refl (w w1:World) (Z:List Nat):Zto w w1 Z Z:=⟨fun _ h=>h,fun _ h=>.inl h⟩
section
variable {w0 w w1:World} {Z:List Nat} {q mb:Nat} {dv fv tv hv ov:Value} {rs:List (Fm × Value × Value)} {tops:List Nat} {os:List Pc} {ex:List (Value × List Nat)}
theorem off_own {e e':TypeId} {size size' n n' base base':Nat} {v v':Value} {xs xs':List Value} (h:w.ownsRow base e size v n xs) (h':w.ownsRow base' e' size' v' n' xs') (ht:e≠e'):∀ b,v.ownBlock=some b→b∉v'.ownBlock.toList:=by
  intro b hb hm;exact MM.own_own_ne h h' ht b hb (by simpa using hm)
theorem cell_far (w:World) (g i:Nat) (u:Value):MM.Far [g] w (w.setCell ⟨g,i,none⟩ u):=(MM.Far.refl [g] w).setCell (by simp) u
end
theorem forms_slice:Tryz.prog.underlying 23=some (.slice 39):=by kernel_rfl
theorem form_info:(Tryz.prog.info? 39).map (fun i=>(i.zero,i.size,i.bytes))=some (some (.agg #[.int .u8 0,.int .i64 0,.int .i64 0,.int .i64 0,.string ⟨#[]⟩,.slice none 0 0,.int .u64 0,.slice none 0 0]),8,104):=by kernel_rfl
theorem fm_one (f:Fm) (A B:Option Addr) (n c m d:Nat):∀ u∈fmL (f,.slice A n c,.slice B m d),u.oneCell'=true:=by
  intro u hu;simp only [fmL,List.mem_cons,List.not_mem_nil,or_false] at hu
  rcases hu with rfl | rfl | rfl | rfl | rfl | rfl | rfl | rfl <;> rfl
theorem own_form (w0:World) {w:World} {e:TypeId} {size n:Nat} {v:Value} {xs:List Value} (h:w.ownsRow w0.heap.size e size v n xs):∃ A c,v = .slice A n c:=by
  obtain ⟨A,c,e,_⟩:=MO.form h;exact ⟨A,c,e⟩
end EW
end Go.Proofs.YtehgmmbdlnginaaGreatDoor
