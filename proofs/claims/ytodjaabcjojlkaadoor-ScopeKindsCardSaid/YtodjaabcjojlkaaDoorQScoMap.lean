/-
  Several texts in one: ExpBase,ScoMap.
-/
import Derived.Test.YtodjaabcjojlkaaDoorQExpPure
import Derived.Test.YtodjaabcjojlkaaDoorMemAll
import Derived.Test.YtodjaabcjojlkaaDoorQReadMems
import Derived.Test.YtodjaabcjojlkaaDoorQNamesAll
import Derived.MapKept
import Derived.Laws.EntriesVeiled
import Derived.Deep.RegionLaw
import Derived.Deep.RegionHeld3
import Derived.BigQuiet
import Derived.Deep.QuietTactic
import Derived.Deep.DeepCutAuto
namespace Go.Proofs.YtodjaabcjojlkaaDoor
open Go.RowKit
namespace EW
open LX SX RW6 EX
open RX (Nd)
def Ty (w:World) (A:Option Addr) (vs:List Value):Prop:=∀ g o sp cs fz,A=some ⟨g,o,sp⟩→w.heap[g]? = some (.cells cs 3 fz)→∀ u∈vs,∃ i,u = .int .i64 i
def Sl (w:World) (Z:List Nat) (v:Value) (vs:List Value):Prop :=
  ∃ A c,v = .slice A vs.length c∧vs.length≤c∧(c≤maxLen∧Ty w A vs)∧∀ k u,vs[k]? = some u→∃ g o,A=some ⟨g,o,none⟩∧g∉Z∧g < w.heap.size∧w.cell? ⟨g,o+k,none⟩=some u
section
variable {w w':World} {Z Z' S:List Nat} {v:Value} {vs:List Value}
theorem Sl.far (h:Sl w Z v vs) (f:MM.Far S w w') (hS:∀ b∈S,b < w.heap.size→b∈Z):Sl w' Z v vs:=by
  obtain ⟨A,c,e,h1,⟨h2,hty⟩,h3⟩:=h;refine ⟨A,c,e,h1,⟨h2,fun g o sp cs fz eA hh u hu=>?_⟩,fun k u hu=>?_⟩
  · obtain ⟨k,hk⟩:=List.getElem?_of_mem hu;obtain ⟨g',o',e2,hz,hl,_⟩:=h3 k u hk;have e3:=e2.symm.trans eA;injection e3 with e3;injection e3 with e4;subst e4;exact hty g' o sp cs fz eA ((f.block g' hl (fun hm=>hz (hS _ hm hl))).symm.trans hh) u hu
  · obtain ⟨g,o,e2,hz,hl,hc⟩:=h3 k u hu;exact ⟨g,o,e2,hz,Nat.lt_of_lt_of_le hl f.size,(f.cell (p:=⟨g,o+k,none⟩) hl (fun hm=>hz (hS _ hm hl))).trans hc⟩
theorem Sl.more (h:Sl w Z v vs) (hZ:∀ b∈Z',b∈Z∨w.heap.size≤b):Sl w Z' v vs:=by
  obtain ⟨A,c,e,h1,h2,h3⟩:=h;refine ⟨A,c,e,h1,h2,fun k u hu=>?_⟩
  obtain ⟨g,o,e2,hz,hl,hc⟩:=h3 k u hu;refine ⟨g,o,e2,fun hm=>?_,hl,hc⟩
  rcases hZ g hm with h | h
  · exact hz h
  · omega
theorem Sl.nil (w:World) (Z:List Nat):Sl w Z (.slice none 0 0) []:=⟨none,0,rfl,Nat.le_refl _,⟨Nat.zero_le _,fun _ _ _ _ _ _ _ u hu=>by cases hu⟩,fun k u h=>by simp at h⟩
theorem Sl.row {b:Nat} {t:TypeId} {l:List Value} (h:MM.Row w b t l) (hb:b∉Z) (hm:l.length≤maxLen) (hi:3≠t∨∀ u∈l,∃ i,u = .int .i64 i:=by first | exact .inl (by decide) | exact .inr (fun u hu=>by simp only [ints,List.mem_map] at hu;obtain ⟨x,_,rfl⟩:=hu;exact ⟨_,rfl⟩)):Sl w Z (.slice (some ⟨b,0,none⟩) l.length l.length) l :=
  ⟨_,_,rfl,Nat.le_refl _,⟨hm,fun g o sp cs fz e hh=>by
    injection e with e;injection e with e1;subst e1;have h':w.heap[b]? = some (.cells l.toArray t (0,0)):=h;rw [h'] at hh;injection hh with hh;injection hh with _ hh
    rcases hi with hi | hi
    · exact absurd hh.symm hi
    · exact hi⟩,fun k u hu=>⟨b,0,rfl,hb,h.lt,by rw [Nat.zero_add];exact h.at hu⟩⟩
theorem Sl.own {base:Nat} {e:TypeId} {n:Nat} (h:w.ownsRow base e 1 v n vs) (hZ:∀ b,v.ownBlock=some b→b∉Z) (hi:3≠e∨∀ u∈vs,∃ i,u = .int .i64 i:=by first | exact .inl (by decide) | exact .inr (fun u hu=>by simp only [ints,List.mem_map] at hu;obtain ⟨x,_,rfl⟩:=hu;exact ⟨_,rfl⟩)):Sl w Z v vs:=by
  obtain ⟨A,c,ev,k0,k1,k2,k3,hh⟩:=MO.form h;have hn:vs.length=n:=by rw [h.1];omega
  refine ⟨A,c,by rw [hn];exact ev,by omega,⟨k2,fun g o sp cs fz eA hg=>?_⟩,fun k u hu=>?_⟩
  · rcases hi with hi | hi
    · rcases h.2 with ⟨rfl,_⟩ | ⟨g',cap,cur,rfl,_,hg',_⟩
      · injection ev with ev _ _;subst ev;cases eA
      · injection ev with ev _ _;rw [← ev] at eA;injection eA with eA;injection eA with eA;subst eA;rw [hg'] at hg;injection hg with hg;injection hg with _ hg;exact absurd hg.symm hi
    · exact hi
  rcases hh with ⟨_,hz,_⟩ | ⟨g,rfl,_,hlt⟩
  · have:=(List.getElem?_eq_some_iff.1 hu).1;omega
  · obtain ⟨ad,e2,hb,hl,hc⟩:=k3 Z hZ (by have:=(List.getElem?_eq_some_iff.1 hu).1;omega);injection e2 with e2;subst e2;refine ⟨g,0,rfl,hb,hl,?_⟩
    have:=hc k u hu;rw [MM.head_add] at this;rw [Nat.zero_add];exact this
theorem Sl.cons {u:Value} (h:Sl w Z v (u::vs)):∃ g o c,v = .slice (some ⟨g,o,none⟩) (vs.length+1) c∧w.cell? ⟨g,o,none⟩=some u∧vs.length+1≤c∧c≤maxLen∧g < w.heap.size∧g∉Z ∧
    Sl w Z (.slice (if c=1 then some ⟨g,o,none⟩ else some ⟨g,o+1,none⟩) vs.length (c - 1)) vs:=by
  obtain ⟨A,c,e,h1,⟨h2,hty⟩,h3⟩:=h;rw [List.length_cons] at e h1;obtain ⟨g,o,rfl,hz,hl,hc⟩:=h3 0 u rfl;refine ⟨g,o,c,e,hc,h1,h2,hl,hz,_,_,rfl,by omega,⟨by omega,fun g' o' sp cs fz eA hg x hx=>?_⟩,fun k x hx=>?_⟩
  · have:g'=g:=by
      split at eA
      · injection eA with eA;injection eA with eA;exact eA.symm
      · injection eA with eA;injection eA with eA;exact eA.symm
    subst this;exact hty _ o none cs fz rfl hg x (List.mem_cons_of_mem _ hx)
  obtain ⟨g',o',e',_,_,hc'⟩:=h3 (k+1) x hx;injection e' with e';injection e' with e1 e2;subst e1;subst e2;have hk:=(List.getElem?_eq_some_iff.1 hx).1;refine ⟨g,o+1,by rw [if_neg (by omega)],hz,hl,?_⟩
  rw [show o+1+k=o+(k+1) by omega];exact hc'
theorem Sl.len {n:Nat} {A:Option Addr} {c:Nat} (h:Sl w Z (.slice A n c) vs):n=vs.length:=by
  obtain ⟨A',c',e,_⟩:=h;injection e
theorem Sl.form (h:Sl w Z v vs):∃ A c,v = .slice A vs.length c∧vs.length≤c∧c≤maxLen:=by
  obtain ⟨A,c,e,h1,h2,_⟩:=h;exact ⟨A,c,e,h1,h2.1⟩
end
theorem slice_ints (g o m c:Nat) (W:World):(Instr.slice 24 (.slice (some ⟨g,o,none⟩) (m+1) c) (some (.int .i64 1)) none none).run Tryd.prog W = .ok (.slice (if c=1 then some ⟨g,o,none⟩ else some ⟨g,o+1,none⟩) m (c - 1)) W:=by
  have hs:(sizeOf (Tryd.prog.elem 24)).run Tryd.prog W = .ok 1 W:=by kernel_rfl
  rw [run_slice_l (P:=Tryd.prog) W 24 (some ⟨g,o,none⟩) (m+1) c (by kernel_rfl) .i64 1 (by omega) (by omega),hs];simp [Result.andThen,sliced,Addr.add]
structure Bx (w:World) (Z:List Nat) (b:Nat) (t:TypeId) (v:Value):Prop where
  row:MM.Row w b t [v]
  out:b∉Z
section
variable {w w':World} {Z Z' S:List Nat} {b:Nat} {t:TypeId} {v:Value}
theorem Bx.far (h:Bx w Z b t v) (f:MM.Far S w w') (hS:∀ b∈S,b < w.heap.size→b∈Z):Bx w' Z b t v:=⟨h.row.far f (fun hm=>h.out (hS _ hm h.row.lt)),h.out⟩
theorem Bx.more (h:Bx w Z b t v) (hZ:∀ b∈Z',b∈Z∨w.heap.size≤b):Bx w Z' b t v:=⟨h.row,fun hm=>by
  rcases hZ b hm with h2 | h2
  · exact h.out h2
  · have:=h.row.lt;omega⟩
theorem Bx.at (h:Bx w Z b t v):w.cell? ⟨b,0,none⟩=some v:=h.row.at (i:=0) rfl
theorem Bx.lt (h:Bx w Z b t v):b < w.heap.size:=h.row.lt
end
@[reducible] def ptr (q:Nat):Value:=.pointer (some ⟨q,0,none⟩)
@[reducible] def num (a:Int):Value:=.int .i64 a
def strs (l:List ByteArray):List Value:=l.map .string
section
variable {w w':World} {Z Z' S:List Nat} {q:Nat} {v:Value} {p:Pt}
end
section
variable {w w':World} {Z Z' S:List Nat} {q:Nat} {v:Value} {p:Pt} {vs:List Value} {ps:List Pt}
end
end EW
end Go.Proofs.YtodjaabcjojlkaaDoor
namespace Go.Proofs.YtodjaabcjojlkaaDoor
open Go.RowKit
namespace EW
open LX SX RW6 EX
open RX (Nd)
section
variable {w:World} {Z:List Nat} {q:Nat}
theorem sz_alloc (w:World) (o:Obj):(w.alloc o).heap.size=w.heap.size+1:=by show (w.heap.push o).size=_;simp
theorem bx_new {k:Nat} (t:TypeId) (v:Value) (hk:w.heap.size=k) (hz:∀ b∈Z,b < w.heap.size):Bx (w.alloc (.cells #[v] t)) Z k t v:=by
  subst hk;exact ⟨MM.Row.new w t [v],fun hm=>Nat.lt_irrefl _ (hz _ hm)⟩
theorem row_new {k:Nat} (t:TypeId) (l:List Value) (hk:w.heap.size=k):MM.Row (w.alloc (.cells l.toArray t)) k t l:=by
  subst hk;exact MM.Row.new w t l
theorem z_alloc {o:Obj} (hz:∀ b∈Z,b < w.heap.size):∀ b∈Z,b < (w.alloc o).heap.size:=fun b hb=>Nat.lt_of_lt_of_le (hz b hb) ((MM.Far.refl [] w).alloc o).size
theorem z_far {S:List Nat} {w':World} (hz:∀ b∈Z,b < w.heap.size) (f:MM.Far S w w'):∀ b∈Z,b < w'.heap.size:=fun b hb=>Nat.lt_of_lt_of_le (hz b hb) f.size
theorem Bx.alloc {b:Nat} {t:TypeId} {v:Value} (h:Bx w Z b t v) (o:Obj):Bx (w.alloc o) Z b t v:=h.far ((MM.Far.refl [] w).alloc o) (by simp)
theorem Sl.alloc {v:Value} {vs:List Value} (h:Sl w Z v vs) (o:Obj):Sl (w.alloc o) Z v vs:=h.far ((MM.Far.refl [] w).alloc o) (by simp)
theorem sl_new {k n:Nat} (t:TypeId) (l:List Value) (hk:w.heap.size=k) (hn:l.length=n) (hm:n≤maxLen) (hz:∀ b∈Z,b < w.heap.size) (hi:3≠t∨∀ u∈l,∃ i,u = .int .i64 i:=by exact .inl (by decide)):Sl (w.alloc (.cells l.toArray t)) Z (.slice (some ⟨k,0,none⟩) n n) l:=by
  subst hk;subst hn;exact Sl.row (MM.Row.new w t l) (fun hm=>Nat.lt_irrefl _ (hz _ hm)) hm hi
end
section
variable (w:World) {Z:List Nat} (q:Nat) (hz:∀ b∈Z,b < w.heap.size)
include hz
end
section
variable (w:World) {Z:List Nat} (q:Nat)
end
end EW
end Go.Proofs.YtodjaabcjojlkaaDoor
namespace Go.Proofs.YtodjaabcjojlkaaDoor
open Go.RowKit
namespace EW
open LX SX RW6 EX
open RX (Nd)
def NdR (w:World) (A:Option Addr) (ns:List Nd):Prop :=
  ∀ (k:Nat) (h:k < ns.length),∃ b o LA c,A=some ⟨b,o,none⟩∧b < w.heap.size∧w.cell? ⟨b,o+k*5,none⟩=some (.int .u8 ns[k].kind)∧w.cell? ⟨b,o+k*5+1,none⟩=some (.int .i64 ns[k].at_) ∧
    w.cell? ⟨b,o+k*5+2,none⟩=some (.int .i64 ns[k].n)∧w.cell? ⟨b,o+k*5+3,none⟩=some (.string ns[k].s)∧w.cell? ⟨b,o+k*5+4,none⟩=some (.slice LA ns[k].l.length c)∧ns[k].l.length≤c∧c≤maxLen∧IntRow w LA ns[k].l
theorem NdR.far {w w':World} {A:Option Addr} {ns:List Nd} (h:NdR w A ns) (f:MM.Far [] w w'):NdR w' A ns:=by
  intro k hk;obtain ⟨b,o,LA,c,e,hb,c0,c1,c2,c3,c4,k1,k2,hI⟩:=h k hk;have g (x:Nat):w'.cell? ⟨b,x,none⟩=w.cell? ⟨b,x,none⟩:=f.cell (p:=⟨b,x,none⟩) hb (by simp);exact ⟨b,o,LA,c,e,Nat.lt_of_lt_of_le hb f.size,(g _).trans c0,(g _).trans c1,(g _).trans c2,(g _).trans c3,(g _).trans c4,k1,k2,hI.far f⟩
section
variable {w w':World} {Z Z' S:List Nat} {q:Nat} {s:ByteArray} {v:Value}
end
section
variable {w w':World} {Z Z' S:List Nat} {q mb:Nat}
end
section
variable {w0 w w':World} {Z:List Nat} {q mb:Nat} {dv:Value}
end
end EW
end Go.Proofs.YtodjaabcjojlkaaDoor
namespace Go.Proofs.YtodjaabcjojlkaaDoor
open Go.RowKit
namespace EW
open LX SX RW6 EX
open RX (Nd)
theorem size_zero {s:ByteArray} (h:s.size=0):s=⟨#[]⟩:=by
  apply ByteArray.ext
  apply Array.toList_inj.1
  exact List.eq_nil_of_length_eq_zero (by rw [Array.length_toList];exact h)
theorem toList_ne {s:ByteArray} (h:s.size≠0):¬ s.toList=[]:=by
  rw [Lib.toList_data];intro e;have:=congrArg List.length e;rw [Array.length_toList] at this;exact h this
theorem beq_list {s x:ByteArray} (h:¬ s=x):(s.toList == x.toList)=false:=by
  rw [beq_eq_false_iff_ne,Lib.toList_data,Lib.toList_data];intro e;exact h (ByteArray.ext (Array.toList_inj.1 e))
section
variable {w0 w:World} {Z:List Nat} {q mb:Nat} {dv:Value}
end
section
variable {w0 w:World} {Z:List Nat} {q mb:Nat} {DA:Option Addr} {n c:Nat} {ns:List Nd}
theorem str_push {ops:Array Oper} {rest:List Oper} {o:Oper} {a:Act} {Q:Exit→Act→World→Prop} {base:Nat} {w:World} {v:Value} {l:List ByteArray} {s:ByteArray}
    (hO:w.ownsRow base 9 1 v l.length (strs l)) (hb:base≤w.heap.size) (hl:l.length≤1099511627776) (hgd:o.guard=none) (x y:Operand)
    (ho:o.op = .call { callee:=.builtin .append,args:=#[x,y],argTypes:=#[29,29] })
    (hs:a.eval x=v) (hx:a.eval y = .slice (some ⟨w.heap.size,0,none⟩) 1 1)
    (h:∀ A c w',w'.ownsRow base 9 1 (.slice A (l.length+1) c) (l++[s]).length (strs (l++[s]))→MM.Far v.ownBlock.toList w w'→wpList Tryd.prog ops Q rest (a.put o.dst (.slice A (l.length+1) c)) w') :
    wpList Tryd.prog ops Q (o::rest) a (w.alloc (.cells #[.string s] 9)):=by
  have hF:MM.Far [] w (w.alloc (.cells #[.string s] 9)):=(MM.Far.refl [] w).alloc _;have hsl:Tryd.prog.underlying 29=some (.slice 9):=by kernel_rfl
  have hinf:(Tryd.prog.info? 9).map (fun i=>(i.zero,i.size,i.bytes))=some (some (.string ⟨#[]⟩),1,16):=by kernel_rfl
  refine MO.wpList_append _ hgd x y 29 ho base 9 (.string ⟨#[]⟩) 1 16 hsl hinf rfl (by omega) v l.length (strs l) hs (MM.own_far hO hF (by simp)) (some ⟨w.heap.size,0,none⟩) 1 1 [.string s] hx rfl (fun h=>by cases h) [] ?_ ?_ ?_ ?_ (by have:=hF.size;omega) ?_
  · exact MM.Src.row (MM.Row.new w 9 [.string s]) (by simp) _ (fun j u hu=>hu)
  · intro u hu;rw [List.mem_singleton] at hu;subst hu;rfl
  · simp only [maxLen];omega
  · omega
  · intro v' w' hv hg hat;obtain ⟨A,c,rfl,_⟩:=MO.form hv;refine h A c w' ?_ (((MM.Far.refl v.ownBlock.toList w).alloc _).trans (MM.Far.of_grown (S:=v.ownBlock.toList) hg (by intro k hk _;simp [hk])) (fun k hk _=>hk))
    rw [List.length_append,List.length_singleton];show w'.ownsRow base _ 1 _ _ ((l++[s]).map .string)
    rw [List.map_append];exact hv
end
section
variable {w0 w:World} {Z:List Nat} {q mb:Nat} {DA:Option Addr} {n c:Nat} {ns:List Nd}
def namesR (names:Option (List ByteArray)) (w':World) (Z:List Nat) (e:Ending):Prop:=match names with
  | none=>e = .returned (.tuple #[.slice none 0 0,.bool false])
  | some l=>∃ v,e = .returned (.tuple #[v,.bool true])∧Sl w' Z v (strs l)
end
end EW
end Go.Proofs.YtodjaabcjojlkaaDoor
namespace Go.Proofs.YtodjaabcjojlkaaDoor
open Go.RowKit
namespace EW
open LX SX RW6 EX
open RX (Nd)
theorem made_list (z:Value) (n:Nat):madeCells #[z] n=(List.replicate n z).toArray:=by
  apply Array.ext
  · simp [size_madeCells]
  · intro i h1 h2;simp [madeCells,Nat.mod_one]
theorem far_cell {w w':World} {p:Addr} {v:Value} (f:MM.Far [] w w') (h:w.cell? p=some v):w'.cell? p=some v:=(f.cell (MR.cell_lt h) (by simp)).trans h
theorem int_head {i:Nat} {l:List Nat}:ints (i::l)=num i::ints l:=rfl
theorem ints_len (l:List Nat):(ints l).length=l.length:=by unfold ints;rw [List.length_map]
theorem strs_len (l:List ByteArray):(strs l).length=l.length:=by unfold strs;rw [List.length_map]
theorem keep2 {w w':World} {p1 p2:Addr} {v1 v2:Value} (f:MM.Far [] w w') (h:w.cell? p1=some v1∧w.cell? p2=some v2):w'.cell? p1=some v1∧w'.cell? p2=some v2:=⟨far_cell f h.1,far_cell f h.2⟩
theorem keep3 {w w':World} {p1 p2 p3:Addr} {v1 v2 v3:Value} (f:MM.Far [] w w') (h:w.cell? p1=some v1∧w.cell? p2=some v2∧w.cell? p3=some v3):w'.cell? p1=some v1∧w'.cell? p2=some v2∧w'.cell? p3=some v3:=⟨far_cell f h.1,keep2 f h.2⟩
theorem keep4 {w w':World} {p1 p2 p3 p4:Addr} {v1 v2 v3 v4:Value} (f:MM.Far [] w w') (h:w.cell? p1=some v1∧w.cell? p2=some v2∧w.cell? p3=some v3∧w.cell? p4=some v4):w'.cell? p1=some v1∧w'.cell? p2=some v2∧w'.cell? p3=some v3∧w'.cell? p4=some v4:=⟨far_cell f h.1,keep3 f h.2⟩
end EW
end Go.Proofs.YtodjaabcjojlkaaDoor
namespace Go.Proofs.YtodjaabcjojlkaaDoor
open Go.RowKit
namespace EW
open LX SX RW6 EX
open RX (Nd)
end EW
end Go.Proofs.YtodjaabcjojlkaaDoor
namespace Go.Proofs.YtodjaabcjojlkaaDoor
open Go.RowKit
namespace EW
open LX SX RW6 EX
open RX (Nd)
open RM6 (Kin)
structure Pc where
  o:EX.Op
  pv:Value
  lv:Value
  av:Value
def pcL (x:Pc):List Value:=[.bool false,.int .u8 x.o.f.kind,.int .i64 x.o.f.at_,.int .i64 x.o.f.n,.int .i64 0,.string x.o.f.s,x.pv,.int .u64 0,x.lv,x.av,.nilFunc]
def fmL (x:Fm × Value × Value):List Value:=[.int .u8 x.1.kind,.int .i64 x.1.at_,.int .i64 x.1.n,.int .i64 0,.string x.1.s,x.2.1,.int .u64 0,x.2.2]
def fmC (rs:List (Fm × Value × Value)):List Value:=rs.flatMap fmL
theorem fmC_snoc (rs:List (Fm × Value × Value)) (x:Fm × Value × Value):fmC (rs++[x])=fmC rs++fmL x:=by simp [fmC]
def kinsF (rs:List (Fm × Value × Value)):List (Value × List Nat):=rs.map fun x=>(x.2.2,x.1.l)
structure Zto (w w1:World) (Z Z':List Nat):Prop where
  sub:∀ b∈Z,b∈Z'
  new:∀ b∈Z',b∈Z∨w.heap.size≤b
theorem Zto.refl (w w1:World) (Z:List Nat):Zto w w1 Z Z:=⟨fun _ h=>h,fun _ h=>.inl h⟩
theorem Zto.of {w w1 w2:World} {Z Z' Z2:List Nat} (h:Zto w w1 Z Z') (k:Zto w1 w2 Z' Z2) (hs:w.heap.size≤w1.heap.size):Zto w w2 Z Z2 :=
  ⟨fun b hb=>k.sub b (h.sub b hb),fun b hb=>by
    rcases k.new b hb with h1 | h1
    · exact h.new b h1
    · exact .inr (by omega)⟩
section
variable {w0 w w1:World} {Z:List Nat} {q mb:Nat} {dv fv tv hv ov:Value} {rs:List (Fm × Value × Value)} {tops:List Nat} {os:List Pc} {ex:List (Value × List Nat)}
theorem cell_far (w:World) (g i:Nat) (u:Value):MM.Far [g] w (w.setCell ⟨g,i,none⟩ u):=(MM.Far.refl [g] w).setCell (by simp) u
end
theorem forms_slice:Tryd.prog.underlying 23=some (.slice 33):=by kernel_rfl
theorem form_info:(Tryd.prog.info? 33).map (fun i=>(i.zero,i.size,i.bytes))=some (some (.agg #[.int .u8 0,.int .i64 0,.int .i64 0,.int .i64 0,.string ⟨#[]⟩,.slice none 0 0,.int .u64 0,.slice none 0 0]),8,104):=by kernel_rfl
theorem fm_one (f:Fm) (A B:Option Addr) (n c m d:Nat):∀ u∈fmL (f,.slice A n c,.slice B m d),u.oneCell'=true:=by
  intro u hu;simp only [fmL,List.mem_cons,List.not_mem_nil,or_false] at hu
  rcases hu with rfl | rfl | rfl | rfl | rfl | rfl | rfl | rfl <;> rfl
theorem own_form (w0:World) {w:World} {e:TypeId} {size n:Nat} {v:Value} {xs:List Value} (h:w.ownsRow w0.heap.size e size v n xs):∃ A c,v = .slice A n c:=by
  obtain ⟨A,c,e,_⟩:=MO.form h;exact ⟨A,c,e⟩
end EW
end Go.Proofs.YtodjaabcjojlkaaDoor
namespace Go.Proofs.YtodjaabcjojlkaaDoor
open Go.RowKit
namespace SM
theorem same_str (n:Nat) (k:ByteArray):Instr.sameBits n (.string k) (.string k)=true:=by
  unfold Instr.sameBits;simp
theorem far_blk (w:World) (q:Nat) (o:Obj):MM.Far [q] w { w with heap:=w.heap.setIfInBounds q o } :=
  ⟨rfl,rfl,rfl,by show w.heap.size≤(w.heap.setIfInBounds q o).size;rw [Array.size_setIfInBounds];exact Nat.le_refl _,fun b hb hn=>by show (w.heap.setIfInBounds q o)[b]? = _;rw [Array.getElem?_setIfInBounds_ne (fun e=>hn (by rw [e];exact List.mem_cons_self ..))]⟩
structure MapN (w:World) (mb:Nat) (c:ByteArray→Nat):Prop where
  has:∃ es clock,w.heap[mb]? = some (.map es clock)∧MapKept.Stamped es clock∧(∀ x∈es.toList,∃ k,x.key = .string k∧x.val = .int .i64 (c k))∧∀ k,c k≠0→∃ x∈es.toList,x.key = .string k
theorem MapN.lt {w:World} {mb:Nat} {c:ByteArray→Nat} (h:MapN w mb c):mb < w.heap.size:=by
  obtain ⟨es,clock,hb,_⟩:=h.has;exact (Array.getElem?_eq_some_iff.1 hb).1
theorem MapN.far {w w':World} {mb:Nat} {c:ByteArray→Nat} {S:List Nat} (h:MapN w mb c) (f:MM.Far S w w') (hS:mb∉S):MapN w' mb c:=by
  have hlt:=h.lt;obtain ⟨es,clock,hb,hst,h1,h2⟩:=h.has;exact ⟨es,clock,(f.block mb hlt hS).trans hb,hst,h1,h2⟩
theorem MapN.new (w:World):MapN (w.alloc (.map #[] 0)) w.heap.size (fun _=>0):=⟨#[],0,by show (w.heap.push _)[w.heap.size]? = _;simp,MapKept.stamped_empty 0,(fun x hx=>absurd hx (by simp)),fun k h=>absurd rfl h⟩
theorem MapN.row_ne {w:World} {mb g:Nat} {c:ByteArray→Nat} {t:TypeId} {l:List Value} (h:MapN w mb c) (hr:MM.Row w g t l):mb≠g:=by
  rintro rfl;obtain ⟨es,clock,hb,_⟩:=h.has;have hr:w.heap[mb]? = some (.cells l.toArray t (0,0)):=hr;rw [hb] at hr;cases hr
theorem MapN.own_ne {w:World} {mb base:Nat} {e:TypeId} {size n:Nat} {v:Value} {xs:List Value} {c:ByteArray→Nat} (h:MapN w mb c) (hr:w.ownsRow base e size v n xs):v.ownBlock≠some mb:=by
  intro hv;obtain ⟨es,clock,hb,_⟩:=h.has;obtain ⟨cs,hc⟩:=NW.own_block hr mb hv;rw [hb] at hc;cases hc
set_option maxRecDepth 50000 in
theorem MapN.look {w:World} {mb:Nat} {c:ByteArray→Nat} (h:MapN w mb c) (k:ByteArray):(Instr.lookup 48 (.map (some mb)) (.string k) false).run Tryd.prog w = .ok (.int .i64 (c k)) w:=by
  obtain ⟨es,clock,hb,-,h1,h2⟩:=h.has;have hm:=Tryd.underlying48;have hk:=Tryd.underlying9;have hkey:MapKept.IsKey .string (.string k):=by simp [MapKept.IsKey]
  have hc:=MapKept.run_checkKey (w:=w) hk hkey es.isEmpty 9999;have hall:∀ x∈es.toList,MapKept.IsKey .string x.key:=fun x hx=>by
    obtain ⟨s',e,_⟩:=h1 x hx;rw [e];simp [MapKept.IsKey]
  have hz:(zeroValue 3).run Tryd.prog w = .ok (.int .i64 0) w:=by kernel_rfl
  rcases MapKept.findNow_spec hkey es.toList 0 hall with ⟨g1,g2⟩ | ⟨j,e,g1,g2,g3⟩
  · have hc0:c k=0:=by
      by_cases hck:c k=0
      · exact hck
      · obtain ⟨x,hx,ex⟩:=h2 k hck;exact absurd ex (g2 x hx)
    rw [hc0];simp [Instr.lookup,run_underlying hm,MapKept.run_getObj_map hb,hc,MapKept.run_findKey hk g1,Result.andThen,hz]
  · obtain ⟨k',e1,e2⟩:=h1 e (List.mem_of_getElem? g2);rw [g3] at e1;injection e1 with e1;subst e1;simp [Instr.lookup,run_underlying hm,MapKept.run_getObj_map hb,hc,MapKept.run_findKey hk g1,Result.andThen,e2]
set_option maxRecDepth 50000 in
theorem look_nil (w:World) (k:ByteArray):(Instr.lookup 48 (.map none) (.string k) false).run Tryd.prog w = .ok (.int .i64 0) w:=by
  have hm:=Tryd.underlying48;have hk:=Tryd.underlying9;have hkey:MapKept.IsKey .string (.string k):=by simp [MapKept.IsKey]
  have hc:=MapKept.run_checkKey (w:=w) hk hkey true 9999;have hz:(zeroValue 3).run Tryd.prog w = .ok (.int .i64 0) w:=by kernel_rfl
  rcases MapKept.findNow_spec hkey [] 0 (fun x hx=>by cases hx) with ⟨g1,g2⟩ | ⟨j,e,g1,g2,g3⟩
  · simp [Instr.lookup,run_underlying hm,hc,MapKept.run_findKey hk g1,Result.andThen,hz]
  · simp at g2
set_option maxRecDepth 50000 in
theorem MapN.up {w:World} {mb:Nat} {c:ByteArray→Nat} (h:MapN w mb c) (k:ByteArray) (m:Nat):∃ w',(Instr.mapUpdate 48 (.map (some mb)) (.string k) (.int .i64 (m:Nat))).run Tryd.prog w = .ok () w'∧MapN w' mb (fun x=>if x=k then m else c x)∧MM.Far [mb] w w':=by
  obtain ⟨es,clock,hb,hst,h1,h2⟩:=h.has;have hlt:=h.lt;have hm:=Tryd.underlying48;have hk:=Tryd.underlying9;have hkey:MapKept.IsKey .string (.string k):=by simp [MapKept.IsKey]
  have hc:=MapKept.run_checkKey (w:=w) hk hkey false 9999;have hall:∀ x∈es.toList,MapKept.IsKey .string x.key:=fun x hx=>by
    obtain ⟨s',e,_⟩:=h1 x hx;rw [e];simp [MapKept.IsKey]
  have fin:∀ (es':Array MapEntry) (clock':Nat),MapKept.Stamped es' clock'→(∀ x∈es'.toList,(x∈es.toList∧x.key≠.string k)∨(x.key = .string k∧x.val = .int .i64 (m:Nat)))→(∃ x∈es'.toList,x.key = .string k)→(∀ y,(∃ x∈es.toList,x.key=y)→∃ x∈es'.toList,x.key=y) →
      MapN { w with heap:=w.heap.setIfInBounds mb (.map es' clock') } mb (fun x=>if x=k then m else c x):=by
    intro es' clock' u0 u1 u2 u3;refine ⟨es',clock',by show (w.heap.setIfInBounds mb _)[mb]? = _;rw [Array.getElem?_setIfInBounds_self_of_lt hlt],u0,fun x hx=>?_,fun y hy=>?_⟩
    · rcases u1 x hx with ⟨hx,hne⟩ | ⟨e1,e2⟩
      · obtain ⟨k',e1,e2⟩:=h1 x hx;refine ⟨k',e1,?_⟩
        have:k'≠k:=fun e=>hne (by rw [e1,e])
        simp only [if_neg this]
        exact e2
      · exact ⟨k,e1,by simp only [if_true];exact e2⟩
    · by_cases e:y=k
      · subst e;exact u2
      · simp only [if_neg e] at hy
        exact u3 _ (h2 y hy)
  rcases MapKept.findNow_spec hkey es.toList 0 hall with ⟨g1,g2⟩ | ⟨j,e,g1,g2,g3⟩
  · refine ⟨_,?_,fin (es.push { key:=.string k,val:=.int .i64 (m:Nat),born:=clock }) (clock+1) (MapKept.stamped_push hst g2) (fun x hx=>?_) ⟨{ key:=.string k,val:=.int .i64 (m:Nat),born:=clock },by simp,rfl⟩ (fun y ⟨x,hx,e⟩=>⟨x,by simp [hx],e⟩),far_blk _ _ _⟩
    · simp [Instr.mapUpdate,run_underlying hm,MapKept.run_getObj_map hb,hc,MapKept.run_findKey hk g1,MapKept.run_setObj_map _ hb,Result.andThen]
    · simp only [Array.toList_push,List.mem_append,List.mem_singleton] at hx
      rcases hx with hx | rfl
      · exact .inl ⟨hx,g2 x hx⟩
      · exact .inr ⟨rfl,rfl⟩
  · have hej:es[j]? = some e:=by rw [Array.getElem?_toList] at g2;simpa using g2
    have hN:=hst.2.2;refine ⟨_,?_,fin (es.modify j fun e=>{ e with key:=.string k,val:=.int .i64 (m:Nat) }) clock (MapKept.stamped_modify hst j _ (fun _ _=>rfl) (fun e' _ he'=>by rw [hej] at he';injection he' with he';subst he';exact g3.symm)) (fun x hx=>?_) ?_ (fun y ⟨x,hx,ek⟩=>?_),far_blk _ _ _⟩
    · simp [Instr.mapUpdate,run_underlying hm,MapKept.run_getObj_map hb,hc,MapKept.run_findKey hk g1,MapKept.run_setObj_map _ hb,Result.andThen,hej,g3,Instr.keyThatStays,same_str]
    · obtain ⟨i,hi⟩:=List.getElem?_of_mem hx;rw [Array.getElem?_toList,Array.getElem?_modify] at hi;split at hi
      · rename_i hji;subst hji;rw [hej] at hi;injection hi with hi;exact .inr (by rw [← hi];exact ⟨rfl,rfl⟩)
      · rename_i hji;refine .inl ⟨List.mem_of_getElem? (by rw [Array.getElem?_toList];exact hi),fun hxk=>hji ?_⟩
        have hi':(es.toList.map (·.key))[i]? = some (.string k):=by rw [List.getElem?_map,Array.getElem?_toList,hi];exact congrArg some hxk
        have hj':(es.toList.map (·.key))[j]? = some (.string k):=by rw [List.getElem?_map,Array.getElem?_toList,hej];exact congrArg some g3
        have l1:=(List.getElem?_eq_some_iff.1 hi').1;exact ((List.getElem?_inj l1 hN).1 (hi'.trans hj'.symm)).symm
    · refine ⟨{ e with key:=.string k,val:=.int .i64 (m:Nat) },?_,rfl⟩
      refine List.mem_of_getElem? (i:=j) ?_
      rw [Array.getElem?_toList,Array.getElem?_modify,if_pos rfl,hej];rfl
    · obtain ⟨i,hi⟩:=List.getElem?_of_mem hx;rw [Array.getElem?_toList] at hi;by_cases hij:j=i
      · subst hij;rw [hej] at hi;injection hi with hi;subst hi;refine ⟨{ e with key:=.string k,val:=.int .i64 (m:Nat) },?_,?_⟩
        · refine List.mem_of_getElem? (i:=j) ?_
          rw [Array.getElem?_toList,Array.getElem?_modify,if_pos rfl,hej];rfl
        · rw [← ek,g3]
      · refine ⟨x,List.mem_of_getElem? (i:=i) ?_,ek⟩
        rw [Array.getElem?_toList,Array.getElem?_modify,if_neg hij];exact hi
def MapV (w:World) (mv:Value) (c:ByteArray→Nat):Prop:=(mv = .map none∧∀ s,c s=0)∨∃ mb,mv = .map (some mb)∧MapN w mb c
theorem MapV.look {w:World} {mv:Value} {c:ByteArray→Nat} (h:MapV w mv c) (k:ByteArray):(Instr.lookup 48 mv (.string k) false).run Tryd.prog w = .ok (.int .i64 (c k)) w:=by
  rcases h with ⟨rfl,h0⟩ | ⟨mb,rfl,hm⟩
  · rw [h0];exact look_nil w k
  · exact hm.look k
theorem MapV.far {w w':World} {mv:Value} {c:ByteArray→Nat} {S:List Nat} (h:MapV w mv c) (f:MM.Far S w w') (hS:∀ mb,mv = .map (some mb)→mb∉S):MapV w' mv c:=by
  rcases h with h | ⟨mb,rfl,hm⟩
  · exact .inl h
  · exact .inr ⟨mb,rfl,hm.far f (hS mb rfl)⟩
theorem MapV.congr {w:World} {mv:Value} {c d:ByteArray→Nat} (h:MapV w mv c) (e:∀ s,c s=d s):MapV w mv d:=by
  have:c=d:=funext e;subst this;exact h
end SM
end Go.Proofs.YtodjaabcjojlkaaDoor
