/-
  Several texts in one: ExpCa,ExpCb,ExpM,ExpE,ExpL,ExpR21,ExpDta.
-/
import Derived.Test.YtodjaabcjojlkaaDoorQScoMap
import Derived.Test.YtodjaabcjojlkaaDoorQExpPure
import Derived.Test.YtodjaabcjojlkaaDoorQReadCs
import Derived.Test.YtodjaabcjojlkaaDoorQReadMays
import Derived.Test.YtodjaabcjojlkaaDoorQShowBackP
import Derived.Test.YtodjaabcjojlkaaDoorQExpR20
import Derived.Test.YtodjaabcjojlkaaDoorQExpKd1
import Derived.Deep.RegionLaw
import Derived.Deep.DeepCutAuto
import Derived.Deep.QuietTactic
import Derived.BigQuiet
import Derived.Deep.LoopGhost
import Derived.Deep.RegionHeld3
import Derived.Orders
import Derived.Deep.CutRange
import Derived.Deep.Onto
namespace Go.Proofs.YtodjaabcjojlkaaDoor
open Go.RowKit
namespace EW
open LX SX RW6 EX
open RX (Nd)
end EW
end Go.Proofs.YtodjaabcjojlkaaDoor
namespace Go.Proofs.YtodjaabcjojlkaaDoor
open Go.RowKit
namespace EW
open LX SX RW6 EX
open RX (Nd)
open RM6 (Kin)
section
variable {w0 w:World} {Z:List Nat} {q mb:Nat} {DA:Option Addr} {n c:Nat} {ns:List Nd}
end
end EW
end Go.Proofs.YtodjaabcjojlkaaDoor
namespace Go.Proofs.YtodjaabcjojlkaaDoor
open Go.RowKit
namespace EW
open LX SX RW6 EX
open RX (Nd)
theorem Bx.cons {w:World} {Z:List Nat} {b kb:Nat} {t:TypeId} {v:Value} (h:Bx w Z b t v) (hne:b≠kb):Bx w (kb::Z) b t v:=⟨h.row,fun hm=>by
  rcases List.mem_cons.1 hm with h1 | h1
  · exact hne h1
  · exact h.out h1⟩
section
variable (w:World) {Z:List Nat} (q:Nat) (hz:∀ b∈Z,b < w.heap.size)
include hz
end
end EW
end Go.Proofs.YtodjaabcjojlkaaDoor
namespace Go.Proofs.YtodjaabcjojlkaaDoor
open Go.RowKit
namespace EW
open LX SX RW6 EX
open RX (Nd)
theorem z_drew {w:World} {Z:List Nat} (hz:∀ b∈Z,b < w.heap.size):∀ b∈Z,b < w.drew.heap.size:=hz
section
variable (w:World) {Z:List Nat} (q:Nat) (hz:∀ b∈Z,b < w.heap.size)
include hz
end
end EW
end Go.Proofs.YtodjaabcjojlkaaDoor
namespace Go.Proofs.YtodjaabcjojlkaaDoor
open Go.RowKit
namespace EW
open LX SX RW6 EX
open RX (Nd)
section
variable (w:World) {Z:List Nat} (q:Nat) (hz:∀ b∈Z,b < w.heap.size)
include hz
end
end EW
end Go.Proofs.YtodjaabcjojlkaaDoor
namespace Go.Proofs.YtodjaabcjojlkaaDoor
open Go.RowKit
namespace EW
open LX SX RW6 EX
open RX (Nd)
section
variable (w:World) {Z:List Nat} (q:Nat) (hz:∀ b∈Z,b < w.heap.size)
include hz
end
end EW
end Go.Proofs.YtodjaabcjojlkaaDoor
namespace Go.Proofs.YtodjaabcjojlkaaDoor
open Go.RowKit
namespace EW
open LX SX RW6 EX
open RX (Nd)
section
variable (w:World) {Z:List Nat} (q:Nat)
variable (hz:∀ b∈Z,b < w.heap.size)
include hz
end
end EW
end Go.Proofs.YtodjaabcjojlkaaDoor
namespace Go.Proofs.YtodjaabcjojlkaaDoor
open Go.RowKit
namespace EW
open LX SX RW6 EX
open RX (Nd)
section
variable {w0 w:World} {Z:List Nat} {q mb:Nat} {DA:Option Addr} {n c:Nat} {ns:List Nd}
end
end EW
end Go.Proofs.YtodjaabcjojlkaaDoor
namespace Go.Proofs.YtodjaabcjojlkaaDoor
open Go.RowKit
namespace EW
open LX SX RW6 EX
open RX (Nd)
theorem sl_some {w:World} {Z:List Nat} {A:Option Addr} {n c k:Nat} {vs:List Value} {u:Value} (h:Sl w Z (.slice A n c) vs) (hu:vs[k]? = some u):∃ g o,A=some ⟨g,o,none⟩:=by
  obtain ⟨A',c',e,_,_,h3⟩:=h;injection e with e1;obtain ⟨g,o,e2,_⟩:=h3 k u hu;exact ⟨g,o,e1.trans e2⟩
section
variable (w:World) {Z:List Nat} (q:Nat) (hz:∀ b∈Z,b < w.heap.size)
include hz
variable {ns:List Nd}
end
end EW
end Go.Proofs.YtodjaabcjojlkaaDoor
namespace Go.Proofs.YtodjaabcjojlkaaDoor
open Go.RowKit
namespace EW
open LX SX RW6 EX
open RX (Nd)
section
variable (w:World) {Z:List Nat} (q:Nat) (hz:∀ b∈Z,b < w.heap.size)
include hz
end
end EW
end Go.Proofs.YtodjaabcjojlkaaDoor
namespace Go.Proofs.YtodjaabcjojlkaaDoor
open Go.RowKit
namespace EW
open LX SX RW6 EX
open RX (Nd)
section
variable {w0 w:World} {Z:List Nat} {q mb:Nat} {DA:Option Addr} {n c:Nat} {ns:List Nd}
end
end EW
end Go.Proofs.YtodjaabcjojlkaaDoor
namespace Go.Proofs.YtodjaabcjojlkaaDoor
open Go.RowKit
namespace EW
open LX SX RW6 EX
open RX (Nd)
section
variable {w0 w:World} {Z:List Nat} {q mb:Nat} {DA:Option Addr} {n c:Nat} {ns:List Nd}
end
end EW
end Go.Proofs.YtodjaabcjojlkaaDoor
namespace Go.Proofs.YtodjaabcjojlkaaDoor
open Go.RowKit
namespace EW
open LX SX RW6 EX
open RX (Nd)
def letN (a:Int) (r vs:List Nat):Option (List ByteArray)→Pl
  | none=>.bad a
  | some names=>call a names (body a r) (vs.map .dat)
def letR (ns:List Nd) (a:Int) (r:List Nat):Option (List Nat × List Nat)→Pl
  | none=>.bad a
  | some (bs,vs)=>letN a r vs (namesOf ns bs)
theorem letP_eq (ns:List Nd) (a:Int) (x:Nat) (r:List Nat):letP ns a (x::r)=letR ns a r (pairsOf ns x):=by
  unfold letP letR;simp only [List.getD_cons_zero,List.drop_succ_cons,List.drop_zero]
  cases pairsOf ns x with
  | none=>rfl
  | some p =>
    obtain ⟨bs,vs⟩:=p;simp only []
    unfold letN;cases namesOf ns bs <;> rfl
section
variable {w0 w:World} {Z:List Nat} {q mb:Nat} {DA:Option Addr} {n c:Nat} {ns:List Nd}
end
end EW
end Go.Proofs.YtodjaabcjojlkaaDoor
namespace Go.Proofs.YtodjaabcjojlkaaDoor
open Go.RowKit
namespace EW
open LX SX RW6 EX
open RX (Nd)
def starN (a:Int) (r vs:List Nat):Option (List ByteArray)→Pl
  | none=>.bad a
  | some names=>nestedP a names vs (body a r)
def starR (ns:List Nd) (a:Int) (r:List Nat):Option (List Nat × List Nat)→Pl
  | none=>.bad a
  | some (bs,vs)=>starN a r vs (starG ns bs [])
theorem starP_eq (ns:List Nd) (a:Int) (x:Nat) (r:List Nat):starP ns a (x::r)=starR ns a r (pairsOf ns x):=by
  unfold starP starR;simp only [List.getD_cons_zero,List.drop_succ_cons,List.drop_zero]
  cases pairsOf ns x with
  | none=>rfl
  | some p =>
    obtain ⟨bs,vs⟩:=p;simp only []
    unfold starN;cases starG ns bs [] <;> rfl
section
variable {w0 w:World} {Z:List Nat} {q mb:Nat} {DA:Option Addr} {n c:Nat} {ns:List Nd}
end
end EW
end Go.Proofs.YtodjaabcjojlkaaDoor
namespace Go.Proofs.YtodjaabcjojlkaaDoor
open Go.RowKit
namespace EW
open LX SX RW6 EX
open RX (Nd)
open RM6 (Kin)
def aftO (n:Nat):List EX.Op→List EX.Op
  | []=>[]
  | o::os=>o.add n::os
def aftT (n:Nat) (os:List EX.Op) (tops:List Nat):List Nat:=match os with
  | []=>tops++[n]
  | _::_=>tops
section
variable {w0 w:World} {Z:List Nat} {q mb:Nat} {dv fv tv ov:Value} {rs:List (Fm × Value × Value)} {tops:List Nat} {os:List Pc}
end
end EW
end Go.Proofs.YtodjaabcjojlkaaDoor
namespace Go.Proofs.YtodjaabcjojlkaaDoor
open Go.RowKit
namespace EW
open LX SX RW6 EX
open RX (Nd)
open RM6 (Kin)
theorem aftO_len (n:Nat) (os:List EX.Op):(aftO n os).length=os.length:=by cases os <;> simp [aftO]
section
variable {w0 w:World} {Z:List Nat} {q mb:Nat} {dv fv tv ov:Value} {rs:List (Fm × Value × Value)} {tops:List Nat} {os:List Pc}
end
end EW
end Go.Proofs.YtodjaabcjojlkaaDoor
namespace Go.Proofs.YtodjaabcjojlkaaDoor
open Go.RowKit
namespace EW
open LX SX RW6 EX
open RX (Nd)
open RM6 (Kin)
def GoodN (ns:List Nd):Option Pt→Prop
  | none=>True
  | some p=>There ns p∧Wee 100000 p
section
variable {w0 w w1:World} {Z:List Nat} {q mb b:Nat} {dv fv tv hv ov:Value} {rs:List (Fm × Value × Value)} {tops:List Nat} {os:List Pc} {ex:List (Value × List Nat)}
end
structure Lie (w0:World) (DA:Option Addr) (n:Nat) (ns:List Nd):Prop where
  nd:NdR w0 DA ns
  len:ns.length=n
  str:∀ i,(ndAt ns i).s.size≤140737488355328
  ok:Ok ns
  few:∀ i,(ndAt ns i).l.length≤100000
end EW
end Go.Proofs.YtodjaabcjojlkaaDoor
namespace Go.Proofs.YtodjaabcjojlkaaDoor
open Go.RowKit
namespace EW
open LX SX RW6 EX
open RX (Nd)
open RM6 (Kin)
def inRange (N:Int) (zs:List Int):Bool:=zs.all fun z=>decide (0≤z∧z < N)
end EW
end Go.Proofs.YtodjaabcjojlkaaDoor
namespace Go.Proofs.YtodjaabcjojlkaaDoor
open Go.RowKit
namespace EW
open LX SX RW6 EX
open RX (Nd)
open RM6 (Kin)
structure DoneF (w0 w:World) (fv tv:Value) (rs:List (Fm × Value × Value)) (tops:List Nat):Prop where
  far:MM.Far [] w0 w
  row:w.ownsRow w0.heap.size 33 8 fv rs.length (fmC rs)
  kin:Kin w w0.heap.size ((tv,tops)::kinsF rs)
  nam:∀ x∈rs,Sl w [] x.2.1 (strs x.1.p)
theorem DoneF.to {w0 w w1:World} {fv tv:Value} {rs:List (Fm × Value × Value)} {tops:List Nat} (h:DoneF w0 w fv tv rs tops) (f:MM.Far [] w w1):DoneF w0 w1 fv tv rs tops :=
  ⟨h.far.trans f (by simp),MM.own_far h.row f (by simp),h.kin.far f (by simp),fun x hx=>(h.nam x hx).far f (by simp)⟩
theorem DoneF.from {w0 w1 w:World} {fv tv:Value} {rs:List (Fm × Value × Value)} {tops:List Nat} (h:DoneF w1 w fv tv rs tops) (f:MM.Far [] w0 w1):DoneF w0 w fv tv rs tops :=
  ⟨f.trans h.far (by simp),h.row.mono f.size,⟨fun k hk=>(h.kin.each k hk).mono f.size,h.kin.apart⟩,h.nam⟩
theorem Lie.to {w0 w1:World} {DA:Option Addr} {n:Nat} {ns:List Nd} (L:Lie w0 DA n ns) (f:MM.Far [] w0 w1):Lie w1 DA n ns:=⟨L.nd.far f,L.len,L.str,L.ok,L.few⟩
end EW
end Go.Proofs.YtodjaabcjojlkaaDoor
namespace Go.Proofs.YtodjaabcjojlkaaDoor
namespace EX
open LX RX SX
theorem ch_T {ns:List Nd} {P:Nat→Nat→Prop} (hP:∀ b c,P b c→T ns c+b=c+1∧b≤c) {a b:Nat} {l:List Nat} (h:Ch P a b l):(l.map (T ns)).sum+a=b∧a≤b:=by
  induction h with
  | nil=>simp
  | snoc k hp ih =>
    obtain ⟨h1,h2⟩:=hP _ _ hp;rw [List.map_append,List.sum_append,List.map_cons,List.map_nil,List.sum_cons,List.sum_nil];omega
theorem dat_T {ns:List Nd} (hok:Ok ns):∀ k b c,Dat ns k b c→T ns c+b=c+1∧b≤c:=by
  intro k;have leaf:∀ c x,ns[c]? = some x→Leaf x→T ns c=1:=fun c x hx hl=>by
    have hc:=(List.getElem?_eq_some_iff.1 hx).1;have e:ndAt ns c=x:=by
      unfold ndAt;rw [List.getD_eq_getElem?_getD,hx];rfl
    have hl2:x.l=[]:=by
      rcases hl with h | h | h
      · exact h.2.2.1
      · exact h.2.2.2
      · exact h.2.2.1
    rw [T_eq hok hc,e,hl2];simp
  induction k with
  | zero =>
    rintro b c ⟨rfl,x,h1,h2⟩;rw [leaf _ x h1 h2];omega
  | succ k ih =>
    rintro b c (⟨rfl,x,h1,h2⟩ | ⟨x,h1,h2,h3,h4,h5⟩)
    · rw [leaf _ x h1 h2];omega
    · have hc:=(List.getElem?_eq_some_iff.1 h1).1;have e:ndAt ns c=x:=by
        unfold ndAt;rw [List.getD_eq_getElem?_getD,h1];rfl
      have:=ch_T ih h5;rw [T_eq hok hc,e];omega
theorem sum_mem {l:List Nat} {f:Nat→Nat} {i:Nat} (h:i∈l):f i≤(l.map f).sum:=by
  induction l with
  | nil=>cases h
  | cons a l ih =>
    rw [List.map_cons,List.sum_cons]
    rcases List.mem_cons.1 h with rfl | h
    · omega
    · have:=ih h;omega
theorem read_T {s:ByteArray} {r:Rd} (h:read s = .ok r):(r.tops.map (T r.row)).sum=r.row.length:=by
  have:=ch_T (dat_T (read_ok_data h) 50) (read_dat h);omega
theorem read_tops_lt {s:ByteArray} {r:Rd} (h:read s = .ok r):∀ i∈r.tops,i < r.row.length:=fun _ hi=>(read_plain h).1.lt (.inl hi)
theorem sum_wt (ns:List Nd) (l:List Nat):(l.map fun i=>wt ns (.top i)).sum≤16*(l.map (T ns)).sum:=by
  induction l with
  | nil=>simp
  | cons a l ih =>
    rw [List.map_cons,List.sum_cons,List.map_cons,List.sum_cons];have:wt ns (.top a)=16*T ns a - 8:=rfl;omega
theorem read_len {s:ByteArray} {r:Rd} (h:read s = .ok r):r.row.length≤2*s.size:=by
  obtain ⟨ts,h1,h2,_⟩:=read_ok h;have hl:=lex_len h1;have:=tokens_bd ts (r:=⟨[],[],[]⟩) (n:=0) ⟨by simp,by simp,by simp⟩ h2;have h4:=this.sum;omega
end EX
end Go.Proofs.YtodjaabcjojlkaaDoor
namespace Go.Proofs.YtodjaabcjojlkaaDoor
open Go.RowKit
namespace EW
open LX SX RW6 EX
open RX (Nd Rd)
open RM6 (Kin ndC kinsN)
def zI (l:List Nat):List Int:=l.map fun n=>((n:Nat):Int)
theorem zI_nums (l:List Nat):(zI l).map num=ints l:=by unfold zI ints num;rw [List.map_map];rfl
theorem zI_back (l:List Nat):(zI l).map Int.toNat=l:=by
  unfold zI;rw [List.map_map];conv=>rhs;rw [← List.map_id l]
  exact List.map_congr_left (fun x _=>by simp)
theorem zI_len (l:List Nat):(zI l).length=l.length:=by unfold zI;rw [List.length_map]
theorem done_rows {w0 w:World} {rv tv:Value} {rs:List (Nd × Value)} {tops:List Nat} (h:Done w0 w rv tv rs tops):∃ A c,rv = .slice A rs.length c∧NdR w A (rs.map (·.1)):=by
  obtain ⟨A,c,rfl,k0,k1,k2,k3,hh⟩:=MO.form h.row;refine ⟨A,c,rfl,fun k hk=>?_⟩
  have hk2:k < rs.length:=by simpa using hk
  rcases hh with ⟨_,hz,_⟩ | ⟨g,rfl,_,hlt⟩
  · omega
  obtain ⟨LA,lc,e,l1,l2,_,hI⟩:=own_ints (h.kin.each (rs[k].2,rs[k].1.l) (by
    refine List.mem_cons_of_mem _ ?_
    unfold kinsN;exact List.mem_map.2 ⟨rs[k],List.getElem_mem hk2,rfl⟩))
  have c (j:Nat) (hj:j < 5) (u:Value) (hu:([.int .u8 rs[k].1.kind,.int .i64 rs[k].1.at_,.int .i64 rs[k].1.n,.string rs[k].1.s,rs[k].2]:List Value)[j]? = some u):w.cell? ⟨g,0+k*5+j,none⟩=some u:=by
    have:=@World.ownsRow.cells w _ _ _ _ _ _ h.row g rfl (k*5+j) u ((ndC_at rs k hk2 j hj).trans hu);rw [MM.head_add] at this;rw [Nat.zero_add];exact this
  have em:(rs.map (·.1))[k]=rs[k].1:=by simp
  rw [em];exact ⟨g,0,LA,lc,rfl,hlt,c 0 (by omega) _ rfl,c 1 (by omega) _ rfl,c 2 (by omega) _ rfl,c 3 (by omega) _ rfl,(c 4 (by omega) _ rfl).trans (congrArg some e),l1,l2,hI⟩
theorem NdR.row {w:World} {A:Option Addr} {ns:List Nd} (h:NdR w A ns):NdRow w A ns:=fun k hk=>by
  obtain ⟨b,o,LA,c,e,hb,c0,c1,c2,c3,c4,k1,k2,hI⟩:=h k hk;exact ⟨b,o,LA,c,e,hb,c0,c1,c2,c3,c4,hI⟩
theorem inRange_of {n:Nat} {l:List Nat} (h:∀ i∈l,i < n):inRange (n:Int) (zI l)=true:=by
  unfold inRange zI;rw [List.all_eq_true];intro z hz;obtain ⟨i,hi,rfl⟩:=List.mem_map.1 hz;have:=h i hi;exact decide_eq_true (by omega)
theorem ndAt_all {ns:List Nd} {Q:Nd→Prop} (h:∀ x∈ns,Q x) (h0:Q ⟨0,0,0,emp,[]⟩) (i:Nat):Q (ndAt ns i):=by
  unfold ndAt;rw [List.getD_eq_getElem?_getD];cases hx:ns[i]? with
  | none=>exact h0
  | some x=>exact h x (List.mem_of_getElem? hx)
def ofM (s:ByteArray):Except Int (List Fm × List Nat):=match RX.read s with
  | .error _=>.ok ([],[])
  | .ok r=>EX.expand r.row r.tops
end EW
end Go.Proofs.YtodjaabcjojlkaaDoor
namespace Go.Proofs.YtodjaabcjojlkaaDoor
open Go.RowKit
namespace EW
open LX SX RW6 EX
open RX (Nd Rd)
open RM6 (Kin)
def FmR (w:World) (A:Option Addr) (fs:List Fm):Prop :=
  ∀ (k:Nat) (h:k < fs.length),∃ b o PA pc LA lc,A=some ⟨b,o,none⟩∧b < w.heap.size∧w.cell? ⟨b,o+k*8,none⟩=some (.int .u8 fs[k].kind)∧w.cell? ⟨b,o+k*8+1,none⟩=some (.int .i64 fs[k].at_)∧w.cell? ⟨b,o+k*8+2,none⟩=some (.int .i64 fs[k].n) ∧
    w.cell? ⟨b,o+k*8+3,none⟩=some (.int .i64 0)∧w.cell? ⟨b,o+k*8+4,none⟩=some (.string fs[k].s)∧w.cell? ⟨b,o+k*8+5,none⟩=some (.slice PA fs[k].p.length pc)∧w.cell? ⟨b,o+k*8+6,none⟩=some (.int .u64 0) ∧
    w.cell? ⟨b,o+k*8+7,none⟩=some (.slice LA fs[k].l.length lc)∧Sl w [] (.slice PA fs[k].p.length pc) (strs fs[k].p)∧IntRow w LA fs[k].l
theorem FmR.far {w w':World} {A:Option Addr} {fs:List Fm} (h:FmR w A fs) (f:MM.Far [] w w'):FmR w' A fs:=by
  intro k hk;obtain ⟨b,o,PA,pc,LA,lc,e,hb,c0,c1,c2,c3,c4,c5,c6,c7,hP,hI⟩:=h k hk;have g (x:Nat):w'.cell? ⟨b,x,none⟩=w.cell? ⟨b,x,none⟩:=f.cell (p:=⟨b,x,none⟩) hb (by simp);exact ⟨b,o,PA,pc,LA,lc,e,Nat.lt_of_lt_of_le hb f.size,(g _).trans c0,(g _).trans c1,(g _).trans c2,(g _).trans c3,(g _).trans c4,(g _).trans c5,(g _).trans c6,(g _).trans c7,hP.far f (by simp),hI.far f⟩
theorem fmC_at:∀ (rs:List (Fm × Value × Value)) (k:Nat) (h:k < rs.length) (j:Nat) (_:j < 8),(fmC rs)[k*8+j]? = (fmL rs[k])[j]?:=by
  intro rs;induction rs with
  | nil=>intro k h;simp at h
  | cons x rs ih =>
    intro k h j hj;have e:fmC (x::rs)=fmL x++fmC rs:=by simp [fmC]
    have hl:(fmL x).length=8:=rfl;rw [e];cases k with
    | zero=>rw [Nat.zero_mul,Nat.zero_add,List.getElem?_append_left (by omega)];rfl
    | succ k =>
      rw [List.getElem?_append_right (by omega),hl];have:=ih k (by simpa using h) j hj;rw [show (k+1)*8+j - 8=k*8+j from by omega,this];rfl
theorem DoneF.rows {w0 w:World} {fv tv:Value} {rs:List (Fm × Value × Value)} {tops:List Nat} (h:DoneF w0 w fv tv rs tops):∃ A c,fv = .slice A rs.length c∧rs.length≤c∧c≤maxLen∧(A=none→c=0)∧FmR w A (rs.map (·.1)):=by
  obtain ⟨A,c,rfl,k0,k1,k2,k3,hh⟩:=MO.form h.row;refine ⟨A,c,rfl,k1,k2,k0,fun k hk=>?_⟩
  have hk2:k < rs.length:=by simpa using hk
  rcases hh with ⟨_,hz,_⟩ | ⟨g,rfl,_,hlt⟩
  · omega
  obtain ⟨LA,lc,e,l1,l2,_,hI⟩:=own_ints (h.kin.each (rs[k].2.2,rs[k].1.l) (by
    refine List.mem_cons_of_mem _ ?_
    unfold kinsF;exact List.mem_map.2 ⟨rs[k],List.getElem_mem hk2,rfl⟩))
  have hnam:=h.nam rs[k] (List.getElem_mem hk2);obtain ⟨PA,pc,ep,_⟩:=hnam.form;have c (j:Nat) (hj:j < 8) (u:Value) (hu:(fmL rs[k])[j]? = some u):w.cell? ⟨g,0+k*8+j,none⟩=some u:=by
    have:=@World.ownsRow.cells w _ _ _ _ _ _ h.row g rfl (k*8+j) u ((fmC_at rs k hk2 j hj).trans hu);rw [MM.head_add] at this;rw [Nat.zero_add];exact this
  have em:(rs.map (·.1))[k]=rs[k].1:=by simp
  rw [em];rw [strs_len] at ep;rw [ep] at hnam;exact ⟨g,0,PA,pc,LA,lc,rfl,hlt,c 0 (by omega) _ rfl,c 1 (by omega) _ rfl,c 2 (by omega) _ rfl,c 3 (by omega) _ rfl,c 4 (by omega) _ rfl,(c 5 (by omega) _ rfl).trans (congrArg some ep),c 6 (by omega) _ rfl,(c 7 (by omega) _ rfl).trans (congrArg some e),hnam,hI⟩
theorem DoneF.tops_row {w0 w:World} {fv tv:Value} {rs:List (Fm × Value × Value)} {tops:List Nat} (h:DoneF w0 w fv tv rs tops):∃ A c,tv = .slice A tops.length c∧tops.length≤c∧c≤maxLen∧(A=none→c=0)∧IntRow w A tops:=own_ints (h.kin.each (tv,tops) (List.mem_cons_self ..))
end EW
end Go.Proofs.YtodjaabcjojlkaaDoor
namespace Go.Proofs.YtodjaabcjojlkaaDoor
open Go.RowKit
namespace EW
open LX SX RW6 EX
open RX (Nd Rd)
def shownB:ByteArray:=⟨#[40,119,104,101,110,32,120,32,49,32,50,41]⟩
def shownF:List Fm:=[⟨4,6,0,⟨#[120]⟩,[],[]⟩,⟨1,8,1,emp,[],[]⟩,⟨1,10,2,emp,[],[]⟩,⟨8,0,0,emp,[],[1,2]⟩,⟨2,0,0,emp,[],[]⟩,⟨5,0,0,emp,[],[0,3,4]⟩]
theorem shown_of:ofM shownB = .ok (shownF,[5]):=by kernel_rfl
def n0:Value:=.slice none 0 0
end EW
end Go.Proofs.YtodjaabcjojlkaaDoor
namespace Go.Proofs.YtodjaabcjojlkaaDoor
open Go.RowKit
set_option linter.unusedVariables false
namespace EW
open LX SX RW6 EX
open RX (Nd Rd)
open RM6 (Kin)
theorem introw_of_sl {w:World} {Z:List Nat} {A:Option Addr} {n c:Nat} {l:List Nat} (h:Sl w Z (.slice A n c) (ints l)):IntRow w A l:=fun k hk=>by
  obtain ⟨A',c',e,_,_,k3⟩:=h;injection e with e1 e2 e3;obtain ⟨g,o,e',_,hl,hc⟩:=k3 k (.int .i64 ((l[k]:Nat):Int)) (by unfold ints;rw [List.getElem?_map,List.getElem?_eq_getElem hk];rfl);exact ⟨g,o,by rw [e1];exact e',hl,hc⟩
section
variable {w0 w w1:World} {E:List Nat} {q:Nat} {DA:Option Addr} {n c:Nat} {ns:List Nd} {dv fv:Value} {bad:Int} {rs:List (Fm × Value × Value)} {X:Except Int (List Fm)} {B:Nat}
theorem Rx.rows (h:Rx w0 w E q dv fv bad rs):∃ A c,fv = .slice A rs.length c∧FmR w A (rs.map (·.1)):=by
  obtain ⟨A,c,rfl,k0,k1,k2,k3,hh⟩:=MO.form h.row;refine ⟨A,c,rfl,fun k hk=>?_⟩
  have hk2:k < rs.length:=by simpa using hk
  rcases hh with ⟨_,hz,_⟩ | ⟨g,rfl,_,hlt⟩
  · omega
  obtain ⟨hp,hl⟩:=h.rd rs[k] (List.getElem_mem hk2);obtain ⟨PA,pc,ep,_⟩:=hp.form;obtain ⟨LA,lc,el,_⟩:=hl.form;have c (j:Nat) (hj:j < 8) (u:Value) (hu:(fmL rs[k])[j]? = some u):w.cell? ⟨g,0+k*8+j,none⟩=some u:=by
    have:=@World.ownsRow.cells w _ _ _ _ _ _ h.row g rfl (k*8+j) u ((fmC_at rs k hk2 j hj).trans hu);rw [MM.head_add] at this;rw [Nat.zero_add];exact this
  have em:(rs.map (·.1))[k]=rs[k].1:=by simp
  rw [em];rw [strs_len] at ep;rw [ints_len] at el;rw [ep] at hp;rw [el] at hl;exact ⟨g,0,PA,pc,LA,lc,rfl,hlt,c 0 (by omega) _ rfl,c 1 (by omega) _ rfl,c 2 (by omega) _ rfl,c 3 (by omega) _ rfl,c 4 (by omega) _ rfl,(c 5 (by omega) _ rfl).trans (congrArg some ep),c 6 (by omega) _ rfl,(c 7 (by omega) _ rfl).trans (congrArg some el),hp.more (fun b hb=>by cases hb),introw_of_sl hl⟩
theorem form_allD (D:Dta w0 DA n ns):∀ N,FormC w0 q DA n c ns N:=by
  intro N E w fv X B i top hi hN hB h;obtain ⟨b,o,rfl⟩:=h.dsome D hi;exact form_all D N E w fv X B i top hi hN hB h
theorem Dta.to (D:Dta w0 DA n ns) (f:MM.Far [] w0 w1):Dta w1 DA n ns:=⟨D.nd.far f,D.len,D.ok,D.s3,D.few,D.at0,D.leaf⟩
theorem Rx.start (w:World) (DA:Option Addr) (n c:Nat):Rx w (w.alloc (.cells #[.slice DA n c,.slice none 0 0,.int .i64 (-1)] 66)) [] w.heap.size (.slice DA n c) (.slice none 0 0) (-1) [] :=
  ⟨(MM.Far.refl [] w).alloc _,Nat.le_refl _,MM.Row.new w 66 [.slice DA n c,.slice none 0 0,.int .i64 (-1)],MO.none_ _ _ _ _,fun x hx=>absurd hx (by simp),fun b hb=>absurd hb (by simp)⟩
end
end EW
end Go.Proofs.YtodjaabcjojlkaaDoor
namespace Go.Proofs.YtodjaabcjojlkaaDoor
open Go.RowKit
set_option linter.unusedVariables false
namespace EX
open LX RX SX
theorem nodup_le3:∀ (n:Nat) (l:List Nat),l.Nodup→(∀ a∈l,a < n)→l.length≤n:=by
  intro n;induction n with
  | zero =>
    intro l _ h;cases l with
    | nil=>exact Nat.le_refl _
    | cons a l=>have:=h a (List.mem_cons_self ..);omega
  | succ n ih =>
    intro l hn h;have h1:=ih (l.erase n) (hn.erase n) (fun a ha=>by
      have h2:=(hn.mem_erase_iff).1 ha;have:=h a h2.2;have:=h2.1;omega)
    by_cases hm:n∈l
    · rw [List.length_erase_of_mem hm] at h1;omega
    · rw [List.erase_of_not_mem hm] at h1;omega
theorem wt_T (ns:List Nd) (i:Nat):wt ns (.top i)=16*T ns i - 8:=rfl
theorem may_ok {ns:List Ni} (h:may ns=true):∀ x∈ns,okF x.kind x.at_ x.n x.s x.l.length=true:=by
  intro x hx;obtain ⟨k,hk,rfl⟩:=List.getElem_of_mem hx;have:∀ (xs:List Ni) (i:Nat) (tk:List Bool),mayG xs i tk=true→∀ (k:Nat) (h:k < xs.length),okF xs[k].kind xs[k].at_ xs[k].n xs[k].s xs[k].l.length=true:=by
    intro xs;induction xs with
    | nil=>intro i tk _ k h;simp at h
    | cons x xs ih =>
      intro i tk h k hk;unfold mayG at h;split at h
      · cases h
      · rename_i hok;split at h
        · cases h
        · cases k with
          | zero=>simpa using hok
          | succ k=>exact ih _ _ h k (by simpa using hk)
  exact this ns 0 _ h k hk
theorem okF_at {kd at_ n:Int} {s:ByteArray} {len:Nat} (h:okF kd at_ n s len=true):0≤at_∧(kd≠3→s=emp)∧(kd≠4→len=0):=by
  unfold okF at h;by_cases h0:at_ < 0
  · rw [if_pos h0] at h;cases h
  rw [if_neg h0] at h;refine ⟨by omega,fun h3=>?_,fun h4=>?_⟩
  · by_cases h1:kd=1
    · rw [if_pos h1] at h;simp only [Bool.and_eq_true,decide_eq_true_eq] at h
      exact EW.size_zero h.1
    rw [if_neg h1] at h;by_cases h2:kd=2
    · rw [if_pos h2] at h;simp only [Bool.and_eq_true,decide_eq_true_eq] at h
      exact EW.size_zero h.1.2
    rw [if_neg h2,if_neg h3] at h;by_cases h4:kd=4
    · rw [if_pos h4] at h;simp only [Bool.and_eq_true,decide_eq_true_eq] at h
      exact EW.size_zero h.2
    rw [if_neg h4] at h;cases h
  · by_cases h1:kd=1
    · rw [if_pos h1] at h;simp only [Bool.and_eq_true,decide_eq_true_eq] at h
      exact h.2
    rw [if_neg h1] at h;by_cases h2:kd=2
    · rw [if_pos h2] at h;simp only [Bool.and_eq_true,decide_eq_true_eq] at h
      exact h.2
    rw [if_neg h2] at h;by_cases h3:kd=3
    · rw [if_pos h3] at h;simp only [Bool.and_eq_true,decide_eq_true_eq] at h
      exact h.2
    rw [if_neg h3,if_neg h4] at h;cases h
end EX
namespace EW
open LX SX RW6 EX
open RX (Nd Rd)
open RM6 (Kin)
theorem dta_of {w:World} {DA:Option Addr} {n:Nat} {ns:List Nd} (hN:NdR w DA ns) (hn:ns.length=n) (hok:Ok ns) (hm:RX.may (ns.map RX.toI)=true) (hl:∀ x∈ns,x.l.length≤100000):Dta w DA n ns:=by
  have h1:∀ x∈ns,0≤x.at_∧(x.kind≠3→x.s=emp)∧(x.kind≠4→x.l=[]):=fun x hx=>by
    have:=okF_at (may_ok hm (RX.toI x) (List.mem_map_of_mem hx));refine ⟨this.1,this.2.1,fun h4=>List.eq_nil_of_length_eq_zero ?_⟩
    have h5:=this.2.2 h4;simpa [RX.toI] using h5
  exact ⟨hN,hn,hok,fun i=>ndAt_all (Q:=fun x=>x.kind≠3→x.s=emp) (fun x hx=>(h1 x hx).2.1) (fun _=>rfl) i,fun i=>ndAt_all (Q:=fun x=>x.l.length≤100000) hl (by simp) i,
    fun i=>ndAt_all (Q:=fun x=>0≤x.at_) (fun x hx=>(h1 x hx).1) (by simp) i,fun i=>ndAt_all (Q:=fun x=>x.kind≠4→x.l=[]) (fun x hx=>(h1 x hx).2.2) (fun _=>rfl) i⟩
end EW
end Go.Proofs.YtodjaabcjojlkaaDoor
