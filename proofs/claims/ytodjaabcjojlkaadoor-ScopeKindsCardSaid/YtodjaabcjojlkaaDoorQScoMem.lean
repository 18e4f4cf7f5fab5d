/-
  Several texts in one: ScoBnd,ScoMem.
-/
import Derived.Test.YtodjaabcjojlkaaDoorQScoRf
import Derived.Test.YtodjaabcjojlkaaDoorQNamesAll
import Derived.Test.YtodjaabcjojlkaaDoorQReadMems
import Derived.Test.YtodjaabcjojlkaaDoorQScoNam
import Derived.Test.YtodjaabcjojlkaaDoorQScoMap
namespace Go.Proofs.YtodjaabcjojlkaaDoor
namespace SC
open LX RX SX EX
structure Bd where
  name:ByteArray
  lev:Nat
  pl:Nat
  hid:Nat
def innF:List Bd→Nat→Nat→ByteArray→Nat
  | [],_,m,_=>m
  | b::l,i,m,s=>innF l (i+1) (if b.name=s then i+1 else m) s
def inn (row:List Bd) (s:ByteArray):Nat:=innF row 0 0 s
theorem innF_snoc:∀ (row:List Bd) (i m:Nat) (s:ByteArray) (b:Bd),innF (row++[b]) i m s=if b.name=s then i+row.length+1 else innF row i m s:=by
  intro row;induction row with
  | nil=>intro i m s b;simp [innF]
  | cons x row ih =>
    intro i m s b;rw [List.cons_append,innF,ih,innF,List.length_cons];split <;> (try rfl)
    omega
theorem inn_snoc (row:List Bd) (s:ByteArray) (b:Bd):inn (row++[b]) s=if b.name=s then row.length+1 else inn row s:=by
  unfold inn;rw [innF_snoc,Nat.zero_add]
def one1 (row:List Bd) (lev:Nat) (s:ByteArray) (i:Nat):Bd:=⟨s,lev,i,inn row s⟩
def addB (row:List Bd) (lev:Nat):List ByteArray→Nat→List Bd
  | [],_=>row
  | s::l,i=>addB (row++[one1 row lev s i]) lev l (i+1)
def bnd:Rws→List Bd
  | []=>[]
  | r::R=>addB (bnd R) R.length r 0
theorem addB_snoc (lev:Nat) (s:ByteArray):∀ (l:List ByteArray) (row:List Bd) (i:Nat),addB row lev (l++[s]) i=addB row lev l i++[one1 (addB row lev l i) lev s (i+l.length)]:=by
  intro l;induction l with
  | nil=>intro row i;rfl
  | cons x l ih =>
    intro row i;rw [List.cons_append,addB,ih,addB,List.length_cons,show i+1+l.length=i+(l.length+1) by omega]
theorem addB_len (lev:Nat):∀ (l:List ByteArray) (row:List Bd) (i:Nat),(addB row lev l i).length=row.length+l.length:=by
  intro l;induction l with
  | nil=>intro row i;rfl
  | cons x l ih=>intro row i;rw [addB,ih,List.length_append,List.length_cons,List.length_cons,List.length_nil];omega
theorem addB_app (lev:Nat):∀ (l:List ByteArray) (row:List Bd) (i:Nat),∃ m,addB row lev l i=row++m∧m.length=l.length:=by
  intro l;induction l with
  | nil=>intro row i;exact ⟨[],by simp [addB],rfl⟩
  | cons x l ih =>
    intro row i;obtain ⟨m,e,h⟩:=ih (row++[one1 row lev x i]) (i+1);exact ⟨one1 row lev x i::m,by rw [addB,e];simp,by simp [h]⟩
theorem bnd_take (r:List ByteArray) (R:Rws):(bnd (r::R)).take (bnd R).length=bnd R∧(bnd (r::R)).length=(bnd R).length+r.length:=by
  obtain ⟨m,e,h⟩:=addB_app R.length r (bnd R) 0;rw [show bnd (r::R)=addB (bnd R) R.length r 0 from rfl,e];exact ⟨by simp,by simp [h]⟩
def HidOk (row:List Bd):Prop:=∀ (k:Nat) (h:k < row.length),row[k].hid=inn (row.take k) row[k].name
theorem hid_snoc {row:List Bd} (h:HidOk row) (lev:Nat) (s:ByteArray) (i:Nat):HidOk (row++[one1 row lev s i]):=by
  intro k hk;rw [List.length_append] at hk;by_cases hlt:k < row.length
  · rw [List.getElem_append_left hlt,List.take_append_of_le_length (by omega)];exact h k hlt
  · have e:k=row.length:=by simp at hk;omega
    subst e;rw [List.getElem_append_right (Nat.le_refl _)];simp [one1]
theorem addB_hid (lev:Nat):∀ (l:List ByteArray) (row:List Bd) (i:Nat),HidOk row→HidOk (addB row lev l i):=by
  intro l;induction l with
  | nil=>intro row i h;exact h
  | cons x l ih=>intro row i h;exact ih _ _ (hid_snoc h lev x i)
theorem bnd_hid:∀ R:Rws,HidOk (bnd R)
  | []=>fun k h=>absurd h (by simp [bnd])
  | r::R=>addB_hid _ _ _ _ (bnd_hid R)
theorem inn_take {row:List Bd} (h:HidOk row) {k:Nat} (hk:k < row.length) (s:ByteArray):(if s=row[k].name then row[k].hid else inn (row.take (k+1)) s)=inn (row.take k) s:=by
  rw [List.take_add_one,List.getElem?_eq_getElem hk];simp only [Option.toList]
  rw [inn_snoc,h k hk];by_cases e:s=row[k].name
  · rw [if_pos e,e]
  · rw [if_neg e,if_neg (fun e2=>e e2.symm)]
theorem addB_find (lev:Nat) (s:ByteArray):∀ (l:List ByteArray) (row:List Bd) (i:Nat),l.Nodup →
    (s∉l→inn (addB row lev l i) s=inn row s)∧(s∈l→inn (addB row lev l i) s=row.length+l.idxOf s+1∧∃ hd,(addB row lev l i)[row.length+l.idxOf s]? = some ⟨s,lev,i+l.idxOf s,hd⟩):=by
  intro l;induction l with
  | nil=>intro row i _;exact ⟨fun _=>rfl,fun h=>by cases h⟩
  | cons x l ih =>
    intro row i hn;obtain ⟨hx,hl⟩:=List.nodup_cons.1 hn;obtain ⟨g1,g2⟩:=ih (row++[one1 row lev x i]) (i+1) hl;rw [addB];refine ⟨fun hs=>?_,fun hs=>?_⟩
    · rw [g1 (fun h=>hs (List.mem_cons_of_mem _ h)),inn_snoc];exact if_neg (fun e=>hs (by rw [← show x=s from e];exact List.mem_cons_self ..))
    · by_cases e:x=s
      · subst e;rw [g1 hx,inn_snoc,List.idxOf_cons_self];refine ⟨if_pos rfl,inn row x,?_⟩
        obtain ⟨m,em,_⟩:=addB_app lev l (row++[one1 row lev x i]) (i+1);rw [em];simp [one1]
      · have hs2:s∈l:=(List.mem_cons.1 hs).elim (fun h=>absurd h.symm e) id;obtain ⟨k1,hd,k2⟩:=g2 hs2;have ei:(x::l).idxOf s=l.idxOf s+1:=by
          rw [List.idxOf_cons];have:(x == s)=false:=by simpa using e
          rw [this];rfl
        rw [ei];rw [List.length_append,List.length_singleton] at k1 k2;exact ⟨by rw [k1];omega,hd,by rw [show row.length+(l.idxOf s+1)=row.length+1+l.idxOf s by omega,k2,show i+1+l.idxOf s=i+(l.idxOf s+1) by omega]⟩
theorem wher_inn (s:ByteArray):∀ (R:Rws),(∀ r∈R,r.Nodup)→match wher R s with
    | none=>inn (bnd R) s=0
    | some (a,n)=>a < R.length∧∃ k hd,inn (bnd R) s=k+1∧(bnd R)[k]? = some ⟨s,R.length - 1 - a,n,hd⟩:=by
  intro R;induction R with
  | nil=>intro _;rfl
  | cons r R ih =>
    intro hn;obtain ⟨g1,g2⟩:=addB_find R.length s r (bnd R) 0 (hn r (List.mem_cons_self ..));have ih:=ih (fun x hx=>hn x (List.mem_cons_of_mem _ hx));unfold wher;by_cases hs:s∈r
    · rw [if_pos hs];obtain ⟨k1,hd,k2⟩:=g2 hs;refine ⟨by simp,(bnd R).length+r.idxOf s,hd,k1,?_⟩
      show (addB (bnd R) R.length r 0)[_]? = _
      rw [k2];simp
    · rw [if_neg hs];have e:=g1 hs;generalize hw:wher R s=o at ih;cases o with
      | none=>exact e.trans ih
      | some y =>
        obtain ⟨a,n⟩:=y;obtain ⟨ha,k,hd,h1,h2⟩:=ih;refine ⟨by simp;omega,k,hd,e.trans h1,?_⟩
        obtain ⟨m,em,_⟩:=addB_app R.length r (bnd R) 0;show (addB (bnd R) R.length r 0)[k]? = _
        rw [em,List.getElem?_append_left (List.getElem?_eq_some_iff.1 h2).1,h2];congr 2
        rw [List.length_cons];omega
theorem innF_le:∀ (row:List Bd) (i m:Nat) (s:ByteArray),m≤i→innF row i m s≤i+row.length:=by
  intro row;induction row with
  | nil=>intro i m s h;exact h
  | cons b l ih =>
    intro i m s h;rw [innF,List.length_cons];have:=ih (i+1) (if b.name=s then i+1 else m) s (by split <;> omega);omega
theorem inn_le (row:List Bd) (s:ByteArray):inn row s≤row.length:=by
  have:=innF_le row 0 0 s (Nat.le_refl _);unfold inn;omega
def sumR (R:Rws):Nat:=(R.map (·.length)).sum
theorem bnd_len:∀ R:Rws,(bnd R).length=sumR R
  | []=>rfl
  | r::R=>by
    rw [(bnd_take r R).2,bnd_len R];simp [sumR];omega
end SC
end Go.Proofs.YtodjaabcjojlkaaDoor
namespace Go.Proofs.YtodjaabcjojlkaaDoor
open Go.RowKit
set_option linter.unusedVariables false
namespace SM
open LX RW6 EX SC
open EW (Sl Bx ptr num strs)
open RX (Nd)
open RM6 (Kin)
inductive Ip (w:World) (Z:List Nat) (q:Nat):Value→Sp→Prop where
  | form {bx bi i:Nat} (h1:Bx w Z bx 69 (ptr q)) (h2:Bx w Z bi 3 (num i)):Ip w Z q (.func (.func 51) #[] #[ptr bx,ptr bi]) (.form i)
  | qd {bx ba bl:Nat} {a:Int} {v:Value} {i:Nat} {l:List Nat} (h1:Bx w Z bx 69 (ptr q)) (h2:Bx w Z ba 3 (num a)) (h3:Bx w Z bl 24 v) (h4:Sl w Z v (ints (i::l))) :
      Ip w Z q (.func (.func 82) #[] #[ptr bx,ptr ba,ptr bl]) (.qd a i)
  | ql {bx ba bl:Nat} {a:Int} {v:Value} {i:Nat} {l:List Nat} (h1:Bx w Z bx 69 (ptr q)) (h2:Bx w Z ba 3 (num a)) (h3:Bx w Z bl 24 v) (h4:Sl w Z v (ints (i::l))) :
      Ip w Z q (.func (.func 83) #[] #[ptr bx,ptr ba,ptr bl]) (.ql a l)
section
variable {w w':World} {Z Z' S:List Nat} {q:Nat} {v:Value} {p:Sp}
theorem Ip.far (h:Ip w Z q v p) (f:MM.Far S w w') (hS:∀ b∈S,b < w.heap.size→b∈Z):Ip w' Z q v p:=by
  cases h with
  | form h1 h2=>exact .form (h1.far f hS) (h2.far f hS)
  | qd h1 h2 h3 h4=>exact .qd (h1.far f hS) (h2.far f hS) (h3.far f hS) (h4.far f hS)
  | ql h1 h2 h3 h4=>exact .ql (h1.far f hS) (h2.far f hS) (h3.far f hS) (h4.far f hS)
theorem Ip.more (h:Ip w Z q v p) (hZ:∀ b∈Z',b∈Z∨w.heap.size≤b):Ip w Z' q v p:=by
  cases h with
  | form h1 h2=>exact .form (h1.more hZ) (h2.more hZ)
  | qd h1 h2 h3 h4=>exact .qd (h1.more hZ) (h2.more hZ) (h3.more hZ) (h4.more hZ)
  | ql h1 h2 h3 h4=>exact .ql (h1.more hZ) (h2.more hZ) (h3.more hZ) (h4.more hZ)
theorem Ip.func (h:Ip w Z q v p):∃ f l,v = .func (.func f) #[] l:=by
  cases h <;> exact ⟨_,_,rfl⟩
end
def Ips (w:World) (Z:List Nat) (q:Nat) (vs:List Value) (ps:List Sp):Prop:=vs.length=ps.length∧∀ (k:Nat) (v:Value) (p:Sp),vs[k]? = some v→ps[k]? = some p→Ip w Z q v p
section
variable {w w':World} {Z Z' S:List Nat} {q:Nat} {v:Value} {p:Sp} {vs:List Value} {ps:List Sp}
theorem Ips.far (h:Ips w Z q vs ps) (f:MM.Far S w w') (hS:∀ b∈S,b < w.heap.size→b∈Z):Ips w' Z q vs ps:=⟨h.1,fun k v p h1 h2=>(h.2 k v p h1 h2).far f hS⟩
theorem Ips.more (h:Ips w Z q vs ps) (hZ:∀ b∈Z',b∈Z∨w.heap.size≤b):Ips w Z' q vs ps:=⟨h.1,fun k v p h1 h2=>(h.2 k v p h1 h2).more hZ⟩
theorem Ips.nil (w:World) (Z:List Nat) (q:Nat):Ips w Z q [] []:=⟨rfl,fun k v p h=>by simp at h⟩
theorem Ips.cons (h:Ip w Z q v p) (hs:Ips w Z q vs ps):Ips w Z q (v::vs) (p::ps):=⟨by simp [hs.1],fun k x y h1 h2=>by
  cases k with
  | zero=>simp at h1 h2;subst h1;subst h2;exact h
  | succ k=>exact hs.2 k x y (by simpa using h1) (by simpa using h2)⟩
theorem Ips.snoc (hs:Ips w Z q vs ps) (h:Ip w Z q v p):Ips w Z q (vs++[v]) (ps++[p]):=⟨by simp [hs.1],fun k x y h1 h2=>by
  have hl:=hs.1
  rcases Nat.lt_trichotomy k vs.length with hk | hk | hk
  · rw [List.getElem?_append_left hk] at h1;rw [List.getElem?_append_left (by omega)] at h2;exact hs.2 k x y h1 h2
  · rw [List.getElem?_append_right (by omega),hk,Nat.sub_self] at h1;rw [List.getElem?_append_right (by omega),show k - ps.length=0 by omega] at h2;simp at h1 h2;subst h1;subst h2;exact h
  · rw [List.getElem?_append_right (by omega),List.getElem?_eq_none (by simp;omega)] at h1;cases h1⟩
end
def snV (e:Int) (f:Rf) (parts:Value):Value:=.agg #[.int .i64 e,.int .u8 f.kind,num f.at_,num f.n,num f.a,.string f.s,.slice none 0 0,.int .u64 f.w,.slice none 0 0,parts]
def snL (e:Int) (f:Rf) (parts:Value):List Value:=[.int .i64 e,.int .u8 f.kind,num f.at_,num f.n,num f.a,.string f.s,.slice none 0 0,.int .u64 f.w,.slice none 0 0,parts]
def badF (a:Int):Rf:=⟨0,a,0,0,emp,0,[]⟩
def Isn (w:World) (Z:List Nat) (q:Nat) (v:Value):Sn→Prop
  | .bad a e=>v=snV e (badF a) (.slice none 0 0)∧e≠0
  | .mk f _ ps=>f.l=[]∧∃ parts vs,v=snV 0 f parts∧Sl w Z parts vs∧Ips w Z q vs ps
section
variable {w w':World} {Z Z' S:List Nat} {q:Nat} {v:Value} {sn:Sn}
theorem Isn.far (h:Isn w Z q v sn) (f:MM.Far S w w') (hS:∀ b∈S,b < w.heap.size→b∈Z):Isn w' Z q v sn:=by
  cases sn with
  | bad a e=>exact h
  | mk fm R ps =>
    obtain ⟨h0,parts,vs,e,h2,h3⟩:=h;exact ⟨h0,parts,vs,e,h2.far f hS,h3.far f hS⟩
theorem Isn.more (h:Isn w Z q v sn) (hZ:∀ b∈Z',b∈Z∨w.heap.size≤b):Isn w Z' q v sn:=by
  cases sn with
  | bad a e=>exact h
  | mk fm R ps =>
    obtain ⟨h0,parts,vs,e,h2,h3⟩:=h;exact ⟨h0,parts,vs,e,h2.more hZ,h3.more hZ⟩
theorem Isn.form (h:Isn w Z q v sn):∃ e f A m c,v=snV e f (.slice A m c)∧f.l=[]:=by
  cases sn with
  | bad a e=>exact ⟨_,_,_,_,_,h.1,rfl⟩
  | mk fm R ps =>
    obtain ⟨h0,parts,vs,rfl,h2,h3⟩:=h;obtain ⟨A2,c2,rfl,_⟩:=h2.form;exact ⟨_,_,_,_,_,rfl,h0⟩
end
def SnQ (w:World) (Z:List Nat) (q:Nat) (sn:Sn) (e:Ending) (w':World):Prop:=∃ v,e = .returned v∧Isn w' Z q v sn∧MM.Far [] w w'
theorem sn_size (W:World):(sizeOf 100).run Tryd.prog W = .ok 10 W:=by kernel_rfl
theorem sn_agg (W:World):(isAgg 100).run Tryd.prog W = .ok true W:=by kernel_rfl
theorem run_loadSn {w:World} {b:Nat} {e:Int} {f:Rf} {parts:Value} (hR:MM.Row w b 100 (snL e f parts)):(loadVar 100 ⟨b,0,none⟩).run Tryd.prog w = .ok (snV e f parts) w:=by
  have hl:=run_loadCellsFrom (P:=Tryd.prog) (w:=w) ⟨b,0,none⟩ (fun j=>(snL e f parts).getD j undef) 10 0 #[] (fun j hj=>by
    rw [MM.head_add];refine hR.at ?_
    rw [List.getD_eq_getElem?_getD,Nat.zero_add,List.getElem?_eq_getElem (by simpa [snL] using hj)];rfl)
  simp only [loadVar,Sem.run_bind,sn_agg,sn_size,Result.andThen,if_true,loadCells]
  rw [hl];rfl
theorem bodyPost_sn {fn:Func} {a:Act} {w:World} {post:Ending→World→Prop} {b t:Nat} {e:Int} {f:Rf} {parts:Value} (hr:fn.results=#[.cell t 100]) (ha:a.tmps.getD t undef = .pointer (some ⟨b,0,none⟩)) (hd:a.defers=[])
    (hR:MM.Row w b 100 (snL e f parts)) (h:post (.returned (snV e f parts)) w):bodyPost Tryd.prog fn post .ret a w:=by
  refine bodyPost_ret (v:=snV e f parts) ?_ hd h
  have ha2:a.tmps[t]?.getD undef = .pointer (some ⟨b,0,none⟩):=by rw [← Array.getD_eq_getD_getElem?];exact ha
  simp only [results,hr]
  simp [ha2,asAddr,run_loadSn hR]
abbrev setSn (w:World) (b:Nat) (e kind at_ n a:Int) (s:ByteArray) (wd:Int) (parts:Value):World :=
  (((((((((w.setCell ⟨b,0,none⟩ (.int .i64 e)).setCell ⟨b,1,none⟩ (.int .u8 kind)).setCell ⟨b,2,none⟩ (.int .i64 at_)).setCell ⟨b,3,none⟩ (.int .i64 n)).setCell ⟨b,4,none⟩ (.int .i64 a)).setCell ⟨b,5,none⟩ (.string s)).setCell ⟨b,6,none⟩ (.slice none 0 0)).setCell ⟨b,7,none⟩ (.int .u64 wd)).setCell ⟨b,8,none⟩ (.slice none 0 0)).setCell ⟨b,9,none⟩ parts
theorem far_setSn (w:World) (b:Nat) (e kind at_ n a:Int) (s:ByteArray) (wd:Int) (parts:Value):MM.Far [b] w (setSn w b e kind at_ n a s wd parts) :=
  (((((((((((MM.Far.refl [b] w).setCell (p:=⟨b,0,none⟩) (by simp) _).setCell (p:=⟨b,1,none⟩) (by simp) _).setCell (p:=⟨b,2,none⟩) (by simp) _).setCell (p:=⟨b,3,none⟩) (by simp) _).setCell (p:=⟨b,4,none⟩) (by simp) _).setCell (p:=⟨b,5,none⟩) (by simp) _).setCell (p:=⟨b,6,none⟩) (by simp) _).setCell (p:=⟨b,7,none⟩) (by simp) _).setCell (p:=⟨b,8,none⟩) (by simp) _).setCell (p:=⟨b,9,none⟩) (by simp) _)
structure SnBox (w:World) (b:Nat):Prop where
  row:∃ v0 v1 v2 v3 v4 v5 v6 v7 v8 v9,MM.Row w b 100 [v0,v1,v2,v3,v4,v5,v6,v7,v8,v9]
abbrev zS:Obj:=.cells #[.int .i64 0,.int .u8 0,.int .i64 0,.int .i64 0,.int .i64 0,.string ⟨#[]⟩,.slice none 0 0,.int .u64 0,.slice none 0 0,.slice none 0 0] 100
theorem SnBox.far {S:List Nat} {w w':World} {b:Nat} (h:SnBox w b) (f:MM.Far S w w') (hb:b∉S):SnBox w' b:=by
  obtain ⟨v0,v1,v2,v3,v4,v5,v6,v7,v8,v9,h⟩:=h.row;exact ⟨v0,v1,v2,v3,v4,v5,v6,v7,v8,v9,h.far f hb⟩
theorem SnBox.new {w:World} {k:Nat} (hk:w.heap.size=k):SnBox (w.alloc zS) k:=⟨_,_,_,_,_,_,_,_,_,_,by subst hk;exact MM.Row.new w 100 [.int .i64 0,.int .u8 0,.int .i64 0,.int .i64 0,.int .i64 0,.string ⟨#[]⟩,.slice none 0 0,.int .u64 0,.slice none 0 0,.slice none 0 0]⟩
theorem SnBox.lt {w:World} {b:Nat} (h:SnBox w b):b < w.heap.size:=by
  obtain ⟨v0,v1,v2,v3,v4,v5,v6,v7,v8,v9,h⟩:=h.row;exact h.lt
theorem SnBox.cells {w:World} {b:Nat} (h:SnBox w b):∃ v0 v1 v2 v3 v4 v5 v6 v7 v8 v9,w.cell? ⟨b,0,none⟩=some v0∧w.cell? ⟨b,1,none⟩=some v1∧w.cell? ⟨b,2,none⟩=some v2∧w.cell? ⟨b,3,none⟩=some v3∧w.cell? ⟨b,4,none⟩=some v4 ∧
    w.cell? ⟨b,5,none⟩=some v5∧w.cell? ⟨b,6,none⟩=some v6∧w.cell? ⟨b,7,none⟩=some v7∧w.cell? ⟨b,8,none⟩=some v8∧w.cell? ⟨b,9,none⟩=some v9∧∀ i,w.frozen? ⟨b,i,none⟩=false:=by
  obtain ⟨v0,v1,v2,v3,v4,v5,v6,v7,v8,v9,h⟩:=h.row;exact ⟨v0,v1,v2,v3,v4,v5,v6,v7,v8,v9,h.at (i:=0) rfl,h.at (i:=1) rfl,h.at (i:=2) rfl,h.at (i:=3) rfl,h.at (i:=4) rfl,h.at (i:=5) rfl,h.at (i:=6) rfl,h.at (i:=7) rfl,h.at (i:=8) rfl,h.at (i:=9) rfl,h.frozen⟩
theorem SnBox.set {w:World} {b:Nat} (h:SnBox w b) (e kind at_ n a:Int) (s:ByteArray) (wd:Int) (parts:Value):MM.Row (setSn w b e kind at_ n a s wd parts) b 100 [.int .i64 e,.int .u8 kind,.int .i64 at_,.int .i64 n,.int .i64 a,.string s,.slice none 0 0,.int .u64 wd,.slice none 0 0,parts]:=by
  obtain ⟨v0,v1,v2,v3,v4,v5,v6,v7,v8,v9,h⟩:=h.row;exact (((((((((h.put 0 (.int .i64 e)).put 1 (.int .u8 kind)).put 2 (.int .i64 at_)).put 3 (.int .i64 n)).put 4 (.int .i64 a)).put 5 (.string s)).put 6 (.slice none 0 0)).put 7 (.int .u64 wd)).put 8 (.slice none 0 0)).put 9 parts
theorem fin_sn {fn:Func} {a:Act} {w w1:World} {Z:List Nat} {q b t:Nat} {sn:Sn} {e kind at_ n aa wd:Int} {s:ByteArray} {parts:Value} (hr:fn.results=#[.cell t 100]) (ha:a.tmps.getD t undef = .pointer (some ⟨b,0,none⟩)) (hd:a.defers=[])
    (hB:SnBox w1 b) (hF:MM.Far [] w w1) (hb:w.heap.size≤b) (h:Isn w1 (b::Z) q (snV e ⟨kind,at_,n,aa,s,wd,[]⟩ parts) sn) :
    bodyPost Tryd.prog fn (SnQ w Z q sn) .ret a (setSn w1 b e kind at_ n aa s wd parts):=by
  refine bodyPost_sn (f:=⟨kind,at_,n,aa,s,wd,[]⟩) hr ha hd (hB.set e kind at_ n aa s wd parts) ⟨_,rfl,?_,?_⟩
  · exact (h.far (far_setSn w1 b e kind at_ n aa s wd parts) (by simp)).more (fun x hx=>.inl (List.mem_cons_of_mem _ hx))
  · exact hF.trans (far_setSn w1 b e kind at_ n aa s wd parts) (fun x hx hl=>by
      have:x=b:=by simpa using hx
      omega)
end SM
end Go.Proofs.YtodjaabcjojlkaaDoor
