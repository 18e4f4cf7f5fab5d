/-
  Several texts in one: ScoBnd,ScoMem,ScoSt.
-/
import Derived.Test.YtkcgbhlnkfogeaaGreatDoorQScoMach
import Derived.Test.YtkcgbhlnkfogeaaGreatDoorQNamesAll
import Derived.Test.YtkcgbhlnkfogeaaGreatDoorQReadMems
import Derived.Test.YtkcgbhlnkfogeaaGreatDoorQScoMap
namespace Go.Proofs.YtkcgbhlnkfogeaaGreatDoor
namespace SC
open LX RX SX EX
structure Bd where
  name:ByteArray
  lev:Nat
  pl:Nat
  hid:Nat
def innF:List Bd→Nat→Nat→ByteArray→Nat
  | [],_,m,_=>m
  | b::l,i,m,s=>innF l (i+1) (if b.name=s then i+1 else m) s
def inn (row:List Bd) (s:ByteArray):Nat:=innF row 0 0 s
theorem innF_snoc:∀ (row:List Bd) (i m:Nat) (s:ByteArray) (b:Bd),innF (row++[b]) i m s=if b.name=s then i+row.length+1 else innF row i m s:=by
  intro row;induction row with
  | nil=>intro i m s b;simp [innF]
  | cons x row ih =>
    intro i m s b;rw [List.cons_append,innF,ih,innF,List.length_cons];split <;> (try rfl)
    omega
theorem inn_snoc (row:List Bd) (s:ByteArray) (b:Bd):inn (row++[b]) s=if b.name=s then row.length+1 else inn row s:=by
  unfold inn;rw [innF_snoc,Nat.zero_add]
def one1 (row:List Bd) (lev:Nat) (s:ByteArray) (i:Nat):Bd:=⟨s,lev,i,inn row s⟩
def addB (row:List Bd) (lev:Nat):List ByteArray→Nat→List Bd
  | [],_=>row
  | s::l,i=>addB (row++[one1 row lev s i]) lev l (i+1)
def bnd:Rws→List Bd
  | []=>[]
  | r::R=>addB (bnd R) R.length r 0
theorem addB_snoc (lev:Nat) (s:ByteArray):∀ (l:List ByteArray) (row:List Bd) (i:Nat),addB row lev (l++[s]) i=addB row lev l i++[one1 (addB row lev l i) lev s (i+l.length)]:=by
  intro l;induction l with
  | nil=>intro row i;rfl
  | cons x l ih =>
    intro row i;rw [List.cons_append,addB,ih,addB,List.length_cons,show i+1+l.length=i+(l.length+1) by omega]
theorem addB_len (lev:Nat):∀ (l:List ByteArray) (row:List Bd) (i:Nat),(addB row lev l i).length=row.length+l.length:=by
  intro l;induction l with
  | nil=>intro row i;rfl
  | cons x l ih=>intro row i;rw [addB,ih,List.length_append,List.length_cons,List.length_cons,List.length_nil];omega
theorem addB_app (lev:Nat):∀ (l:List ByteArray) (row:List Bd) (i:Nat),∃ m,addB row lev l i=row++m∧m.length=l.length:=by
  intro l;induction l with
  | nil=>intro row i;exact ⟨[],by simp [addB],rfl⟩
  | cons x l ih =>
    intro row i;obtain ⟨m,e,h⟩:=ih (row++[one1 row lev x i]) (i+1);exact ⟨one1 row lev x i::m,by rw [addB,e];simp,by simp [h]⟩
theorem bnd_take (r:List ByteArray) (R:Rws):(bnd (r::R)).take (bnd R).length=bnd R∧(bnd (r::R)).length=(bnd R).length+r.length:=by
  obtain ⟨m,e,h⟩:=addB_app R.length r (bnd R) 0;rw [show bnd (r::R)=addB (bnd R) R.length r 0 from rfl,e];exact ⟨by simp,by simp [h]⟩
def HidOk (row:List Bd):Prop:=∀ (k:Nat) (h:k < row.length),row[k].hid=inn (row.take k) row[k].name
theorem hid_snoc {row:List Bd} (h:HidOk row) (lev:Nat) (s:ByteArray) (i:Nat):HidOk (row++[one1 row lev s i]):=by
  intro k hk;rw [List.length_append] at hk;by_cases hlt:k < row.length
  · rw [List.getElem_append_left hlt,List.take_append_of_le_length (by omega)];exact h k hlt
  · have e:k=row.length:=by simp at hk;omega
    subst e;rw [List.getElem_append_right (Nat.le_refl _)];simp [one1]
theorem addB_hid (lev:Nat):∀ (l:List ByteArray) (row:List Bd) (i:Nat),HidOk row→HidOk (addB row lev l i):=by
  intro l;induction l with
  | nil=>intro row i h;exact h
  | cons x l ih=>intro row i h;exact ih _ _ (hid_snoc h lev x i)
theorem bnd_hid:∀ R:Rws,HidOk (bnd R)
  | []=>fun k h=>absurd h (by simp [bnd])
  | r::R=>addB_hid _ _ _ _ (bnd_hid R)
theorem inn_take {row:List Bd} (h:HidOk row) {k:Nat} (hk:k < row.length) (s:ByteArray):(if s=row[k].name then row[k].hid else inn (row.take (k+1)) s)=inn (row.take k) s:=by
  rw [List.take_add_one,List.getElem?_eq_getElem hk];simp only [Option.toList]
  rw [inn_snoc,h k hk];by_cases e:s=row[k].name
  · rw [if_pos e,e]
  · rw [if_neg e,if_neg (fun e2=>e e2.symm)]
theorem addB_find (lev:Nat) (s:ByteArray):∀ (l:List ByteArray) (row:List Bd) (i:Nat),l.Nodup →
    (s∉l→inn (addB row lev l i) s=inn row s)∧(s∈l→inn (addB row lev l i) s=row.length+l.idxOf s+1∧∃ hd,(addB row lev l i)[row.length+l.idxOf s]? = some ⟨s,lev,i+l.idxOf s,hd⟩):=by
  intro l;induction l with
  | nil=>intro row i _;exact ⟨fun _=>rfl,fun h=>by cases h⟩
  | cons x l ih =>
    intro row i hn;obtain ⟨hx,hl⟩:=List.nodup_cons.1 hn;obtain ⟨g1,g2⟩:=ih (row++[one1 row lev x i]) (i+1) hl;rw [addB];refine ⟨fun hs=>?_,fun hs=>?_⟩
    · rw [g1 (fun h=>hs (List.mem_cons_of_mem _ h)),inn_snoc];exact if_neg (fun e=>hs (by rw [← show x=s from e];exact List.mem_cons_self ..))
    · by_cases e:x=s
      · subst e;rw [g1 hx,inn_snoc,List.idxOf_cons_self];refine ⟨if_pos rfl,inn row x,?_⟩
        obtain ⟨m,em,_⟩:=addB_app lev l (row++[one1 row lev x i]) (i+1);rw [em];simp [one1]
      · have hs2:s∈l:=(List.mem_cons.1 hs).elim (fun h=>absurd h.symm e) id;obtain ⟨k1,hd,k2⟩:=g2 hs2;have ei:(x::l).idxOf s=l.idxOf s+1:=by
          rw [List.idxOf_cons];have:(x == s)=false:=by simpa using e
          rw [this];rfl
        rw [ei];rw [List.length_append,List.length_singleton] at k1 k2;exact ⟨by rw [k1];omega,hd,by rw [show row.length+(l.idxOf s+1)=row.length+1+l.idxOf s by omega,k2,show i+1+l.idxOf s=i+(l.idxOf s+1) by omega]⟩
theorem wher_inn (s:ByteArray):∀ (R:Rws),(∀ r∈R,r.Nodup)→match wher R s with
    | none=>inn (bnd R) s=0
    | some (a,n)=>a < R.length∧∃ k hd,inn (bnd R) s=k+1∧(bnd R)[k]? = some ⟨s,R.length - 1 - a,n,hd⟩:=by
  intro R;induction R with
  | nil=>intro _;rfl
  | cons r R ih =>
    intro hn;obtain ⟨g1,g2⟩:=addB_find R.length s r (bnd R) 0 (hn r (List.mem_cons_self ..));have ih:=ih (fun x hx=>hn x (List.mem_cons_of_mem _ hx));unfold wher;by_cases hs:s∈r
    · rw [if_pos hs];obtain ⟨k1,hd,k2⟩:=g2 hs;refine ⟨by simp,(bnd R).length+r.idxOf s,hd,k1,?_⟩
      show (addB (bnd R) R.length r 0)[_]? = _
      rw [k2];simp
    · rw [if_neg hs];have e:=g1 hs;generalize hw:wher R s=o at ih;cases o with
      | none=>exact e.trans ih
      | some y =>
        obtain ⟨a,n⟩:=y;obtain ⟨ha,k,hd,h1,h2⟩:=ih;refine ⟨by simp;omega,k,hd,e.trans h1,?_⟩
        obtain ⟨m,em,_⟩:=addB_app R.length r (bnd R) 0;show (addB (bnd R) R.length r 0)[k]? = _
        rw [em,List.getElem?_append_left (List.getElem?_eq_some_iff.1 h2).1,h2];congr 2
        rw [List.length_cons];omega
theorem innF_le:∀ (row:List Bd) (i m:Nat) (s:ByteArray),m≤i→innF row i m s≤i+row.length:=by
  intro row;induction row with
  | nil=>intro i m s h;exact h
  | cons b l ih =>
    intro i m s h;rw [innF,List.length_cons];have:=ih (i+1) (if b.name=s then i+1 else m) s (by split <;> omega);omega
theorem inn_le (row:List Bd) (s:ByteArray):inn row s≤row.length:=by
  have:=innF_le row 0 0 s (Nat.le_refl _);unfold inn;omega
def sumR (R:Rws):Nat:=(R.map (·.length)).sum
theorem bnd_len:∀ R:Rws,(bnd R).length=sumR R
  | []=>rfl
  | r::R=>by
    rw [(bnd_take r R).2,bnd_len R];simp [sumR];omega
end SC
end Go.Proofs.YtkcgbhlnkfogeaaGreatDoor
namespace Go.Proofs.YtkcgbhlnkfogeaaGreatDoor
open Go.RowKit
set_option linter.unusedVariables false
namespace SM
open LX RW6 EX SC
open EW (Sl Bx ptr num strs)
open RX (Nd)
open RM6 (Kin)
inductive Ip (w:World) (Z:List Nat) (q:Nat):Value→Sp→Prop where
  | form {bx bi i:Nat} (h1:Bx w Z bx 94 (ptr q)) (h2:Bx w Z bi 3 (num i)):Ip w Z q (.func (.func 106) #[] #[ptr bx,ptr bi]) (.form i)
  | qd {bx ba bl:Nat} {a:Int} {v:Value} {i:Nat} {l:List Nat} (h1:Bx w Z bx 94 (ptr q)) (h2:Bx w Z ba 3 (num a)) (h3:Bx w Z bl 24 v) (h4:Sl w Z v (ints (i::l))) :
      Ip w Z q (.func (.func 199) #[] #[ptr bx,ptr ba,ptr bl]) (.qd a i)
  | ql {bx ba bl:Nat} {a:Int} {v:Value} {i:Nat} {l:List Nat} (h1:Bx w Z bx 94 (ptr q)) (h2:Bx w Z ba 3 (num a)) (h3:Bx w Z bl 24 v) (h4:Sl w Z v (ints (i::l))) :
      Ip w Z q (.func (.func 200) #[] #[ptr bx,ptr ba,ptr bl]) (.ql a l)
section
variable {w w':World} {Z Z' S:List Nat} {q:Nat} {v:Value} {p:Sp}
theorem Ip.far (h:Ip w Z q v p) (f:MM.Far S w w') (hS:∀ b∈S,b < w.heap.size→b∈Z):Ip w' Z q v p:=by
  cases h with
  | form h1 h2=>exact .form (h1.far f hS) (h2.far f hS)
  | qd h1 h2 h3 h4=>exact .qd (h1.far f hS) (h2.far f hS) (h3.far f hS) (h4.far f hS)
  | ql h1 h2 h3 h4=>exact .ql (h1.far f hS) (h2.far f hS) (h3.far f hS) (h4.far f hS)
theorem Ip.more (h:Ip w Z q v p) (hZ:∀ b∈Z',b∈Z∨w.heap.size≤b):Ip w Z' q v p:=by
  cases h with
  | form h1 h2=>exact .form (h1.more hZ) (h2.more hZ)
  | qd h1 h2 h3 h4=>exact .qd (h1.more hZ) (h2.more hZ) (h3.more hZ) (h4.more hZ)
  | ql h1 h2 h3 h4=>exact .ql (h1.more hZ) (h2.more hZ) (h3.more hZ) (h4.more hZ)
theorem Ip.func (h:Ip w Z q v p):∃ f l,v = .func (.func f) #[] l:=by
  cases h <;> exact ⟨_,_,rfl⟩
end
def Ips (w:World) (Z:List Nat) (q:Nat) (vs:List Value) (ps:List Sp):Prop:=vs.length=ps.length∧∀ (k:Nat) (v:Value) (p:Sp),vs[k]? = some v→ps[k]? = some p→Ip w Z q v p
section
variable {w w':World} {Z Z' S:List Nat} {q:Nat} {v:Value} {p:Sp} {vs:List Value} {ps:List Sp}
theorem Ips.far (h:Ips w Z q vs ps) (f:MM.Far S w w') (hS:∀ b∈S,b < w.heap.size→b∈Z):Ips w' Z q vs ps:=⟨h.1,fun k v p h1 h2=>(h.2 k v p h1 h2).far f hS⟩
theorem Ips.more (h:Ips w Z q vs ps) (hZ:∀ b∈Z',b∈Z∨w.heap.size≤b):Ips w Z' q vs ps:=⟨h.1,fun k v p h1 h2=>(h.2 k v p h1 h2).more hZ⟩
theorem Ips.nil (w:World) (Z:List Nat) (q:Nat):Ips w Z q [] []:=⟨rfl,fun k v p h=>by simp at h⟩
theorem Ips.cons (h:Ip w Z q v p) (hs:Ips w Z q vs ps):Ips w Z q (v::vs) (p::ps):=⟨by simp [hs.1],fun k x y h1 h2=>by
  cases k with
  | zero=>simp at h1 h2;subst h1;subst h2;exact h
  | succ k=>exact hs.2 k x y (by simpa using h1) (by simpa using h2)⟩
theorem Ips.snoc (hs:Ips w Z q vs ps) (h:Ip w Z q v p):Ips w Z q (vs++[v]) (ps++[p]):=⟨by simp [hs.1],fun k x y h1 h2=>by
  have hl:=hs.1
  rcases Nat.lt_trichotomy k vs.length with hk | hk | hk
  · rw [List.getElem?_append_left hk] at h1;rw [List.getElem?_append_left (by omega)] at h2;exact hs.2 k x y h1 h2
  · rw [List.getElem?_append_right (by omega),hk,Nat.sub_self] at h1;rw [List.getElem?_append_right (by omega),show k - ps.length=0 by omega] at h2;simp at h1 h2;subst h1;subst h2;exact h
  · rw [List.getElem?_append_right (by omega),List.getElem?_eq_none (by simp;omega)] at h1;cases h1⟩
end
def snV (e:Int) (f:Rf) (parts:Value):Value:=.agg #[.int .i64 e,.int .u8 f.kind,num f.at_,num f.n,num f.a,.string f.s,.slice none 0 0,.int .u64 f.w,.slice none 0 0,parts]
def snL (e:Int) (f:Rf) (parts:Value):List Value:=[.int .i64 e,.int .u8 f.kind,num f.at_,num f.n,num f.a,.string f.s,.slice none 0 0,.int .u64 f.w,.slice none 0 0,parts]
def badF (a:Int):Rf:=⟨0,a,0,0,emp,0,[]⟩
def Isn (w:World) (Z:List Nat) (q:Nat) (v:Value):Sn→Prop
  | .bad a e=>v=snV e (badF a) (.slice none 0 0)∧e≠0
  | .mk f _ ps=>f.l=[]∧∃ parts vs,v=snV 0 f parts∧Sl w Z parts vs∧Ips w Z q vs ps
section
variable {w w':World} {Z Z' S:List Nat} {q:Nat} {v:Value} {sn:Sn}
theorem Isn.far (h:Isn w Z q v sn) (f:MM.Far S w w') (hS:∀ b∈S,b < w.heap.size→b∈Z):Isn w' Z q v sn:=by
  cases sn with
  | bad a e=>exact h
  | mk fm R ps =>
    obtain ⟨h0,parts,vs,e,h2,h3⟩:=h;exact ⟨h0,parts,vs,e,h2.far f hS,h3.far f hS⟩
theorem Isn.more (h:Isn w Z q v sn) (hZ:∀ b∈Z',b∈Z∨w.heap.size≤b):Isn w Z' q v sn:=by
  cases sn with
  | bad a e=>exact h
  | mk fm R ps =>
    obtain ⟨h0,parts,vs,e,h2,h3⟩:=h;exact ⟨h0,parts,vs,e,h2.more hZ,h3.more hZ⟩
theorem Isn.form (h:Isn w Z q v sn):∃ e f A m c,v=snV e f (.slice A m c)∧f.l=[]:=by
  cases sn with
  | bad a e=>exact ⟨_,_,_,_,_,h.1,rfl⟩
  | mk fm R ps =>
    obtain ⟨h0,parts,vs,rfl,h2,h3⟩:=h;obtain ⟨A2,c2,rfl,_⟩:=h2.form;exact ⟨_,_,_,_,_,rfl,h0⟩
end
def SnQ (w:World) (Z:List Nat) (q:Nat) (sn:Sn) (e:Ending) (w':World):Prop:=∃ v,e = .returned v∧Isn w' Z q v sn∧MM.Far [] w w'
theorem sn_size (W:World):(sizeOf 145).run Tryz.prog W = .ok 10 W:=by kernel_rfl
theorem sn_agg (W:World):(isAgg 145).run Tryz.prog W = .ok true W:=by kernel_rfl
theorem run_loadSn {w:World} {b:Nat} {e:Int} {f:Rf} {parts:Value} (hR:MM.Row w b 145 (snL e f parts)):(loadVar 145 ⟨b,0,none⟩).run Tryz.prog w = .ok (snV e f parts) w:=by
  have hl:=run_loadCellsFrom (P:=Tryz.prog) (w:=w) ⟨b,0,none⟩ (fun j=>(snL e f parts).getD j undef) 10 0 #[] (fun j hj=>by
    rw [MM.head_add];refine hR.at ?_
    rw [List.getD_eq_getElem?_getD,Nat.zero_add,List.getElem?_eq_getElem (by simpa [snL] using hj)];rfl)
  simp only [loadVar,Sem.run_bind,sn_agg,sn_size,Result.andThen,if_true,loadCells]
  rw [hl];rfl
theorem bodyPost_sn {fn:Func} {a:Act} {w:World} {post:Ending→World→Prop} {b t:Nat} {e:Int} {f:Rf} {parts:Value} (hr:fn.results=#[.cell t 145]) (ha:a.tmps.getD t undef = .pointer (some ⟨b,0,none⟩)) (hd:a.defers=[])
    (hR:MM.Row w b 145 (snL e f parts)) (h:post (.returned (snV e f parts)) w):bodyPost Tryz.prog fn post .ret a w:=by
  refine bodyPost_ret (v:=snV e f parts) ?_ hd h
  have ha2:a.tmps[t]?.getD undef = .pointer (some ⟨b,0,none⟩):=by rw [← Array.getD_eq_getD_getElem?];exact ha
  simp only [results,hr]
  simp [ha2,asAddr,run_loadSn hR]
abbrev setSn (w:World) (b:Nat) (e kind at_ n a:Int) (s:ByteArray) (wd:Int) (parts:Value):World :=
  (((((((((w.setCell ⟨b,0,none⟩ (.int .i64 e)).setCell ⟨b,1,none⟩ (.int .u8 kind)).setCell ⟨b,2,none⟩ (.int .i64 at_)).setCell ⟨b,3,none⟩ (.int .i64 n)).setCell ⟨b,4,none⟩ (.int .i64 a)).setCell ⟨b,5,none⟩ (.string s)).setCell ⟨b,6,none⟩ (.slice none 0 0)).setCell ⟨b,7,none⟩ (.int .u64 wd)).setCell ⟨b,8,none⟩ (.slice none 0 0)).setCell ⟨b,9,none⟩ parts
theorem far_setSn (w:World) (b:Nat) (e kind at_ n a:Int) (s:ByteArray) (wd:Int) (parts:Value):MM.Far [b] w (setSn w b e kind at_ n a s wd parts) :=
  (((((((((((MM.Far.refl [b] w).setCell (p:=⟨b,0,none⟩) (by simp) _).setCell (p:=⟨b,1,none⟩) (by simp) _).setCell (p:=⟨b,2,none⟩) (by simp) _).setCell (p:=⟨b,3,none⟩) (by simp) _).setCell (p:=⟨b,4,none⟩) (by simp) _).setCell (p:=⟨b,5,none⟩) (by simp) _).setCell (p:=⟨b,6,none⟩) (by simp) _).setCell (p:=⟨b,7,none⟩) (by simp) _).setCell (p:=⟨b,8,none⟩) (by simp) _).setCell (p:=⟨b,9,none⟩) (by simp) _)
structure SnBox (w:World) (b:Nat):Prop where
  row:∃ v0 v1 v2 v3 v4 v5 v6 v7 v8 v9,MM.Row w b 145 [v0,v1,v2,v3,v4,v5,v6,v7,v8,v9]
abbrev zS:Obj:=.cells #[.int .i64 0,.int .u8 0,.int .i64 0,.int .i64 0,.int .i64 0,.string ⟨#[]⟩,.slice none 0 0,.int .u64 0,.slice none 0 0,.slice none 0 0] 145
theorem SnBox.far {S:List Nat} {w w':World} {b:Nat} (h:SnBox w b) (f:MM.Far S w w') (hb:b∉S):SnBox w' b:=by
  obtain ⟨v0,v1,v2,v3,v4,v5,v6,v7,v8,v9,h⟩:=h.row;exact ⟨v0,v1,v2,v3,v4,v5,v6,v7,v8,v9,h.far f hb⟩
theorem SnBox.new {w:World} {k:Nat} (hk:w.heap.size=k):SnBox (w.alloc zS) k:=⟨_,_,_,_,_,_,_,_,_,_,by subst hk;exact MM.Row.new w 145 [.int .i64 0,.int .u8 0,.int .i64 0,.int .i64 0,.int .i64 0,.string ⟨#[]⟩,.slice none 0 0,.int .u64 0,.slice none 0 0,.slice none 0 0]⟩
theorem SnBox.lt {w:World} {b:Nat} (h:SnBox w b):b < w.heap.size:=by
  obtain ⟨v0,v1,v2,v3,v4,v5,v6,v7,v8,v9,h⟩:=h.row;exact h.lt
theorem SnBox.cells {w:World} {b:Nat} (h:SnBox w b):∃ v0 v1 v2 v3 v4 v5 v6 v7 v8 v9,w.cell? ⟨b,0,none⟩=some v0∧w.cell? ⟨b,1,none⟩=some v1∧w.cell? ⟨b,2,none⟩=some v2∧w.cell? ⟨b,3,none⟩=some v3∧w.cell? ⟨b,4,none⟩=some v4 ∧
    w.cell? ⟨b,5,none⟩=some v5∧w.cell? ⟨b,6,none⟩=some v6∧w.cell? ⟨b,7,none⟩=some v7∧w.cell? ⟨b,8,none⟩=some v8∧w.cell? ⟨b,9,none⟩=some v9∧∀ i,w.frozen? ⟨b,i,none⟩=false:=by
  obtain ⟨v0,v1,v2,v3,v4,v5,v6,v7,v8,v9,h⟩:=h.row;exact ⟨v0,v1,v2,v3,v4,v5,v6,v7,v8,v9,h.at (i:=0) rfl,h.at (i:=1) rfl,h.at (i:=2) rfl,h.at (i:=3) rfl,h.at (i:=4) rfl,h.at (i:=5) rfl,h.at (i:=6) rfl,h.at (i:=7) rfl,h.at (i:=8) rfl,h.at (i:=9) rfl,h.frozen⟩
theorem SnBox.set {w:World} {b:Nat} (h:SnBox w b) (e kind at_ n a:Int) (s:ByteArray) (wd:Int) (parts:Value):MM.Row (setSn w b e kind at_ n a s wd parts) b 145 [.int .i64 e,.int .u8 kind,.int .i64 at_,.int .i64 n,.int .i64 a,.string s,.slice none 0 0,.int .u64 wd,.slice none 0 0,parts]:=by
  obtain ⟨v0,v1,v2,v3,v4,v5,v6,v7,v8,v9,h⟩:=h.row;exact (((((((((h.put 0 (.int .i64 e)).put 1 (.int .u8 kind)).put 2 (.int .i64 at_)).put 3 (.int .i64 n)).put 4 (.int .i64 a)).put 5 (.string s)).put 6 (.slice none 0 0)).put 7 (.int .u64 wd)).put 8 (.slice none 0 0)).put 9 parts
theorem fin_sn {fn:Func} {a:Act} {w w1:World} {Z:List Nat} {q b t:Nat} {sn:Sn} {e kind at_ n aa wd:Int} {s:ByteArray} {parts:Value} (hr:fn.results=#[.cell t 145]) (ha:a.tmps.getD t undef = .pointer (some ⟨b,0,none⟩)) (hd:a.defers=[])
    (hB:SnBox w1 b) (hF:MM.Far [] w w1) (hb:w.heap.size≤b) (h:Isn w1 (b::Z) q (snV e ⟨kind,at_,n,aa,s,wd,[]⟩ parts) sn) :
    bodyPost Tryz.prog fn (SnQ w Z q sn) .ret a (setSn w1 b e kind at_ n aa s wd parts):=by
  refine bodyPost_sn (f:=⟨kind,at_,n,aa,s,wd,[]⟩) hr ha hd (hB.set e kind at_ n aa s wd parts) ⟨_,rfl,?_,?_⟩
  · exact (h.far (far_setSn w1 b e kind at_ n aa s wd parts) (by simp)).more (fun x hx=>.inl (List.mem_cons_of_mem _ hx))
  · exact hF.trans (far_setSn w1 b e kind at_ n aa s wd parts) (fun x hx hl=>by
      have:x=b:=by simpa using hx
      omega)
end SM
end Go.Proofs.YtkcgbhlnkfogeaaGreatDoor
namespace Go.Proofs.YtkcgbhlnkfogeaaGreatDoor
open Go.RowKit
set_option linter.unusedVariables false
namespace SM
open LX RW6 EX SC
open EW (Sl Bx ptr num strs)
open RX (Nd)
open RM6 (Kin)
structure Hd where
  dv:Value
  lv:Value
  dm:Value
  fv:Value
  tv:Value
  hv:Value
def hdL (h:Hd) (g lev:Nat) (bv im:Value):List Value:=[h.dv,h.lv,ptr g,h.dm,num lev,bv,im,h.fv,h.tv,h.hv]
def bdL (b:Bd):List Value:=[.string b.name,num b.lev,num b.pl,num b.hid]
def bdC (row:List Bd):List Value:=row.flatMap bdL
theorem bdC_snoc (row:List Bd) (b:Bd):bdC (row++[b])=bdC row++bdL b:=by simp [bdC]
theorem bdC_take:∀ (row:List Bd) (k:Nat),(bdC row).take (k*4)=bdC (row.take k):=by
  intro row;induction row with
  | nil=>intro k;simp [bdC]
  | cons x r ih =>
    intro k;cases k with
    | zero=>simp [bdC]
    | succ k =>
      have e:bdC (x::r)=bdL x++bdC r:=by simp [bdC]
      have hl:(bdL x).length=4:=rfl;rw [e,List.take_succ_cons,show bdC (x::r.take k)=bdL x++bdC (r.take k) by simp [bdC],List.take_append,hl,show (k+1)*4 - 4=k*4 by omega,ih,List.take_of_length_le (by omega)]
theorem bdC_at:∀ (row:List Bd) (k:Nat) (h:k < row.length) (j:Nat) (_:j < 4),(bdC row)[k*4+j]? = (bdL row[k])[j]?:=by
  intro row;induction row with
  | nil=>intro k h;simp at h
  | cons x rs ih =>
    intro k h j hj;have e:bdC (x::rs)=bdL x++bdC rs:=by simp [bdC]
    have hl:(bdL x).length=4:=rfl;rw [e];cases k with
    | zero=>rw [Nat.zero_mul,Nat.zero_add,List.getElem?_append_left (by omega)];rfl
    | succ k =>
      rw [List.getElem?_append_right (by omega),hl];have:=ih k (by simpa using h) j hj;rw [show (k+1)*4+j - 4=k*4+j from by omega,this];rfl
structure Sb (w0 w:World) (Y:List Nat) (q g:Nat) (h:Hd) (own:ByteArray→Nat) (lev:Nat) (row:List Bd) (c:ByteArray→Nat) (N:List ByteArray) (bv im mv sv:Value) (S:List Nat):Prop where
  far:MM.Far [] w0 w
  head:MM.Row w q 101 (hdL h g lev bv im)
  bind:w.ownsRow w0.heap.size 249 4 bv row.length (bdC row)
  map:MapV w im c
  nm:NW.Nm w g S N mv sv
  dfd:MapV w h.dm own
  low:∀ b∈Y,w0.heap.size≤b
  lt:∀ b∈Y,b < w.heap.size
  yq:q∈Y
  yb:∀ b,bv.ownBlock=some b→b∈Y
  ym:∀ b,im = .map (some b)→b∈Y
  ys:∀ b∈S,b∈Y
  yd:∀ b,h.dm = .map (some b)→b∉Y∧b < w.heap.size
  sx:∀ b∈S,b≠q∧bv.ownBlock≠some b∧im≠.map (some b)
structure Yto (w:World) (Y Y':List Nat):Prop where
  sub:∀ b∈Y,b∈Y'
  new:∀ b∈Y',b∈Y∨w.heap.size≤b
theorem Yto.refl (w:World) (Y:List Nat):Yto w Y Y:=⟨fun _ h=>h,fun _ h=>.inl h⟩
theorem Yto.of {w w1:World} {Y Y' Y2:List Nat} (h:Yto w Y Y') (k:Yto w1 Y' Y2) (hs:w.heap.size≤w1.heap.size):Yto w Y Y2 :=
  ⟨fun b hb=>k.sub b (h.sub b hb),fun b hb=>by
    rcases k.new b hb with h1 | h1
    · exact h.new b h1
    · exact .inr (by omega)⟩
theorem far_y {S Y Y':List Nat} {w w1 w2:World} (f:MM.Far Y w w1) (zt:Yto w Y Y') (g:MM.Far S w1 w2) (hS:∀ b∈S,b < w1.heap.size→b∈Y'):MM.Far Y w w2 :=
  f.trans g (fun b hb hl=>by
    rcases zt.new b (hS b hb (Nat.lt_of_lt_of_le hl f.size)) with h | h
    · exact h
    · omega)
theorem cellF (w:World) (g i:Nat) (u:Value):MM.Far [g] w (w.setCell ⟨g,i,none⟩ u):=(MM.Far.refl [g] w).setCell (by simp) u
theorem lowF {S:List Nat} {w0 w w1:World} (h:MM.Far S w w1) (f:MM.Far [] w0 w) (hS:∀ b∈S,w0.heap.size≤b):MM.Far [] w0 w1:=f.trans h (fun b hb hl=>by have:=hS b hb;omega)
section
variable {w0 w w1:World} {Y S:List Nat} {q g:Nat} {h:Hd} {own:ByteArray→Nat} {lev:Nat} {row:List Bd} {c:ByteArray→Nat} {N:List ByteArray} {bv im mv sv:Value}
theorem Sb.off {T:List Nat} (s:Sb w0 w Y q g h own lev row c N bv im mv sv S) (f:MM.Far T w w1) (hT:∀ b∈T,b∉Y∧w0.heap.size≤b∧h.dm≠.map (some b)):Sb w0 w1 Y q g h own lev row c N bv im mv sv S :=
  ⟨lowF f s.far (fun b hb=>(hT b hb).2.1),s.head.far f (fun hm=>(hT _ hm).1 s.yq),MM.own_far s.bind f (fun b hb hm=>(hT _ hm).1 (s.yb b hb)),s.map.far f (fun b e hm=>(hT _ hm).1 (s.ym b e)),s.nm.far f (fun b hb hm=>(hT _ hm).1 (s.ys b hb)),
    s.dfd.far f (fun b e hm=>(hT _ hm).2.2 e),s.low,fun b hb=>Nat.lt_of_lt_of_le (s.lt b hb) f.size,s.yq,s.yb,s.ym,s.ys,fun b e=>⟨(s.yd b e).1,Nat.lt_of_lt_of_le (s.yd b e).2 f.size⟩,s.sx⟩
theorem Sb.to (s:Sb w0 w Y q g h own lev row c N bv im mv sv S) (f:MM.Far [] w w1):Sb w0 w1 Y q g h own lev row c N bv im mv sv S:=s.off f (fun b hb=>by cases hb)
theorem Sb.cell {h':Hd} {lev':Nat} {bv':Value} (s:Sb w0 w Y q g h own lev row c N bv im mv sv S) (i:Nat) (u:Value) (he:(hdL h g lev bv im).set i u=hdL h' g lev' bv' im) (hd:h'.dm=h.dm) (row':List Bd)
    (hb:(w.setCell ⟨q,i,none⟩ u).ownsRow w0.heap.size 249 4 bv' row'.length (bdC row')) (hbb:bv'.ownBlock=bv.ownBlock):Sb w0 (w.setCell ⟨q,i,none⟩ u) Y q g h' own lev' row' c N bv' im mv sv S:=by
  have f:=cellF w q i u;have hq:∀ b,b≠q→b∉[q]:=fun b hb hm=>hb (by simpa using hm)
  refine ⟨lowF f s.far (fun b hb=>by rw [List.mem_singleton.1 hb];exact s.low _ s.yq),by rw [← he];exact s.head.put i u,hb,s.map.far f (fun b e=>hq b (fun e2=>?_)),s.nm.far f (fun b hb=>hq b (s.sx b hb).1),?_,s.low,fun b hb=>Nat.lt_of_lt_of_le (s.lt b hb) f.size,s.yq,fun b hb=>s.yb b (hbb ▸ hb),s.ym,s.ys,fun b e=>?_,fun b hb=>⟨(s.sx b hb).1,hbb ▸ (s.sx b hb).2.1,(s.sx b hb).2.2⟩⟩
  · subst e2
    rcases s.map with ⟨h1,_⟩ | ⟨mb,h1,hm⟩
    · rw [h1] at e;cases e
    · rw [h1] at e;cases e;exact hm.row_ne s.head rfl
  · rw [hd];exact s.dfd.far f (fun b e=>hq b (fun e2=>(s.yd b e).1 (e2 ▸ s.yq)))
  · rw [hd] at e;exact ⟨(s.yd b e).1,Nat.lt_of_lt_of_le (s.yd b e).2 f.size⟩
theorem Sb.bindq (s:Sb w0 w Y q g h own lev row c N bv im mv sv S) (i:Nat) (u:Value):(w.setCell ⟨q,i,none⟩ u).ownsRow w0.heap.size 249 4 bv row.length (bdC row) :=
  MM.own_far s.bind (cellF w q i u) (fun b hb hm=>by
    rw [List.mem_singleton.1 hm] at hb;exact MM.own_row_ne s.bind s.head (by decide) hb)
theorem Sb.setLev (s:Sb w0 w Y q g h own lev row c N bv im mv sv S) (m:Nat):Sb w0 (w.setCell ⟨q,4,none⟩ (num m)) Y q g h own m row c N bv im mv sv S:=s.cell 4 (num m) rfl rfl row (s.bindq 4 _) rfl
theorem Sb.setF (s:Sb w0 w Y q g h own lev row c N bv im mv sv S) (u:Value):Sb w0 (w.setCell ⟨q,7,none⟩ u) Y q g { h with fv:=u } own lev row c N bv im mv sv S:=s.cell (h':={ h with fv:=u }) (lev':=lev) (bv':=bv) 7 u rfl rfl row (s.bindq 7 _) rfl
theorem Sb.setT (s:Sb w0 w Y q g h own lev row c N bv im mv sv S) (u:Value):Sb w0 (w.setCell ⟨q,8,none⟩ u) Y q g { h with tv:=u } own lev row c N bv im mv sv S:=s.cell (h':={ h with tv:=u }) (lev':=lev) (bv':=bv) 8 u rfl rfl row (s.bindq 8 _) rfl
theorem Sb.setH (s:Sb w0 w Y q g h own lev row c N bv im mv sv S) (u:Value):Sb w0 (w.setCell ⟨q,9,none⟩ u) Y q g { h with hv:=u } own lev row c N bv im mv sv S:=s.cell (h':={ h with hv:=u }) (lev':=lev) (bv':=bv) 9 u rfl rfl row (s.bindq 9 _) rfl
theorem Sb.cut {A:Option Addr} {n cp:Nat} (s:Sb w0 w Y q g h own lev row c N (.slice A n cp) im mv sv S) (k:Nat) (hk:k≤n) (hn:n=row.length):Sb w0 (w.setCell ⟨q,5,none⟩ (.slice A k cp)) Y q g h own lev (row.take k) c N (.slice A k cp) im mv sv S:=by
  subst hn;refine s.cell 5 _ rfl rfl _ ?_ (by cases A <;> rfl)
  have e:(row.take k).length=k:=by rw [List.length_take];omega
  have hb:=s.bindq 5 (.slice A k cp);obtain ⟨A',c',ev,_,_,_,_,hh⟩:=MO.form hb;injection ev with e1 e2 e3;subst e1;subst e3;rw [e,← bdC_take]
  rcases hh with ⟨rfl,hz,rfl⟩ | ⟨og,rfl,_⟩
  · have hk0:k=0:=by omega
    subst hk0;rw [Nat.zero_mul,List.take_zero];exact MO.none_ _ _ _ _
  · exact RC6.own_front (n:=row.length) hb k hk
theorem Sb.upd {mb:Nat} {c':ByteArray→Nat} (s:Sb w0 w Y q g h own lev row c N bv (.map (some mb)) mv sv S) (hm:MapN w1 mb c') (f:MM.Far [mb] w w1):Sb w0 w1 Y q g h own lev row c' N bv (.map (some mb)) mv sv S:=by
  have hmY:=s.ym mb rfl;have hq:∀ b,b≠mb→b∉[mb]:=fun b hb hm=>hb (by simpa using hm)
  have hM:MapN w mb c:=by
    rcases s.map with ⟨h1,_⟩ | ⟨mb',h1,hm⟩
    · cases h1
    · cases h1;exact hm
  refine ⟨lowF f s.far (fun b hb=>by rw [List.mem_singleton.1 hb];exact s.low _ hmY),s.head.far f (hq _ (fun e=>hM.row_ne s.head e.symm)),MM.own_far s.bind f (fun b hb=>hq b (fun e=>hM.own_ne s.bind (e ▸ hb))),.inr ⟨mb,rfl,hm⟩,s.nm.far f (fun b hb=>hq b (fun e=>(s.sx b hb).2.2 (by rw [e]))),
    s.dfd.far f (fun b e=>hq b (fun e2=>(s.yd b e).1 (e2 ▸ hmY))),s.low,fun b hb=>Nat.lt_of_lt_of_le (s.lt b hb) f.size,s.yq,s.yb,s.ym,s.ys,fun b e=>⟨(s.yd b e).1,Nat.lt_of_lt_of_le (s.yd b e).2 f.size⟩,s.sx⟩
theorem Sb.made (s:Sb w0 w Y q g h own lev row c N bv (.map none) mv sv S):Sb w0 ((w.alloc (.map #[] 0)).setCell ⟨q,6,none⟩ (.map (some w.heap.size))) (w.heap.size::Y) q g h own lev row (fun _=>0) N bv (.map (some w.heap.size)) mv sv S:=by
  have fa:=(MM.Far.refl [] w).alloc (.map #[] 0);have f:=cellF (w.alloc (.map #[] 0)) q 6 (.map (some w.heap.size));have s1:=s.to fa;have hq:∀ b,b≠q→b∉[q]:=fun b hb hm=>hb (by simpa using hm)
  have hqlt:=s.lt q s.yq;have hsz:=s.far.size;have hlt2:∀ b,b≤w.heap.size→b < ((w.alloc (.map #[] 0)).setCell ⟨q,6,none⟩ (.map (some w.heap.size))).heap.size:=fun b hb=>by
    have:=f.size;rw [EW.sz_alloc] at this;omega
  refine ⟨lowF f s1.far (fun b hb=>by rw [List.mem_singleton.1 hb];exact s.low _ s.yq),s1.head.put 6 _,s1.bindq 6 _,.inr ⟨_,rfl,(MapN.new w).far f (hq _ (by omega))⟩,s1.nm.far f (fun b hb=>hq b (s.sx b hb).1),s1.dfd.far f (fun b e=>hq b (fun e2=>(s.yd b e).1 (e2 ▸ s.yq))),fun b hb=>?_,fun b hb=>?_,List.mem_cons_of_mem _ s.yq,fun b hb=>List.mem_cons_of_mem _ (s.yb b hb),fun b hb=>?_,fun b hb=>List.mem_cons_of_mem _ (s.ys b hb),fun b e=>⟨fun hm=>?_,hlt2 b (by have:=(s.yd b e).2;omega)⟩,fun b hb=>⟨(s.sx b hb).1,(s.sx b hb).2.1,fun e=>?_⟩⟩
  · rcases List.mem_cons.1 hb with rfl | hb
    · exact hsz
    · exact s.low b hb
  · rcases List.mem_cons.1 hb with rfl | hb
    · exact hlt2 _ (Nat.le_refl _)
    · exact hlt2 b (Nat.le_of_lt (s.lt b hb))
  · cases hb;exact List.mem_cons_self ..
  · rcases List.mem_cons.1 hm with rfl | hm
    · exact Nat.lt_irrefl _ (s.yd _ e).2
    · exact (s.yd b e).1 hm
  · cases e
    exact Nat.lt_irrefl _ (s.lt _ (s.ys _ hb))
theorem Sb.add {bv':Value} (x:Bd) (s:Sb w0 w Y q g h own lev row c N bv im mv sv S) (hr:w1.ownsRow w0.heap.size 249 4 bv' (row.length+1) (bdC row++bdL x)) (f:MM.Far bv.ownBlock.toList w w1) (hat:bv'.ownBlock=bv.ownBlock∨∃ b,bv'.ownBlock=some b∧w.heap.size≤b) :
    Sb w0 (w1.setCell ⟨q,5,none⟩ bv') (bv'.ownBlock.toList++Y) q g h own lev (row++[x]) c N bv' im mv sv S:=by
  have hbY:∀ b∈bv.ownBlock.toList,b∈Y:=fun b hb=>s.yb b (by simpa using hb)
  have hq1:=MM.own_row_ne s.bind s.head (by decide);have hH:=s.head.far f (fun hm=>hq1 (by simpa using hm));have hM:MapV w1 im c:=s.map.far f (fun b e hm=>by
    rcases s.map with ⟨h1,_⟩ | ⟨mb,h1,hm1⟩
    · rw [h1] at e;cases e
    · rw [h1] at e;cases e;exact hm1.own_ne s.bind (by simpa using hm))
  have hN:=s.nm.far f (fun b hb hm=>(s.sx b hb).2.1 (by simpa using hm));have hD:=s.dfd.far f (fun b e hm=>(s.yd b e).1 (hbY b hm));have g1:=cellF w1 q 5 bv';have hq:∀ b,b≠q→b∉[q]:=fun b hb hm=>hb (by simpa using hm)
  have hin:∀ b,bv'.ownBlock=some b→b∈Y∨w.heap.size≤b:=fun b hb=>by
    rcases hat with e | ⟨k,e,hk⟩
    · exact .inl (s.yb b (e ▸ hb))
    · rw [e] at hb;injection hb with hb;exact .inr (by omega)
  have hlow:=s.far.size;refine ⟨?_,hH.put 5 bv',?_,hM.far g1 (fun b e=>hq b (fun e2=>?_)),hN.far g1 (fun b hb=>hq b (s.sx b hb).1),hD.far g1 (fun b e=>hq b (fun e2=>(s.yd b e).1 (e2 ▸ s.yq))),fun b hb=>?_,fun b hb=>?_,List.mem_append_right _ s.yq,fun b hb=>List.mem_append_left _ (by simpa using hb),fun b hb=>List.mem_append_right _ (s.ym b hb),fun b hb=>List.mem_append_right _ (s.ys b hb),fun b e=>⟨fun hm=>?_,Nat.lt_of_lt_of_le (s.yd b e).2 (Nat.le_trans f.size g1.size)⟩,fun b hb=>⟨(s.sx b hb).1,fun e=>?_,(s.sx b hb).2.2⟩⟩
  · exact lowF g1 (lowF f s.far (fun b hb=>s.low b (hbY b hb))) (fun b hb=>by rw [List.mem_singleton.1 hb];exact s.low _ s.yq)
  · rw [List.length_append,bdC_snoc];exact MM.own_far hr g1 (fun b hb=>hq b (fun e=>MM.own_row_ne hr hH (by decide) (e ▸ hb)))
  · subst e2
    rcases hM with ⟨h1,_⟩ | ⟨mb,h1,hm⟩
    · rw [h1] at e;cases e
    · rw [h1] at e;cases e;exact hm.row_ne hH rfl
  · rcases List.mem_append.1 hb with hb | hb
    · rcases hin b (by simpa using hb) with h1 | h1
      · exact s.low b h1
      · omega
    · exact s.low b hb
  · rcases List.mem_append.1 hb with hb | hb
    · exact Nat.lt_of_lt_of_le (MM.own_lt hr b (by simpa using hb)).1 g1.size
    · exact Nat.lt_of_lt_of_le (s.lt b hb) (Nat.le_trans f.size g1.size)
  · rcases List.mem_append.1 hm with hm | hm
    · rcases hin b (by simpa using hm) with h1 | h1
      · exact (s.yd b e).1 h1
      · have:=(s.yd b e).2;omega
    · exact (s.yd b e).1 hm
  · rcases hat with e2 | ⟨k,e2,hk⟩
    · exact (s.sx b hb).2.1 (e2 ▸ e)
    · rw [e2] at e;injection e with e
      have:=s.lt _ (s.ys _ hb);omega
theorem addY {w:World} {bv bv':Value} {Y:List Nat} (hy:∀ b,bv.ownBlock=some b→b∈Y) (hat:bv'.ownBlock=bv.ownBlock∨∃ b,bv'.ownBlock=some b∧w.heap.size≤b):Yto w Y (bv'.ownBlock.toList++Y) :=
  ⟨fun b hb=>List.mem_append_right _ hb,fun b hb=>by
    rcases List.mem_append.1 hb with h | h
    · have h:bv'.ownBlock=some b:=by simpa using h
      rcases hat with e | ⟨g,e,hg⟩
      · exact .inl (hy b (e ▸ h))
      · rw [e] at h;injection h with h;exact .inr (by omega)
    · exact .inl h⟩
theorem Sb.put {N':List ByteArray} (s:Sb w0 w Y q g h own lev row c N bv im mv sv S) (hx:NW.Nxt w g S N' w1):∃ Y' mv' sv' S',Yto w Y Y'∧MM.Far Y w w1∧Sb w0 w1 Y' q g h own lev row c N' bv im mv' sv' S':=by
  obtain ⟨S',mv',sv',h1,h2,h3⟩:=hx;have hSY:MM.Far Y w w1:=h2.mono (fun b hb _=>s.ys b hb);have hsz:=s.far.size;have hbn:∀ b,bv.ownBlock=some b→b < w.heap.size:=fun b hb=>s.lt b (s.yb b hb)
  refine ⟨S'++Y,mv',sv',S',⟨fun b hb=>List.mem_append_right _ hb,fun b hb=>?_⟩,hSY,?_⟩
  · rcases List.mem_append.1 hb with hb | hb
    · rcases h3 b hb with h | h
      · exact .inl (s.ys b h)
      · exact .inr h
    · exact .inl hb
  · refine ⟨lowF h2 s.far (fun b hb=>s.low b (s.ys b hb)),s.head.far h2 (fun hm=>(s.sx q hm).1 rfl),MM.own_far s.bind h2 (fun b hb hm=>(s.sx b hm).2.1 hb),s.map.far h2 (fun b e hm=>(s.sx b hm).2.2 e),h1,s.dfd.far h2 (fun b e hm=>(s.yd b e).1 (s.ys b hm)),fun b hb=>?_,fun b hb=>?_,List.mem_append_right _ s.yq,fun b hb=>List.mem_append_right _ (s.yb b hb),fun b hb=>List.mem_append_right _ (s.ym b hb),fun b hb=>List.mem_append_left _ hb,fun b e=>⟨fun hm=>?_,Nat.lt_of_lt_of_le (s.yd b e).2 h2.size⟩,fun b hb=>?_⟩
    · rcases List.mem_append.1 hb with hb | hb
      · rcases h3 b hb with h | h
        · exact s.low b (s.ys b h)
        · omega
      · exact s.low b hb
    · rcases List.mem_append.1 hb with hb | hb
      · exact h1.lt b hb
      · exact Nat.lt_of_lt_of_le (s.lt b hb) h2.size
    · rcases List.mem_append.1 hm with hm | hm
      · rcases h3 b hm with h | h
        · exact (s.yd b e).1 (s.ys b h)
        · have:=(s.yd b e).2;omega
      · exact (s.yd b e).1 hm
    · rcases h3 b hb with h | h
      · exact s.sx b h
      · refine ⟨fun e=>?_,fun e=>?_,fun e=>?_⟩
        · subst e;have:=s.lt _ s.yq;omega
        · have:=hbn b e;omega
        · have:=s.lt _ (s.ym b e);omega
end
def Sc (w0 w:World) (Y:List Nat) (q g:Nat) (h:Hd) (own:ByteArray→Nat) (R:Rws) (N:List ByteArray):Prop:=∃ bv im mv sv S,Sb w0 w Y q g h own R.length (bnd R) (inn (bnd R)) N bv im mv sv S
section
variable {w0 w w1:World} {Y:List Nat} {q g:Nat} {h:Hd} {own:ByteArray→Nat} {R:Rws} {N:List ByteArray}
theorem Sc.to (s:Sc w0 w Y q g h own R N) (f:MM.Far [] w w1):Sc w0 w1 Y q g h own R N:=by
  obtain ⟨bv,im,mv,sv,S,s⟩:=s;exact ⟨bv,im,mv,sv,S,s.to f⟩
theorem Sc.off {T:List Nat} (s:Sc w0 w Y q g h own R N) (f:MM.Far T w w1) (hT:∀ b∈T,b∉Y∧w0.heap.size≤b∧h.dm≠.map (some b)):Sc w0 w1 Y q g h own R N:=by
  obtain ⟨bv,im,mv,sv,S,s⟩:=s;exact ⟨bv,im,mv,sv,S,s.off f hT⟩
theorem Sc.head (s:Sc w0 w Y q g h own R N):∃ bv im,MM.Row w q 101 (hdL h g R.length bv im):=by
  obtain ⟨bv,im,mv,sv,S,s⟩:=s;exact ⟨bv,im,s.head⟩
def ScQ (w0 w:World) (Y:List Nat) (q g:Nat) (h:Hd) (own:ByteArray→Nat) (R:Rws) (N:List ByteArray) (w':World):Prop:=∃ Y',Yto w Y Y'∧MM.Far Y w w'∧Sc w0 w' Y' q g h own R N
theorem ScQ.same (s:Sc w0 w Y q g h own R N) (f:MM.Far [] w w1):ScQ w0 w Y q g h own R N w1:=⟨Y,Yto.refl _ _,f.mono (by simp),s.to f⟩
theorem ScQ.to {w2:World} (s:ScQ w0 w Y q g h own R N w1) (f:MM.Far [] w1 w2):ScQ w0 w Y q g h own R N w2:=by
  obtain ⟨Y',h1,h2,h3⟩:=s;exact ⟨Y',h1,h2.trans f (by simp),h3.to f⟩
theorem ScQ.from {w2:World} {R':Rws} {N':List ByteArray} (f:MM.Far [] w w1) (s:ScQ w0 w1 Y q g h own R' N' w2):ScQ w0 w Y q g h own R' N' w2:=by
  obtain ⟨Y',h1,h2,h3⟩:=s;exact ⟨Y',⟨h1.sub,fun b hb=>(h1.new b hb).imp id (fun h=>Nat.le_trans f.size h)⟩,(f.mono (S':=Y) (by simp)).trans h2 (fun b hb _=>hb),h3⟩
end
end SM
end Go.Proofs.YtkcgbhlnkfogeaaGreatDoor
