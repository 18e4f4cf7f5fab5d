/-
  Several texts in one: WordAll,ScoPlain,ScoRf.
-/
import Derived.Test.YtodjaabcjojlkaaDoorMemAll
import Derived.Test.YtodjaabcjojlkaaDoorProg
import Derived.Test.YtodjaabcjojlkaaDoorQExpKd1
import Derived.Test.YtodjaabcjojlkaaDoorQNamesAll
import Derived.Test.YtodjaabcjojlkaaDoorQScoMap
import Derived.WalkKit
import Derived.Lib.Hide
namespace Go.Proofs.YtodjaabcjojlkaaDoor
namespace WP
open Go.RowKit
def inR (n:Int):Bool:=decide (-1099511627776 < n) && decide (n < 1099511627776)
def encW (n:Int):Int:=(n*8) % 18446744073709551616
def intW (n:Int):Int:=if inR n then encW n else 0
def intE (n:Int):Int:=if inR n then 0 else 10
def kindB (k:Int):Bool:=k == 1 || k == 3 || k == 4
def ofB (k n:Int):Bool:=kindB k && (decide (0≤n) && decide (n < 1099511627776))
def ofW (k n:Int):Int:=if ofB k n then n*8+k else 0
def ofE (k n:Int):Int:=if ofB k n then 0 else 1
def sgn (w:Int):Int:=if w / 8 < 1152921504606846976 then w / 8 else w / 8 - 2305843009213693952
def toIntB (w:Int):Bool:=decide (w % 8=0) && inR (sgn w)
def toB (k w:Int):Bool:=kindB k && (decide (w % 8=k) && decide (w / 8 < 1099511627776))
def toN (k w:Int):Int:=if toB k w then w / 8 else 0
def boolW (b:Bool):Int:=if b then 18 else 10
def mayB (w:Int):Bool:=(w == 2 || w == 10 || w == 18 || w == 26) || (toIntB w || toB 1 w || toB 3 w || toB 4 w)
def U (w:Int):Prop:=0≤w∧w < 18446744073709551616
theorem inR_iff (n:Int):inR n=true ↔ -1099511627776 < n∧n < 1099511627776:=by simp [inR]
theorem kindB_iff (k:Int):kindB k=true ↔ k=1∨k=3∨k=4:=by simp [kindB,or_assoc]
theorem ofB_iff (k n:Int):ofB k n=true ↔ (k=1∨k=3∨k=4)∧0≤n∧n < 1099511627776:=by simp [ofB,kindB_iff]
theorem orN (x y:Int) (hx:0≤x) (hx2:x < 18446744073709551616) (h8:x % 8=0) (hy:0≤y) (hy2:y < 8):bits .or .u64 x y=x+y:=by
  rw [u64_or x y hx hx2 hy (by omega),nat_join 3 _ _ (by omega) (by omega)];omega
theorem mk_int (n:Int):bits .or .u64 (IntKind.u64.wrap (IntKind.u64.wrap n*8)) 0=encW n:=by
  rw [IntKind.wrap_u64,IntKind.wrap_u64,orN _ _ (by omega) (by omega) (by omega) (by omega) (by omega)];unfold encW;omega
theorem mk_of (k n:Int) (h:ofB k n=true):bits .or .u64 (n*8) (IntKind.u64.wrap k)=ofW k n:=by
  have h0:=(ofB_iff k n).1 h;rw [IntKind.wrap_u64,orN _ _ (by omega) (by omega) (by omega) (by omega) (by omega)];unfold ofW;rw [if_pos h];omega
theorem ofB_mk (k n:Int) (h0:kindB k=true) (h1:0≤n) (h2:n < 1099511627776):ofB k n=true:=by simp [ofB,h0,h1,h2]
theorem may_yes (w:Int) (h:toIntB w=true):mayB w=true:=by simp [mayB,h]
end WP
end Go.Proofs.YtodjaabcjojlkaaDoor
namespace Go.Proofs.YtodjaabcjojlkaaDoor
open Go.RowKit
namespace WW
theorem ret_b {a b:Bool} (h:a=b):Ending.returned (.bool a) = .returned (.bool b):=by rw [h]
theorem ret_2 {k k':IntKind} {a b c d:Int} (h:a=b) (h':c=d):Ending.returned (.tuple #[.int k a,.int k' c]) = .returned (.tuple #[.int k b,.int k' d]):=by rw [h,h']
set_option maxHeartbeats 400000 in
theorem inRange_any (n:Int) (w:World):Calls Tryd.prog 80 #[.int .i64 n] w fun e w'=>e = .returned (.bool (WP.inR n))∧w=w':=by
  by_cases h1 : -1099511627776 < n
  · by_cases h2:n < 1099511627776
    · go_enter Tryd.func80,Tryd.ntmps80
      go_wp2;go_ret
      exact ⟨ret_b (by simp [WP.inR,h1,h2]),rfl⟩
    · go_enter Tryd.func80,Tryd.ntmps80
      go_wp2;go_ret
      exact ⟨ret_b (by simp [WP.inR];try omega),rfl⟩
  · go_enter Tryd.func80,Tryd.ntmps80
    go_wp2;go_ret
    exact ⟨ret_b (by simp [WP.inR];try omega),rfl⟩
set_option maxHeartbeats 400000 in
theorem int_any (n:Int) (w:World):Calls Tryd.prog 68 #[.int .i64 n] w fun e w'=>e = .returned (.tuple #[.int .u64 (WP.intW n),.int .i64 (WP.intE n)])∧w=w':=by
  cases h:WP.inR n
  · go_enter Tryd.func68,Tryd.ntmps68
    go_wp2_with (go_at_call 80;refine (inRange_any _ _).mono ?_;rintro e w' ⟨rfl,rfl⟩)
    go_ret2
    exact ⟨ret_2 (by simp [WP.intW,h]) (by simp [WP.intE,h]),rfl⟩
  · go_enter Tryd.func68,Tryd.ntmps68
    go_wp2_with (go_at_call 80;refine (inRange_any _ _).mono ?_;rintro e w' ⟨rfl,rfl⟩)
    go_ret2
    exact ⟨ret_2 (by rw [WP.mk_int];simp [WP.intW,h]) (by simp [WP.intE,h]),rfl⟩
set_option maxHeartbeats 400000 in
theorem numb_any (k:Int) (w:World):Calls Tryd.prog 89 #[.int .i64 k] w fun e w'=>e = .returned (.bool (WP.kindB k))∧w=w':=by
  by_cases h1:k=1
  · subst h1;go_enter Tryd.func89,Tryd.ntmps89
    go_wp2;go_ret
    exact ⟨ret_b (by decide),rfl⟩
  · by_cases h2:k=3
    · subst h2;go_enter Tryd.func89,Tryd.ntmps89
      go_wp2;go_ret
      exact ⟨ret_b (by decide),rfl⟩
    · by_cases h3:k=4
      · subst h3;go_enter Tryd.func89,Tryd.ntmps89
        go_wp2;go_ret
        exact ⟨ret_b (by decide),rfl⟩
      · go_enter Tryd.func89,Tryd.ntmps89
        go_wp2;go_ret
        exact ⟨ret_b (by simp [WP.kindB]),rfl⟩
set_option maxHeartbeats 400000 in
theorem of_any (k n:Int) (w:World):Calls Tryd.prog 81 #[.int .i64 k,.int .i64 n] w fun e w'=>e = .returned (.tuple #[.int .u64 (WP.ofW k n),.int .i64 (WP.ofE k n)])∧w=w':=by
  cases h0:WP.kindB k
  · have h:WP.ofB k n=false:=by simp [WP.ofB,h0]
    go_enter Tryd.func81,Tryd.ntmps81
    go_wp2_with (go_at_call 89;refine (numb_any _ _).mono ?_;rintro e w' ⟨rfl,rfl⟩)
    go_ret2
    exact ⟨ret_2 (by simp [WP.ofW,h]) (by simp [WP.ofE,h]),rfl⟩
  · by_cases h1:0≤n
    · by_cases h2:n < 1099511627776
      · have h:WP.ofB k n=true:=by simp [WP.ofB,h0,h1,h2]
        go_enter Tryd.func81,Tryd.ntmps81
        go_wp2_with (go_at_call 89;refine (numb_any _ _).mono ?_;rintro e w' ⟨rfl,rfl⟩)
        go_ret2
        exact ⟨ret_2 (by rw [WP.mk_of k n h]) (by simp [WP.ofE,h]),rfl⟩
      · have h:WP.ofB k n=false:=by simp [WP.ofB];omega
        go_enter Tryd.func81,Tryd.ntmps81
        go_wp2_with (go_at_call 89;refine (numb_any _ _).mono ?_;rintro e w' ⟨rfl,rfl⟩)
        go_ret2
        exact ⟨ret_2 (by simp [WP.ofW,h]) (by simp [WP.ofE,h]),rfl⟩
    · have h:WP.ofB k n=false:=by simp [WP.ofB];omega
      go_enter Tryd.func81,Tryd.ntmps81
      go_wp2_with (go_at_call 89;refine (numb_any _ _).mono ?_;rintro e w' ⟨rfl,rfl⟩)
      go_ret2
      exact ⟨ret_2 (by simp [WP.ofW,h]) (by simp [WP.ofE,h]),rfl⟩
end WW
end Go.Proofs.YtodjaabcjojlkaaDoor
namespace Go.Proofs.YtodjaabcjojlkaaDoor
namespace AP
open Go.RowKit
structure Th where
  k:Int
  l:List Int
def sz:List Th→Nat
  | []=>0
  | t::ts=>t.l.length+1+sz ts
def fw:List Th→List Int
  | []=>[]
  | t::ts=>(t.l.length:Int)::(t.l++fw ts)
def fk:List Th→List Int
  | []=>[]
  | t::ts=>t.k::(List.replicate t.l.length 0++fk ts)
def idx:List Th→Nat→Option Nat
  | [],_=>none
  | t::ts,a=>if a=0 then some 0 else if a < t.l.length+1 then none else (idx ts (a - (t.l.length+1))).map (· + 1)
def kinds (n:Nat) (ts:List Th):List Int:=fk ts++List.replicate (n - sz ts) 0
def th (ts:List Th) (i:Nat):Th:=ts.getD i ⟨0,[]⟩
def put (ts:List Th) (i j:Nat) (x:Int):List Th:=ts.modify i fun t=>⟨t.k,t.l.set j x⟩
end AP
end Go.Proofs.YtodjaabcjojlkaaDoor
namespace Go.Proofs.YtodjaabcjojlkaaDoor
open Go.RowKit
namespace AW
abbrev ptr (p:Nat):Value:=.pointer (some ⟨p,0,none⟩)
structure Ok (n:Nat) (ts:List AP.Th):Prop where
  size:n≤65536
  room:AP.sz ts≤n
  each:∀ i,i < ts.length→1≤(AP.th ts i).k∧(AP.th ts i).k≤9∧(AP.th ts i).l.length≤255∧∀ x∈(AP.th ts i).l,WP.U x
def look (ts:List AP.Th) (x:Int):Option Nat:=if WP.toB 1 x then AP.idx ts (WP.toN 1 x).toNat else none
def findB (ts:List AP.Th) (x:Int):Bool:=(look ts x).isSome
section
variable {w:World} {p g h n:Nat} {ts:List AP.Th}
end
end AW
end Go.Proofs.YtodjaabcjojlkaaDoor
namespace Go.Proofs.YtodjaabcjojlkaaDoor
open Go.RowKit
namespace AW
section
variable {w:World} {p g h n:Nat} {ts:List AP.Th}
end
end AW
end Go.Proofs.YtodjaabcjojlkaaDoor
namespace Go.Proofs.YtodjaabcjojlkaaDoor
open Go.RowKit
namespace AW
def setT (ts:List AP.Th) (x j v:Int):List AP.Th:=match look ts x with | none=>ts | some i=>if 0≤j∧j < (AP.th ts i).l.length then AP.put ts i j.toNat v else ts
section
variable {w:World} {p g h n:Nat} {ts:List AP.Th}
end
end AW
end Go.Proofs.YtodjaabcjojlkaaDoor
namespace Go.Proofs.YtodjaabcjojlkaaDoor
namespace SC
open LX RX SX EX
structure Rf where
  kind:Int
  at_:Int
  n:Int
  a:Int
  s:ByteArray
  w:Int
  l:List Nat
abbrev Rws:=List (List ByteArray)
inductive Sp where
  | form (i:Nat)
  | qd (a:Int) (i:Nat)
  | ql (a:Int) (l:List Nat)
inductive Sn where
  | bad (a e:Int)
  | mk (f:Rf) (R:Rws) (ps:List Sp)
def fm0:Fm:=⟨0,0,0,emp,[],[]⟩
def fmAt (fs:List Fm) (i:Nat):Fm:=fs.getD i fm0
def primN:List ByteArray:=[⟨#[43]⟩,⟨#[45]⟩,⟨#[42]⟩,⟨#[113,117,111,116,105,101,110,116]⟩,⟨#[114,101,109,97,105,110,100,101,114]⟩,⟨#[60]⟩,⟨#[61]⟩,⟨#[101,113,63]⟩,⟨#[110,111,116]⟩,⟨#[110,117,108,108,63]⟩,
  ⟨#[112,97,105,114,63]⟩,⟨#[99,111,110,115]⟩,⟨#[99,97,114]⟩,⟨#[99,100,114]⟩,⟨#[110,117,109,98,101,114,63]⟩,⟨#[115,121,109,98,111,108,63]⟩,⟨#[112,114,111,99,101,100,117,114,101,63]⟩,⟨#[99,97,108,108,47,99,99]⟩,
  ⟨#[111,117,116]⟩,⟨#[115,112,97,119,110]⟩,⟨#[109,105,99,114,111]⟩,⟨#[97,102,116,101,114]⟩,⟨#[99,97,110,99,101,108]⟩,⟨#[112,114,111,109,105,115,101]⟩,⟨#[115,101,116,116,108,101]⟩,⟨#[116,104,101,110]⟩,⟨#[115,116,114,101,97,109]⟩,⟨#[119,114,105,116,101]⟩,⟨#[114,101,97,100]⟩,⟨#[116,105,109,101]⟩]
def primM:List Nat:=[2,2,2,2,2,2,2,2,1,1,1,2,1,1,1,1,1,1,1,1,1,2,1,0,2,2,1,2,1,0]
def isPrim (s:ByteArray):Bool:=decide (s∈primN)
def primO (s:ByteArray):Nat:=if s∈primN then primN.idxOf s+1 else 0
def primK (s:ByteArray):Nat:=if s∈primN then primM.getD (primN.idxOf s) 0 else 0
def wher:Rws→ByteArray→Option (Nat × Nat)
  | [],_=>none
  | r::rs,s=>if s∈r then some (0,r.idxOf s) else match wher rs s with
    | none=>none
    | some (a,n)=>some (a+1,n)
structure Cx where
  ns:List Nd
  fs:List Fm
  own:List ByteArray
def cst (a w:Int):Rf:=⟨13,a,0,0,emp,w,[]⟩
def quoL (R:Rws) (a:Int):List Nat→Sn
  | []=>.mk (cst a 2) R []
  | i::l=>.mk ⟨12,a,12,0,emp,0,[]⟩ R [.qd a i,.ql a l]
def quo (ns:List Nd) (R:Rws) (N:List ByteArray) (a:Int) (i:Nat):Sn × List ByteArray :=
  if (ndAt ns i).kind=1 then (.mk (cst a (WP.intW (ndAt ns i).n)) R [],N)
  else if (ndAt ns i).kind=2 then (.mk (cst a (WP.boolW (decide ((ndAt ns i).n=1)))) R [],N)
  else if (ndAt ns i).kind=3 then (.mk (cst a (WP.ofW 3 (NP.putI N (ndAt ns i).s))) R [],NP.putL N (ndAt ns i).s)
  else (quoL R a (ndAt ns i).l,N)
def noName (s:ByteArray):Int:=if isPrim s=true then 90 else 91
def nameP (C:Cx) (R:Rws) (N:List ByteArray) (f:Fm):Sn × List ByteArray:=match wher R f.s with
  | some (a,n)=>(.mk ⟨11,f.at_,n,a,emp,0,[]⟩ R [],N)
  | none=>if f.s∈C.own then (.mk ⟨4,f.at_,NP.putI N f.s,0,f.s,0,[]⟩ R [],NP.putL N f.s) else (.bad f.at_ (noName f.s),N)
def setP' (C:Cx) (R:Rws) (N:List ByteArray) (f:Fm):Sn × List ByteArray:=match wher R f.s with
  | some (a,n)=>(.mk ⟨7,f.at_,n,a,emp,0,[]⟩ R (f.l.map .form),N)
  | none=>if f.s∈C.own then (.mk ⟨7,f.at_,NP.putI N f.s,-1,f.s,0,[]⟩ R (f.l.map .form),NP.putL N f.s) else (.bad f.at_ (noName f.s),N)
def defP (R:Rws) (N:List ByteArray) (f:Fm):Sn × List ByteArray :=
  if isPrim f.s=true then (.bad f.at_ 90,N) else (.mk ⟨9,f.at_,NP.putI N f.s,0,f.s,0,[]⟩ R (f.l.map .form),NP.putL N f.s)
def callsPrim (C:Cx) (R:Rws) (f:Fm):Bool:=decide (f.kind=4) && !decide (f.s∈C.own) && (wher R f.s).isNone && isPrim f.s
def callP (C:Cx) (R:Rws) (f:Fm):Sn :=
  if callsPrim C R (fmAt C.fs (f.l.getD 0 0))=true then
    (if f.l.length - 1≠primK (fmAt C.fs (f.l.getD 0 0)).s then .bad f.at_ 90 else .mk ⟨12,f.at_,primO (fmAt C.fs (f.l.getD 0 0)).s,0,emp,0,[]⟩ R ((f.l.drop 1).map .form))
  else .mk ⟨10,f.at_,0,0,emp,0,[]⟩ R (f.l.map .form)
def evF (C:Cx) (R:Rws) (N:List ByteArray) (f:Fm):Sn × List ByteArray :=
  if f.kind=1 then (.mk (cst f.at_ (WP.intW f.n)) R [],N)
  else if f.kind=2 then (.mk (cst f.at_ (WP.boolW (decide (f.n=1)))) R [],N)
  else if f.kind=3 then quo C.ns R N f.at_ f.n.toNat
  else if f.kind=4 then nameP C R N f
  else if f.kind=6 then (.mk ⟨6,f.at_,f.p.length,0,emp,0,[]⟩ (f.p::R) (f.l.map .form),N)
  else if f.kind=7 then setP' C R N f
  else if f.kind=9 then defP R N f
  else if f.kind=10 then (callP C R f,N)
  else (.mk ⟨f.kind,f.at_,0,0,emp,0,[]⟩ R (f.l.map .form),N)
def evS (C:Cx) (R:Rws) (N:List ByteArray):Sp→Sn × List ByteArray
  | .form i=>evF C R N (fmAt C.fs i)
  | .qd a i=>quo C.ns R N a i
  | .ql a l=>(quoL R a l,N)
abbrev Er:=Int × Int × List ByteArray
abbrev Out:=Except Er (List ByteArray × List Rf × Nat)
def execs (X:Sp→List ByteArray→List Rf→Out):List Sp→List ByteArray→List Rf→List Nat→Except Er (List ByteArray × List Rf × List Nat)
  | [],N,row,l=>.ok (N,row,l)
  | p::ps,N,row,l=>match X p N row with
    | .error e=>.error e
    | .ok (N',row',i)=>execs X ps N' row' (l++[i])
def onS (X:Rws→Sp→List ByteArray→List Rf→Out) (y:Sn × List ByteArray) (row:List Rf):Out:=match y.1 with
  | .bad a e=>.error (a,e,y.2)
  | .mk f R ps=>match execs (X R) ps y.2 row [] with
    | .error e=>.error e
    | .ok (N',row',l)=>.ok (N',row'++[{ f with l:=l }],row'.length)
def ex (C:Cx):Nat→Rws→Sp→List ByteArray→List Rf→Out
  | 0,_,_,N,_=>.error (-1,0,N)
  | f+1,R,p,N,row=>onS (ex C f) (evS C R N p) row
def ownN (fs:List Fm):List ByteArray:=(fs.filter fun f=>f.kind == 9).map (·.s)
def cx (ns:List Nd) (fs:List Fm):Cx:=⟨ns,fs,ownN fs⟩
structure Fw (C:Cx):Prop where
  ok:Ok C.ns
  lt:∀ i,∀ p∈(fmAt C.fs i).l,p < i
def fsz (C:Cx):Nat→Nat→Nat
  | 0,_=>1
  | f+1,i=>1+((fmAt C.fs i).l.map (fsz C f)).sum+(if (fmAt C.fs i).kind=3 then 2*T C.ns (fmAt C.fs i).n.toNat else 0)
def F (C:Cx) (i:Nat):Nat:=fsz C (i+1) i
theorem fsz_eq {C:Cx} (h:Fw C):∀ (f g i:Nat),i < f→i < g→fsz C f i=fsz C g i:=by
  intro f;induction f with
  | zero=>intro g i hf _;omega
  | succ f ih =>
    intro g i hf hg;cases g with
    | zero=>omega
    | succ g =>
      have hl:=h.lt i;unfold fsz;rw [List.map_congr_left (fun p hp=>by
        have:=hl p hp;exact ih g p (by omega) (by omega))]
theorem F_eq {C:Cx} (h:Fw C) (i:Nat):F C i=1+((fmAt C.fs i).l.map (F C)).sum+(if (fmAt C.fs i).kind=3 then 2*T C.ns (fmAt C.fs i).n.toNat else 0):=by
  have hl:=h.lt i;unfold F;rw [fsz,List.map_congr_left (fun p hp=>by
    have:=hl p hp;exact fsz_eq h i (p+1) p (by omega) (by omega))]
def wgt (C:Cx):Sp→Nat
  | .form i=>F C i
  | .qd _ i=>2*T C.ns i - 1
  | .ql _ l=>1+(l.map fun i=>2*T C.ns i).sum
def wgts (C:Cx) (ps:List Sp):Nat:=(ps.map (wgt C)).sum
def wgn (C:Cx):Sn→Nat
  | .bad _ _=>1
  | .mk _ _ ps=>1+wgts C ps
theorem wgts_cons (C:Cx) (p:Sp) (ps:List Sp):wgts C (p::ps)=wgt C p+wgts C ps:=by simp [wgts]
theorem wgts_nil (C:Cx):wgts C []=0:=rfl
theorem F_pos (C:Cx) (i:Nat):1≤F C i:=by unfold F fsz;omega
theorem wgt_pos (C:Cx) (p:Sp):1≤wgt C p:=by
  cases p with
  | form i=>exact F_pos C i
  | qd a i=>have:=T_pos C.ns i;simp only [wgt];omega
  | ql a l=>simp only [wgt];omega
theorem wgts_form (C:Cx) (l:List Nat):wgts C (l.map .form)=(l.map (F C)).sum:=by
  unfold wgts;rw [List.map_map];rfl
theorem quoL_w (C:Cx) (R:Rws) (a:Int) (l:List Nat):wgn C (quoL R a l)≤1+(l.map fun i=>2*T C.ns i).sum:=by
  cases l with
  | nil=>simp [quoL,wgn,wgts]
  | cons i l =>
    have:=T_pos C.ns i;simp only [quoL,wgn,wgts_cons,wgts_nil,wgt,List.map_cons,List.sum_cons]
    omega
theorem sum_two (l:List Nat) (f:Nat→Nat):(l.map fun i=>2*f i).sum=2*(l.map f).sum:=by
  induction l with
  | nil=>rfl
  | cons a l ih=>simp only [List.map_cons,List.sum_cons,ih];omega
theorem T_kids {ns:List Nd} (h:Ok ns) (i:Nat):T ns i=1+((ndAt ns i).l.map (T ns)).sum:=by
  by_cases hi:i < ns.length
  · exact T_eq h hi
  · unfold T tsz;rw [nd_out hi];rfl
theorem wgn_nil (C:Cx) (f:Rf) (R:Rws):wgn C (.mk f R [])=1:=rfl
theorem quo_w {C:Cx} (h:Fw C) (R:Rws) (N:List ByteArray) (a:Int) (i:Nat):wgn C (quo C.ns R N a i).1≤2*T C.ns i - 1:=by
  have hp:=T_pos C.ns i;unfold quo;split
  · simp only [wgn_nil];omega
  · split
    · simp only [wgn_nil];omega
    · split
      · simp only [wgn_nil];omega
      · have:=quoL_w C R a (ndAt C.ns i).l;rw [sum_two] at this;rw [T_kids h.ok i];simp only;omega
theorem sum_drop (l:List Nat) (f:Nat→Nat):((l.drop 1).map f).sum≤(l.map f).sum:=by
  cases l with
  | nil=>exact Nat.le_refl _
  | cons a l=>simp
theorem ev_wg {C:Cx} (h:Fw C) (R:Rws) (N:List ByteArray) (p:Sp):wgn C (evS C R N p).1≤wgt C p:=by
  cases p with
  | qd a i=>exact quo_w h R N a i
  | ql a l=>exact quoL_w C R a l
  | form i =>
    show wgn C (evF C R N (fmAt C.fs i)).1≤F C i
    have hF:=F_eq h i;have hpos:=F_pos C i;generalize fmAt C.fs i=f at hF ⊢;have hall:∀ (g:Rf) (R':Rws),wgn C (.mk g R' (f.l.map .form))≤F C i:=fun g R'=>by
      simp only [wgn,wgts_form];omega
    unfold evF;split
    · exact hpos
    split
    · exact hpos
    split
    · rename_i h3;have:=quo_w h R N f.at_ f.n.toNat;rw [if_pos h3] at hF;omega
    split
    · unfold nameP;split
      · exact hpos
      · split <;> exact hpos
    split
    · exact hall _ _
    split
    · unfold setP';split
      · exact hall _ _
      · split
        · exact hall _ _
        · exact hpos
    split
    · unfold defP;split
      · exact hpos
      · exact hall _ _
    split
    · show wgn C (callP C R f)≤_
      unfold callP;split
      · split
        · exact hpos
        · simp only [wgn,wgts_form]
          have:=sum_drop f.l (F C);omega
      · exact hall _ _
    · exact hall _ _
theorem ex_same {C:Cx} (h:Fw C):∀ (f g:Nat) (p:Sp),wgt C p≤f→wgt C p≤g→∀ R N row,ex C f R p N row=ex C g R p N row:=by
  intro f;induction f with
  | zero=>intro g p hf _;have:=wgt_pos C p;omega
  | succ f ih =>
    intro g p hf hg R N row;cases g with
    | zero=>have:=wgt_pos C p;omega
    | succ g =>
      have hw:=ev_wg h R N p;unfold ex;generalize evS C R N p=y at hw;obtain ⟨pl,N1⟩:=y;cases pl with
      | bad a e=>rfl
      | mk fm R1 ps =>
        simp only [wgn] at hw
        have hps:∀ (ps:List Sp),wgts C ps≤f→wgts C ps≤g→∀ N row l,execs (ex C f R1) ps N row l=execs (ex C g R1) ps N row l:=by
          intro ps;induction ps with
          | nil=>intro _ _ N row l;rfl
          | cons q ps ihp =>
            intro h1 h2 N row l;rw [wgts_cons] at h1 h2;unfold execs;rw [ih g q (by omega) (by omega) R1 N row];split
            · rfl
            · exact ihp (by omega) (by omega) _ _ _
        simp only [onS]
        rw [hps ps (by omega) (by omega) _ _ []]
def sx (C:Cx) (R:Rws) (p:Sp) (N:List ByteArray) (row:List Rf):Out:=ex C (wgt C p) R p N row
theorem sx_ex {C:Cx} (h:Fw C) {f:Nat} {p:Sp} (hf:wgt C p≤f) (R:Rws) (N:List ByteArray) (row:List Rf):ex C f R p N row=sx C R p N row:=ex_same h f _ p hf (Nat.le_refl _) R N row
theorem execs_same {X Y:Sp→List ByteArray→List Rf→Out}:∀ (ps:List Sp),(∀ p∈ps,∀ N row,X p N row=Y p N row)→∀ N row l,execs X ps N row l=execs Y ps N row l:=by
  intro ps;induction ps with
  | nil=>intro _ N row l;rfl
  | cons p ps ih =>
    intro h N row l;unfold execs;rw [h p (List.mem_cons_self ..)];split
    · rfl
    · exact ih (fun q hq=>h q (List.mem_cons_of_mem _ hq)) _ _ _
theorem wgts_mem {C:Cx} {p:Sp} {ps:List Sp} (h:p∈ps):wgt C p≤wgts C ps:=by
  induction ps with
  | nil=>cases h
  | cons q ps ih =>
    rw [wgts_cons]
    rcases List.mem_cons.1 h with rfl | h
    · omega
    · have:=ih h;omega
theorem sx_eq {C:Cx} (h:Fw C) (R:Rws) (p:Sp) (N:List ByteArray) (row:List Rf):sx C R p N row=onS (sx C) (evS C R N p) row:=by
  have hw:=ev_wg h R N p;have hp:=wgt_pos C p;obtain ⟨f,hf⟩:∃ f,wgt C p=f+1:=⟨wgt C p - 1,by omega⟩
  unfold sx;rw [hf,ex];rw [hf] at hw;generalize evS C R N p=y at hw;obtain ⟨pl,N1⟩:=y;cases pl with
  | bad a e=>rfl
  | mk fm R1 ps =>
    simp only [wgn] at hw
    simp only [onS]
    rw [execs_same (X:=ex C f R1) (Y:=sx C R1) ps (fun q hq N row=>sx_ex h (by have:=wgts_mem (C:=C) hq;omega) R1 N row)];rfl
theorem execs_cons (X:Sp→List ByteArray→List Rf→Out) (p:Sp) (ps:List Sp) (N:List ByteArray) (row:List Rf) (l:List Nat):execs X (p::ps) N row l=match X p N row with
    | .error e=>.error e
    | .ok (N',row',i)=>execs X ps N' row' (l++[i]):=rfl
def tops (C:Cx):List Nat→List ByteArray→List Rf→List Nat→Except Er (List ByteArray × List Rf × List Nat)
  | [],N,row,t=>.ok (N,row,t)
  | i::l,N,row,t=>match sx C [] (.form i) N row with
    | .error e=>.error e
    | .ok (N',row',k)=>tops C l N' row' (t++[k])
def scope (ns:List Nd) (fs:List Fm) (ts:List Nat):Except Er (List ByteArray × List Rf × List Nat):=tops (cx ns fs) ts [] [] []
end SC
end Go.Proofs.YtodjaabcjojlkaaDoor
namespace Go.Proofs.YtodjaabcjojlkaaDoor
open Go.RowKit
set_option linter.unusedVariables false
namespace SM
open LX SX RW6 EX SC
open EW (Sl num)
def rfL (x:Rf × Value):List Value:=[.int .u8 x.1.kind,num x.1.at_,num x.1.n,num x.1.a,.string x.1.s,.slice none 0 0,.int .u64 x.1.w,x.2]
def rfC (rs:List (Rf × Value)):List Value:=rs.flatMap rfL
theorem rfC_snoc (rs:List (Rf × Value)) (x:Rf × Value):rfC (rs++[x])=rfC rs++rfL x:=by simp [rfC]
def kinsR (rs:List (Rf × Value)):List (Value × List Nat):=rs.map fun x=>(x.2,x.1.l)
theorem rf_one (f:Rf) (B:Option Addr) (m d:Nat):∀ u∈rfL (f,.slice B m d),u.oneCell'=true:=by
  intro u hu;simp only [rfL,List.mem_cons,List.not_mem_nil,or_false] at hu
  rcases hu with rfl | rfl | rfl | rfl | rfl | rfl | rfl | rfl <;> rfl
def RfR (w:World) (A:Option Addr) (rs:List Rf):Prop :=
  ∀ (k:Nat) (h:k < rs.length),∃ b o LA lc,A=some ⟨b,o,none⟩∧b < w.heap.size∧w.cell? ⟨b,o+k*8,none⟩=some (.int .u8 rs[k].kind)∧w.cell? ⟨b,o+k*8+1,none⟩=some (.int .i64 rs[k].at_)∧w.cell? ⟨b,o+k*8+2,none⟩=some (.int .i64 rs[k].n) ∧
    w.cell? ⟨b,o+k*8+3,none⟩=some (.int .i64 rs[k].a)∧w.cell? ⟨b,o+k*8+4,none⟩=some (.string rs[k].s)∧w.cell? ⟨b,o+k*8+5,none⟩=some (.slice none 0 0)∧w.cell? ⟨b,o+k*8+6,none⟩=some (.int .u64 rs[k].w) ∧
    w.cell? ⟨b,o+k*8+7,none⟩=some (.slice LA rs[k].l.length lc)∧IntRow w LA rs[k].l
theorem RfR.far {w w':World} {A:Option Addr} {fs:List Rf} (h:RfR w A fs) (f:MM.Far [] w w'):RfR w' A fs:=by
  intro k hk;obtain ⟨b,o,LA,lc,e,hb,c0,c1,c2,c3,c4,c5,c6,c7,hI⟩:=h k hk;have g (x:Nat):w'.cell? ⟨b,x,none⟩=w.cell? ⟨b,x,none⟩:=f.cell (p:=⟨b,x,none⟩) hb (by simp);exact ⟨b,o,LA,lc,e,Nat.lt_of_lt_of_le hb f.size,(g _).trans c0,(g _).trans c1,(g _).trans c2,(g _).trans c3,(g _).trans c4,(g _).trans c5,(g _).trans c6,(g _).trans c7,hI.far f⟩
theorem rfC_at:∀ (rs:List (Rf × Value)) (k:Nat) (h:k < rs.length) (j:Nat) (_:j < 8),(rfC rs)[k*8+j]? = (rfL rs[k])[j]?:=by
  intro rs;induction rs with
  | nil=>intro k h;simp at h
  | cons x rs ih =>
    intro k h j hj;have e:rfC (x::rs)=rfL x++rfC rs:=by simp [rfC]
    have hl:(rfL x).length=8:=rfl;rw [e];cases k with
    | zero=>rw [Nat.zero_mul,Nat.zero_add,List.getElem?_append_left (by omega)];rfl
    | succ k =>
      rw [List.getElem?_append_right (by omega),hl];have:=ih k (by simpa using h) j hj;rw [show (k+1)*8+j - 8=k*8+j from by omega,this];rfl
def RfS (w:World) (A:Option Addr) (rs:List Rf):Prop :=
  ∀ (k:Nat) (h:k < rs.length),∃ b o LA lc,A=some ⟨b,o,none⟩∧b < w.heap.size∧w.cell? ⟨b,o+k*8,none⟩=some (.int .u8 rs[k].kind)∧w.cell? ⟨b,o+k*8+1,none⟩=some (.int .i64 rs[k].at_)∧w.cell? ⟨b,o+k*8+2,none⟩=some (.int .i64 rs[k].n) ∧
    w.cell? ⟨b,o+k*8+3,none⟩=some (.int .i64 rs[k].a)∧w.cell? ⟨b,o+k*8+4,none⟩=some (.string rs[k].s)∧w.cell? ⟨b,o+k*8+5,none⟩=some (.slice none 0 0)∧w.cell? ⟨b,o+k*8+6,none⟩=some (.int .u64 rs[k].w) ∧
    w.cell? ⟨b,o+k*8+7,none⟩=some (.slice LA rs[k].l.length lc)∧Sl w [] (.slice LA rs[k].l.length lc) (ints rs[k].l)
theorem RfS.far {w w':World} {A:Option Addr} {fs:List Rf} (h:RfS w A fs) (f:MM.Far [] w w'):RfS w' A fs:=by
  intro k hk;obtain ⟨b,o,LA,lc,e,hb,c0,c1,c2,c3,c4,c5,c6,c7,hI⟩:=h k hk;have g (x:Nat):w'.cell? ⟨b,x,none⟩=w.cell? ⟨b,x,none⟩:=f.cell (p:=⟨b,x,none⟩) hb (by simp);exact ⟨b,o,LA,lc,e,Nat.lt_of_lt_of_le hb f.size,(g _).trans c0,(g _).trans c1,(g _).trans c2,(g _).trans c3,(g _).trans c4,(g _).trans c5,(g _).trans c6,(g _).trans c7,hI.far f (by simp)⟩
theorem RfS.row {w:World} {A:Option Addr} {fs:List Rf} (h:RfS w A fs):RfR w A fs:=by
  intro k hk;obtain ⟨b,o,LA,lc,e,hb,c0,c1,c2,c3,c4,c5,c6,c7,hI⟩:=h k hk;refine ⟨b,o,LA,lc,e,hb,c0,c1,c2,c3,c4,c5,c6,c7,fun j hj=>?_⟩
  obtain ⟨A',c',e',_,_,h3⟩:=hI;injection e' with e1 _ _;subst e1;obtain ⟨g,p,e2,_,hl,hc⟩:=h3 j (.int .i64 ((fs[k].l[j]:Nat):Int)) (by unfold ints;rw [List.getElem?_map,List.getElem?_eq_getElem hj];rfl);exact ⟨g,p,e2,hl,hc⟩
end SM
end Go.Proofs.YtodjaabcjojlkaaDoor
