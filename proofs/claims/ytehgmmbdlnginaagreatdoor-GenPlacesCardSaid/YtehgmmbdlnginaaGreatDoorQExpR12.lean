/-
  Layer 8's document: and, or, let*. Conditions: form, of parts of less weight.
-/
import Derived.Test.YtehgmmbdlnginaaGreatDoorQExpR11
namespace Go.Proofs.YtehgmmbdlnginaaGreatDoor
open Go.RowKit
set_option linter.unusedVariables false
namespace EX
open LX RX SX
theorem exq_tr {ns:List Nd} (h:Ok ns) (a n:Int) (st:List Fm):exq ns (.tr a n) st = .ok (st++[frm 2 a n],st.length):=by rw [exq_eq h];rfl
theorem exq_kept {ns:List Nd} (h:Ok ns) (a:Int) (st:List Fm):exq ns (.kept a) st = .ok (st++[⟨4,a,0,EX.blank,[],[]⟩],st.length):=by rw [exq_eq h];rfl
theorem exq_fn {ns:List Nd} (h:Ok ns) (a:Int) (names:List ByteArray) (p:Pt) (st:List Fm):exq ns (.fn a names p) st=bnd (exq ns p st) fun y=>.ok (y.1++[({ (⟨6,a,0,emp,names,[]⟩:Fm) with l:=[y.2] }:Fm)],y.1.length):=by
  rw [exq_eq h];exact runs1 _ _ _ _
theorem exq_and {ns:List Nd} (h:Ok ns) (a:Int) (x y:Nat) (l:List Nat) (st:List Fm):exq ns (.and a (x::y::l)) st=bnd (exq ns (.dat x) st) fun y1=>bnd (exq ns (.and a (y::l)) y1.1) fun y2=>bnd (exq ns (.tr a 0) y2.1) fun y3=>.ok (y3.1++[{ frm 5 a 0 with l:=[y1.2,y2.2,y3.2] }],y3.1.length):=by
  rw [exq_eq h];exact runs3 _ _ _ _ _ _
theorem exq_or {ns:List Nd} (h:Ok ns) (a:Int) (x y:Nat) (l:List Nat) (st:List Fm):exq ns (.or a (x::y::l)) st=bnd (exq ns (.fn a [EX.blank] (.orb a (y::l))) st) fun y1=>bnd (exq ns (.dat x) y1.1) fun y2=>.ok (y2.1++[{ frm 10 a 0 with l:=[y1.2,y2.2] }],y2.1.length):=by
  rw [exq_eq h];exact runs2 _ _ _ _ _
theorem exq_orb {ns:List Nd} (h:Ok ns) (a:Int) (l:List Nat) (st:List Fm):exq ns (.orb a l) st=bnd (exq ns (.kept a) st) fun y1=>bnd (exq ns (.kept a) y1.1) fun y2=>bnd (exq ns (.or a l) y2.1) fun y3=>.ok (y3.1++[{ frm 5 a 0 with l:=[y1.2,y2.2,y3.2] }],y3.1.length):=by
  rw [exq_eq h];exact runs3 _ _ _ _ _ _
theorem exq_nest {ns:List Nd} (h:Ok ns) (a:Int) (s:ByteArray) (ss:List ByteArray) (v:Nat) (vs:List Nat) (p:Pt) (st:List Fm):exq ns (.nested a (s::ss) (v::vs) p) st=bnd (exq ns (.fn a [s] (.nested a ss vs p)) st) fun y1=>bnd (exq ns (.dat v) y1.1) fun y2=>.ok (y2.1++[{ frm 10 a 0 with l:=[y1.2,y2.2] }],y2.1.length):=by
  rw [exq_eq h];exact runs2 _ _ _ _ _
theorem collectF {ns:List Nd} (h:Ok ns) (X:Except Int (List Fm)) (a:Int) (names:List ByteArray) (p:Pt) (v:Nat) (hk:∀ st k,bnd X (exq ns p) = .ok (st,k)→v=k):(bnd (fst' (bnd X (exq ns p))) fun st=>.ok (st++[(⟨6,a,0,emp,names,[v]⟩:Fm)],st.length))=bnd X (exq ns (.fn a names p)):=by
  have:=collect1 _ (⟨6,a,0,emp,names,[]⟩:Fm) v hk;refine this.trans ?_
  rw [bnd_bnd];congr 1
  funext st
  exact (exq_fn h a names p st).symm
end EX
namespace EW
open LX SX RW6 EX
open RX (Nd)
section
variable {w0 w w1:World} {E:List Nat} {q:Nat} {DA:Option Addr} {n c:Nat} {ns:List Nd} {dv fv:Value} {X:Except Int (List Fm)} {B:Nat}
theorem sbitq_any (h:Stx w0 w E q dv fv X B) (hB:B≤200000) (hok:Ok ns) (a z:Int):Calls Tryz.prog 57 #[ptr q,num a,num z] w (OutQ w0 w E q dv fv (bnd X (exq ns (.tr a z))) (B+1)):=by
  have e:exq ns (.tr a z)=fun st=>.ok (st++[frm 2 a z],st.length):=funext fun st=>exq_tr hok a z st
  rw [e];exact sbit_any h hB a z
theorem skept_any (h:Stx w0 w E q dv fv X B) (hB:B≤200000) (hok:Ok ns) (a:Int):Calls Tryz.prog 56 #[ptr q,.agg #[.int .u8 4,.int .i64 a,.int .i64 0,.int .i64 0,.string ⟨#[32]⟩,.slice none 0 0,.int .u64 0,.slice none 0 0]] w (OutQ w0 w E q dv fv (bnd X (exq ns (.kept a))) (B+1)):=by
  have e:exq ns (.kept a)=fun st=>.ok (st++[⟨4,a,0,EX.blank,[],[]⟩],st.length):=funext fun st=>exq_kept hok a st
  rw [e];exact sput_any h hB (⟨4,a,0,EX.blank,[],[]⟩:Fm) (Sl.nil _ _) (Sl.nil _ _)
theorem sput_fn1 {p:Pt} {v:Nat} (hok:Ok ns) (h:Stx w0 w E q dv fv (fst' (bnd X (exq ns p))) B) (hk:∀ st k,bnd X (exq ns p) = .ok (st,k)→v=k) (hB:B≤200000) (a:Int) (s:ByteArray) {b1 b2:Nat} (e1:w.heap.size=b1) (e2:b1+1=b2) :
    Calls Tryz.prog 56 #[ptr q,.agg #[.int .u8 6,.int .i64 a,.int .i64 0,.int .i64 0,.string ⟨#[]⟩,.slice (some ⟨b1,0,none⟩) 1 1,.int .u64 0,.slice (some ⟨b2,0,none⟩) 1 1]]
      ((w.alloc (.cells #[.string s] 9)).alloc (.cells #[.int .i64 ((v:Nat):Int)] 3)) (OutQ w0 w E q dv fv (bnd X (exq ns (.fn a [s] p))) (B+1)):=by
  subst e1 e2;have F1:=(MM.Far.refl [] w).alloc (.cells #[.string s] 9);have F2:=F1.alloc (.cells #[.int .i64 ((v:Nat):Int)] 3);have hz:=h.zlt;have R1:Sl ((w.alloc (.cells #[.string s] 9)).alloc (.cells #[.int .i64 ((v:Nat):Int)] 3)) (E++Zx q fv) (.slice (some ⟨w.heap.size,0,none⟩) 1 1) (strs [s]) :=
    Sl.row ((MM.Row.new w 9 (strs [s])).alloc _) (fun hm=>by have:=hz _ hm;omega) (by rw [strs_len];unfold maxLen;simp)
  have R2:Sl ((w.alloc (.cells #[.string s] 9)).alloc (.cells #[.int .i64 ((v:Nat):Int)] 3)) (E++Zx q fv) (.slice (some ⟨w.heap.size+1,0,none⟩) 1 1) (ints [v]):=by
    have:=Sl.row (Z:=E++Zx q fv) (MM.Row.new (w.alloc (.cells #[.string s] 9)) 3 (ints [v])) (fun hm=>by have:=hz _ hm;rw [sz_alloc] at this;omega) (by rw [ints_len];unfold maxLen;simp);rw [sz_alloc] at this;exact this
  have:=sput_any (h.to F2) hB (⟨6,a,0,emp,[s],[v]⟩:Fm) R1 R2;rw [collectF hok X a [s] p v hk] at this;exact this.mono fun e w1 hQ=>hQ.from (Fr.quiet F2)
theorem sput_fn2 {p:Pt} {v:Nat} (hok:Ok ns) (h:Stx w0 w E q dv fv (fst' (bnd X (exq ns p))) B) (hk:∀ st k,bnd X (exq ns p) = .ok (st,k)→v=k) (hB:B≤200000) (a:Int) (s:ByteArray) {b1 b2:Nat} (e1:w.heap.size=b1) (e2:b1+1=b2) :
    Calls Tryz.prog 56 #[ptr q,.agg #[.int .u8 6,.int .i64 a,.int .i64 0,.int .i64 0,.string ⟨#[]⟩,.slice (some ⟨b2,0,none⟩) 1 1,.int .u64 0,.slice (some ⟨b1,0,none⟩) 1 1]]
      ((w.alloc (.cells #[.int .i64 ((v:Nat):Int)] 3)).alloc (.cells #[.string s] 9)) (OutQ w0 w E q dv fv (bnd X (exq ns (.fn a [s] p))) (B+1)):=by
  subst e1 e2;have F1:=(MM.Far.refl [] w).alloc (.cells #[.int .i64 ((v:Nat):Int)] 3);have F2:=F1.alloc (.cells #[.string s] 9);have hz:=h.zlt;have R1:Sl ((w.alloc (.cells #[.int .i64 ((v:Nat):Int)] 3)).alloc (.cells #[.string s] 9)) (E++Zx q fv) (.slice (some ⟨w.heap.size,0,none⟩) 1 1) (ints [v]) :=
    Sl.row ((MM.Row.new w 3 (ints [v])).alloc _) (fun hm=>by have:=hz _ hm;omega) (by rw [ints_len];unfold maxLen;simp)
  have R2:Sl ((w.alloc (.cells #[.int .i64 ((v:Nat):Int)] 3)).alloc (.cells #[.string s] 9)) (E++Zx q fv) (.slice (some ⟨w.heap.size+1,0,none⟩) 1 1) (strs [s]):=by
    have:=Sl.row (Z:=E++Zx q fv) (MM.Row.new (w.alloc (.cells #[.int .i64 ((v:Nat):Int)] 3)) 9 (strs [s])) (fun hm=>by have:=hz _ hm;rw [sz_alloc] at this;omega) (by rw [strs_len];unfold maxLen;simp);rw [sz_alloc] at this;exact this
  have:=sput_any (h.to F2) hB (⟨6,a,0,emp,[s],[v]⟩:Fm) R2 R1;rw [collectF hok X a [s] p v hk] at this;exact this.mono fun e w1 hQ=>hQ.from (Fr.quiet F2)
theorem sput_two {k:Int} {a:Int} {R1 R2:List Fm→Except Int (List Fm × Nat)} {v1 v2:Nat} (h:Stx w0 w E q dv fv (fst' (bnd (fst' (bnd X R1)) R2)) B) (h1:∀ st k,bnd X R1 = .ok (st,k)→v1=k) (h2:∀ st k,bnd (fst' (bnd X R1)) R2 = .ok (st,k)→v2=k) (hB:B≤200000) {bk:Nat} (e:bk=w.heap.size) :
    Calls Tryz.prog 56 #[ptr q,.agg #[.int .u8 k,.int .i64 a,.int .i64 0,.int .i64 0,.string ⟨#[]⟩,.slice none 0 0,.int .u64 0,.slice (some ⟨bk,0,none⟩) 2 2]]
      (w.alloc (.cells #[.int .i64 ((v1:Nat):Int),.int .i64 ((v2:Nat):Int)] 3)) (OutQ w0 w E q dv fv (bnd X fun st=>bnd (R1 st) fun y1=>bnd (R2 y1.1) fun y2=>.ok (y2.1++[{ frm k a 0 with l:=[y1.2,y2.2] }],y2.1.length)) (B+1)):=by
  have:=sputs_any h hB (⟨k,a,0,emp,[],[v1,v2]⟩:Fm) [v1,v2] (by simp) rfl (Sl.nil _ _) e (m:=2) rfl (xs:=#[.int .i64 ((v1:Nat):Int),.int .i64 ((v2:Nat):Int)]) rfl;rw [← collect2 X R1 R2 (frm k a 0) v1 v2 h1 h2];exact this
theorem sput_three {k:Int} {a:Int} {R1 R2 R3:List Fm→Except Int (List Fm × Nat)} {v1 v2 v3:Nat} (h:Stx w0 w E q dv fv (fst' (bnd (fst' (bnd (fst' (bnd X R1)) R2)) R3)) B) (h1:∀ st k,bnd X R1 = .ok (st,k)→v1=k) (h2:∀ st k,bnd (fst' (bnd X R1)) R2 = .ok (st,k)→v2=k)
    (h3:∀ st k,bnd (fst' (bnd (fst' (bnd X R1)) R2)) R3 = .ok (st,k)→v3=k) (hB:B≤200000) {bk:Nat} (e:bk=w.heap.size) :
    Calls Tryz.prog 56 #[ptr q,.agg #[.int .u8 k,.int .i64 a,.int .i64 0,.int .i64 0,.string ⟨#[]⟩,.slice none 0 0,.int .u64 0,.slice (some ⟨bk,0,none⟩) 3 3]]
      (w.alloc (.cells #[.int .i64 ((v1:Nat):Int),.int .i64 ((v2:Nat):Int),.int .i64 ((v3:Nat):Int)] 3)) (OutQ w0 w E q dv fv (bnd X fun st=>bnd (R1 st) fun y1=>bnd (R2 y1.1) fun y2=>bnd (R3 y2.1) fun y3=>.ok (y3.1++[{ frm k a 0 with l:=[y1.2,y2.2,y3.2] }],y3.1.length)) (B+1)):=by
  have:=sputs_any h hB (⟨k,a,0,emp,[],[v1,v2,v3]⟩:Fm) [v1,v2,v3] (by simp) rfl (Sl.nil _ _) e (m:=3) rfl (xs:=#[.int .i64 ((v1:Nat):Int),.int .i64 ((v2:Nat):Int),.int .i64 ((v3:Nat):Int)]) rfl;rw [← collect3 X R1 R2 R3 (frm k a 0) v1 v2 v3 h1 h2 h3];exact this
set_option maxHeartbeats 4000000 in
set_option maxRecDepth 20000 in
theorem sand_any {N:Nat} (HF:FormC w0 q DA n c ns N) (hok:Ok ns) (a:Int):∀ (l:List Nat) (w:World) (fv:Value) (X:Except Int (List Fm)) (B:Nat) (A:Option Addr) (m lc:Nat),Stx w0 w E q (.slice DA n c) fv X B→Sl w (E++Zx q fv) (.slice A m lc) (ints l) →
    (∀ i∈l,i < n∧16*T ns i - 8≤N)→B+sumT ns l+2≤200000 →
    Calls Tryz.prog 105 #[ptr q,num a,.bool true,.slice A m lc] w (OutQ w0 w E q (.slice DA n c) fv (bnd X (exq ns (.and a l))) (B+sumT ns l+2)):=by
  intro l;induction l with
  | nil =>
    intro w fv X B A m lc h hl hin hB;have hm:=hl.len;rw [show (ints ([]:List Nat)).length=0 from rfl] at hm;subst hm;have HC:=Lib.hid (sbitq_any h (by omega) hok a 1);have e:exq ns (.and a [])=exq ns (.tr a 1):=funext fun st=>by rw [exq_eq hok,exq_eq hok];rfl
    rw [e];clear h hl hin e;unfold ptr num at *;go_enter Tryz.func105,Tryz.ntmps105
    go_wp2_with (first
      | (go_at_call 57;(with_reducible refine HC.out.mono ?_);rintro e w1 hQ;have HQ:=Lib.hid hQ;obtain ⟨k,fv1,he,-⟩:=hQ;(replace he:e = .returned (.int .i64 ((k:Nat):Int)):=he);subst he))
    go_ret
    exact HQ.out.mono (by omega)
  | cons x l ih =>
    intro w fv X B A m lc h hl hin hB;obtain ⟨g,o,c0,e,hc1,hc2,hcs,hs1,-⟩:=Sl.open_ (u:=num x) (vs:=ints l) hl;injection e with e1 e2 e3;subst e1 e3;have c1:=hcs 0 (num x) rfl;rw [Nat.add_zero] at c1;have hx:=hin x (List.mem_cons_self ..);have hsx:sumT ns (x::l)=16*T ns x+sumT ns l:=by simp [sumT]
    rw [hsx] at hB ⊢;have HC1:=Lib.hid (HF _ _ _ _ _ x false hx.1 hx.2 (by omega) h);cases l with
    | nil =>
      have e2:m=1:=e2;subst e2;have e:exq ns (.and a [x])=exq ns (.dat x):=funext fun st=>by rw [exq_eq hok];rfl
      rw [e];clear h hl hin e ih hs1 hcs hsx hx hc1 hc2 e2;unfold ptr num at *;go_enter Tryz.func105,Tryz.ntmps105
      go_wp2_with (first
        | (go_at_call 30;(with_reducible refine HC1.out.mono ?_);rintro e w1 hQ;have HQ:=Lib.hid hQ;obtain ⟨k,fv1,he,-⟩:=hQ;(replace he:e = .returned (.int .i64 ((k:Nat):Int)):=he);subst he))
      go_ret
      exact HQ.out.mono (by omega)
    | cons y t =>
      obtain ⟨m',hm'⟩:∃ m',(ints (y::t)).length=m':=⟨_,rfl⟩
      rw [hm'] at e2 hs1;have h0:¬ (m:Int)=0:=by omega
      have h1:¬ (m:Int)=1:=by rw [← hm',ints_len,List.length_cons] at e2;omega
      have h2:(0:Int) < (m:Int):=by omega
      have hsl:=fun X'=>slice_ints1 g o m' lc m e2.symm X'
      generalize (if lc=1 then some (⟨g,o,none⟩:Addr) else some ⟨g,o+1,none⟩)=SA at hsl hs1;generalize lc - 1=sc at hsl hs1;have HIH:=Lib.hid (fun (w1:World) (fv1:Value) (X1:Except Int (List Fm)) (B1:Nat) (hS:Stx w0 w1 E q (.slice DA n c) fv1 X1 B1) (hF:Fr w w1 q fv fv1) (hB1:B1+sumT ns (y::t)+2≤200000)=>ih w1 fv1 X1 B1 SA m' sc hS (hF.sl hs1) (fun i hi=>hin i (List.mem_cons_of_mem _ hi)) hB1);have HEX:Hid (exq ns (.and a (x::y::t))=_):=Lib.hid (funext fun st=>exq_and hok a x y t st);rw [HEX.out];have HOK:=Lib.hid hok;have HBB:=Lib.hid hB;have HTP:=Lib.hid (T_pos ns x);clear h hl hin hs1 hcs hsx hx ih hm' e2 HEX hc1 hc2;unfold ptr num at *;go_enter Tryz.func105,Tryz.ntmps105
      go_wp2_with (first
        | (go_at_call 30;(with_reducible refine HC1.out.mono ?_);rintro e w1 ⟨k1,fv1,he,hF1,hS1,hk1⟩;(replace he:e = .returned (.int .i64 ((k1:Nat):Int)):=he);subst he;have HC2:=Lib.hid (HIH.out _ _ _ _ hS1 hF1 (by have:=HBB.out;omega));have HF1:=Lib.hid hF1;have HK1:=Lib.hid hk1;clear hF1 hS1 hk1)
        | (go_at_call 105;(with_reducible refine HC2.out.mono ?_);rintro e w2 ⟨k2,fv2,he,hF2,hS2,hk2⟩;(replace he:e = .returned (.int .i64 ((k2:Nat):Int)):=he);subst he;have HC3:=Lib.hid (sbitq_any hS2 (by have:=HBB.out;omega) HOK.out a 0);unfold ptr num at HC3;have HF2:=Lib.hid (HF1.out.trans hF2);have HK2:=Lib.hid hk2;clear hF2 hS2 hk2)
        | (go_at_call 57;(with_reducible refine HC3.out.mono ?_);rintro e w3 ⟨k3,fv3,he,hF3,hS3,hk3⟩;(replace he:e = .returned (.int .i64 ((k3:Nat):Int)):=he);subst he;have HC4:=Lib.hid (sput_three (k:=5) (a:=a) hS3 HK1.out HK2.out hk3 (by have:=HBB.out;have:=HTP.out;omega) rfl);unfold ptr at HC4;have HF3:=Lib.hid (HF2.out.trans hF3);clear hF3 hS3 hk3)
        | (go_at_call 56;(with_reducible refine HC4.out.mono ?_);rintro e w4 hQ;have HQ:=Lib.hid (hQ.from HF3.out);obtain ⟨k4,fv4,he,-⟩:=hQ;(replace he:e = .returned (.int .i64 ((k4:Nat):Int)):=he);subst he))
      go_ret
      exact HQ.out.mono (by have:=HTP.out;omega)
set_option maxHeartbeats 4000000 in
set_option maxRecDepth 20000 in
theorem sor_any {N:Nat} (HF:FormC w0 q DA n c ns N) (hok:Ok ns) (a:Int):∀ (l:List Nat) (w:World) (fv:Value) (X:Except Int (List Fm)) (B:Nat) (A:Option Addr) (m lc:Nat),Stx w0 w E q (.slice DA n c) fv X B→Sl w (E++Zx q fv) (.slice A m lc) (ints l) →
    (∀ i∈l,i < n∧16*T ns i - 8≤N)→B+sumT ns l+2≤200000 →
    Calls Tryz.prog 105 #[ptr q,num a,.bool false,.slice A m lc] w (OutQ w0 w E q (.slice DA n c) fv (bnd X (exq ns (.or a l))) (B+sumT ns l+2)):=by
  intro l;induction l with
  | nil =>
    intro w fv X B A m lc h hl hin hB;have hm:=hl.len;rw [show (ints ([]:List Nat)).length=0 from rfl] at hm;subst hm;have HC:=Lib.hid (sbitq_any h (by omega) hok a 0);have e:exq ns (.or a [])=exq ns (.tr a 0):=funext fun st=>by rw [exq_eq hok,exq_eq hok];rfl
    rw [e];clear h hl hin e;unfold ptr num at *;go_enter Tryz.func105,Tryz.ntmps105
    go_wp2_with (first
      | (go_at_call 57;(with_reducible refine HC.out.mono ?_);rintro e w1 hQ;have HQ:=Lib.hid hQ;obtain ⟨k,fv1,he,-⟩:=hQ;(replace he:e = .returned (.int .i64 ((k:Nat):Int)):=he);subst he))
    go_ret
    exact HQ.out.mono (by omega)
  | cons x l ih =>
    intro w fv X B A m lc h hl hin hB;obtain ⟨g,o,c0,e,hc1,hc2,hcs,hs1,-⟩:=Sl.open_ (u:=num x) (vs:=ints l) hl;injection e with e1 e2 e3;subst e1 e3;have c1:=hcs 0 (num x) rfl;rw [Nat.add_zero] at c1;have hx:=hin x (List.mem_cons_self ..);have hsx:sumT ns (x::l)=16*T ns x+sumT ns l:=by simp [sumT]
    rw [hsx] at hB ⊢;have HC1:=Lib.hid (HF _ _ _ _ _ x false hx.1 hx.2 (by omega) h);cases l with
    | nil =>
      have e2:m=1:=e2;subst e2;have e:exq ns (.or a [x])=exq ns (.dat x):=funext fun st=>by rw [exq_eq hok];rfl
      rw [e];clear h hl hin e ih hs1 hcs hsx hx hc1 hc2 e2;unfold ptr num at *;go_enter Tryz.func105,Tryz.ntmps105
      go_wp2_with (first
        | (go_at_call 30;(with_reducible refine HC1.out.mono ?_);rintro e w1 hQ;have HQ:=Lib.hid hQ;obtain ⟨k,fv1,he,-⟩:=hQ;(replace he:e = .returned (.int .i64 ((k:Nat):Int)):=he);subst he))
      go_ret
      exact HQ.out.mono (by omega)
    | cons y t =>
      obtain ⟨m',hm'⟩:∃ m',(ints (y::t)).length=m':=⟨_,rfl⟩
      rw [hm'] at e2 hs1;have h0:¬ (m:Int)=0:=by omega
      have h1:¬ (m:Int)=1:=by rw [← hm',ints_len,List.length_cons] at e2;omega
      have h2:(0:Int) < (m:Int):=by omega
      have hsl:=fun X'=>slice_ints1 g o m' lc m e2.symm X'
      generalize (if lc=1 then some (⟨g,o,none⟩:Addr) else some ⟨g,o+1,none⟩)=SA at hsl hs1;generalize lc - 1=sc at hsl hs1;have HIH:=Lib.hid (fun (w1:World) (fv1:Value) (X1:Except Int (List Fm)) (B1:Nat) (hS:Stx w0 w1 E q (.slice DA n c) fv1 X1 B1) (hF:Fr w w1 q fv fv1) (hB1:B1+sumT ns (y::t)+2≤200000)=>ih w1 fv1 X1 B1 SA m' sc hS (hF.sl hs1) (fun i hi=>hin i (List.mem_cons_of_mem _ hi)) hB1);have HEX:Hid (exq ns (.or a (x::y::t))=_):=Lib.hid (funext fun st=>exq_or hok a x y t st);rw [HEX.out];have HEX2:Hid (exq ns (.orb a (y::t))=_):=Lib.hid (funext fun st=>exq_orb hok a (y::t) st);have HOK:=Lib.hid hok;have HBB:=Lib.hid hB;have HTP:=Lib.hid (T_pos ns x);have HHL:=Lib.hid hl;have HX:=Lib.hid hx;have HC0:=Lib.hid (skept_any h (by omega) hok a);have HFC:=Lib.hid HF;clear h hl hin hs1 hcs hsx hx ih hm' e2 HEX hc1 hc2 HC1 HF;unfold ptr num at *;go_enter Tryz.func105,Tryz.ntmps105
      go_wp2_with (first
        | (go_at_call 56;(with_reducible refine HC0.out.mono ?_);rintro e w1 ⟨k1,fv1,he,hF1,hS1,hk1⟩;(replace he:e = .returned (.int .i64 ((k1:Nat):Int)):=he);subst he;have HC1:=Lib.hid (skept_any hS1 (by have:=HBB.out;omega) HOK.out a);unfold ptr at HC1;have HF1:=Lib.hid hF1;have HK1:=Lib.hid hk1;clear hF1 hS1 hk1 HC0)
        | (go_at_call 56;(with_reducible refine HC1.out.mono ?_);rintro e w2 ⟨k2,fv2,he,hF2,hS2,hk2⟩;(replace he:e = .returned (.int .i64 ((k2:Nat):Int)):=he);subst he;have HC2:=Lib.hid (HIH.out _ _ _ _ hS2 (HF1.out.trans hF2) (by have:=HBB.out;have:=HTP.out;omega));have HF2:=Lib.hid (HF1.out.trans hF2);have HK2:=Lib.hid hk2;clear hF2 hS2 hk2 HC1)
        | (go_at_call 105;(with_reducible refine HC2.out.mono ?_);rintro e w3 ⟨k3,fv3,he,hF3,hS3,hk3⟩;(replace he:e = .returned (.int .i64 ((k3:Nat):Int)):=he);subst he;have HC3:=Lib.hid (sput_three (k:=5) (a:=a) hS3 HK1.out HK2.out hk3 (by have:=HBB.out;have:=HTP.out;omega) rfl);rw [← HEX2.out] at HC3;unfold ptr at HC3;have HF3:=Lib.hid (HF2.out.trans hF3);clear hF3 hS3 hk3)
        | (go_at_call 56;(with_reducible refine HC3.out.mono ?_);rintro e w4 ⟨k4,fv4,he,hF4,hS4,hk4⟩;(replace he:e = .returned (.int .i64 ((k4:Nat):Int)):=he);subst he;have HC4:=Lib.hid (sput_fn1 HOK.out hS4 hk4 (by have:=HBB.out;have:=HTP.out;omega) a EX.blank rfl rfl);unfold ptr EX.blank at HC4;have HF4:=Lib.hid (HF3.out.trans hF4);clear hF4 hS4 hk4 HC3)
        | (go_at_call 56;(with_reducible refine HC4.out.mono ?_);rintro e w5 ⟨k5,fv5,he,hF5,hS5,hk5⟩;(replace he:e = .returned (.int .i64 ((k5:Nat):Int)):=he);subst he;have HC5:=Lib.hid (HFC.out _ _ _ _ _ x false HX.out.1 HX.out.2 (by have:=HBB.out;have:=HTP.out;omega) hS5);unfold ptr num at HC5;have HF5:=Lib.hid (HF4.out.trans hF5);have HK5:=Lib.hid hk5;have hcx:=(Sl.open_ (u:=.int .i64 (x:Nat)) (vs:=ints (y::t)) (HF5.out.sl HHL.out));obtain ⟨g',o',c',e',-,-,hcs,-,-⟩:=hcx;(injection e' with e1 e2 e3);(injection e1 with e1);(injection e1 with ea eb);subst ea;subst eb;have c5:=hcs 0 _ rfl;rw [Nat.add_zero] at c5;clear hF5 hS5 hk5 HC4 hcs e2 e3)
        | (go_at_call 30;(with_reducible refine HC5.out.mono ?_);rintro e w6 ⟨k6,fv6,he,hF6,hS6,hk6⟩;(replace he:e = .returned (.int .i64 ((k6:Nat):Int)):=he);subst he;have HC6:=Lib.hid (sput_two (k:=10) (a:=a) hS6 HK5.out hk6 (by have:=HBB.out;have:=HTP.out;omega) rfl);unfold ptr at HC6;have HF6:=Lib.hid (HF5.out.trans hF6);clear hF6 hS6 hk6)
        | (go_at_call 56;(with_reducible refine HC6.out.mono ?_);rintro e w7 hQ;have HQ:=Lib.hid (hQ.from HF6.out);obtain ⟨k7,fv7,he,-⟩:=hQ;(replace he:e = .returned (.int .i64 ((k7:Nat):Int)):=he);subst he))
      go_ret
      exact HQ.out.mono (by have:=HTP.out;omega)
end
end EW
end Go.Proofs.YtehgmmbdlnginaaGreatDoor
