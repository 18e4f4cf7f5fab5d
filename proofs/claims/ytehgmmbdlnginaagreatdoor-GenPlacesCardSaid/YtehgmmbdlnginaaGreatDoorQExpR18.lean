/-
  Layer 8's document: a list with a reserved name at its head, name by name. Conditions: form, of parts of less weight.
-/
import Derived.Test.YtehgmmbdlnginaaGreatDoorQExpR17
namespace Go.Proofs.YtehgmmbdlnginaaGreatDoor
open Go.RowKit
set_option linter.unusedVariables false
namespace EX
open LX RX SX
theorem shape_Quote (ns:List Nd) (a:Int) (r:List Nat) (top:Bool):shape ns nQuote a r top=if r.length=1 then .mk (frm 3 a (r.getD 0 0:Nat)) [] else .bad a:=by
  unfold shape;rw [show least nQuote=1 from by decide,if_pos rfl];by_cases h1:r.length < 1
  · rw [if_pos h1,if_neg (by omega)]
  · rw [if_neg h1];by_cases h2:1 < r.length
    · rw [if_pos h2,if_neg (by omega)]
    · rw [if_neg h2,if_pos (by omega)]
theorem shape_If (ns:List Nd) (a:Int) (r:List Nat) (top:Bool):shape ns nIf a r top=if r.length < 2∨3 < r.length then .bad a else ifP a r:=by
  unfold shape;rw [show least nIf=2 from by decide,if_neg (show ¬ nIf=nQuote by decide),if_pos rfl];by_cases h1:r.length < 2
  · rw [if_pos h1,if_pos (.inl h1)]
  · rw [if_neg h1];by_cases h2:3 < r.length
    · rw [if_pos h2,if_pos (.inr h2)]
    · rw [if_neg h2,if_neg (by omega)]
theorem shape_Lambda (ns:List Nd) (a:Int) (r:List Nat) (top:Bool):shape ns nLambda a r top=atL 2 a r (lambdaP ns a r):=by
  unfold shape;rw [show least nLambda=2 from by decide,if_neg (show ¬ nLambda=nQuote by decide),if_neg (show ¬ nLambda=nIf by decide),if_pos rfl];rfl
theorem shape_Set (ns:List Nd) (a:Int) (r:List Nat) (top:Bool):shape ns nSet a r top=if r.length=2 then setP ns a r else .bad a:=by
  unfold shape;rw [show least nSet=2 from by decide,if_neg (show ¬ nSet=nQuote by decide),if_neg (show ¬ nSet=nIf by decide),if_neg (show ¬ nSet=nLambda by decide),if_pos rfl];by_cases h1:r.length < 2
  · rw [if_pos h1,if_neg (by omega)]
  · rw [if_neg h1];by_cases h2:2 < r.length
    · rw [if_pos h2,if_neg (by omega)]
    · rw [if_neg h2,if_pos (by omega)]
theorem shape_Begin (ns:List Nd) (a:Int) (r:List Nat) (top:Bool):shape ns nBegin a r top=atL 1 a r (.ins (body a r)):=by
  unfold shape;rw [show least nBegin=1 from by decide,if_neg (show ¬ nBegin=nQuote by decide),if_neg (show ¬ nBegin=nIf by decide),if_neg (show ¬ nBegin=nLambda by decide),if_neg (show ¬ nBegin=nSet by decide),if_pos rfl];rfl
theorem shape_Define (ns:List Nd) (a:Int) (r:List Nat) (top:Bool):shape ns nDefine a r top=atL 2 a r (defineP ns a r top):=by
  unfold shape;rw [show least nDefine=2 from by decide,if_neg (show ¬ nDefine=nQuote by decide),if_neg (show ¬ nDefine=nIf by decide),if_neg (show ¬ nDefine=nLambda by decide),if_neg (show ¬ nDefine=nSet by decide),if_neg (show ¬ nDefine=nBegin by decide),if_pos rfl];rfl
theorem shape_Let (ns:List Nd) (a:Int) (r:List Nat) (top:Bool):shape ns nLet a r top=atL 2 a r (letP ns a r):=by
  unfold shape;rw [show least nLet=2 from by decide,if_neg (show ¬ nLet=nQuote by decide),if_neg (show ¬ nLet=nIf by decide),if_neg (show ¬ nLet=nLambda by decide),if_neg (show ¬ nLet=nSet by decide),if_neg (show ¬ nLet=nBegin by decide),if_neg (show ¬ nLet=nDefine by decide),if_pos rfl];rfl
theorem shape_Star (ns:List Nd) (a:Int) (r:List Nat) (top:Bool):shape ns nStar a r top=atL 2 a r (starP ns a r):=by
  unfold shape;rw [show least nStar=2 from by decide,if_neg (show ¬ nStar=nQuote by decide),if_neg (show ¬ nStar=nIf by decide),if_neg (show ¬ nStar=nLambda by decide),if_neg (show ¬ nStar=nSet by decide),if_neg (show ¬ nStar=nBegin by decide),if_neg (show ¬ nStar=nDefine by decide),if_neg (show ¬ nStar=nLet by decide),if_pos rfl];rfl
theorem shape_Cond (ns:List Nd) (a:Int) (r:List Nat) (top:Bool):shape ns nCond a r top=atL 1 a r (condP ns a r):=by
  unfold shape;rw [show least nCond=1 from by decide,if_neg (show ¬ nCond=nQuote by decide),if_neg (show ¬ nCond=nIf by decide),if_neg (show ¬ nCond=nLambda by decide),if_neg (show ¬ nCond=nSet by decide),if_neg (show ¬ nCond=nBegin by decide),if_neg (show ¬ nCond=nDefine by decide),if_neg (show ¬ nCond=nLet by decide),if_neg (show ¬ nCond=nStar by decide),if_pos rfl];rfl
theorem shape_And (ns:List Nd) (a:Int) (r:List Nat) (top:Bool):shape ns nAnd a r top=andP a r:=by
  unfold shape;rw [show least nAnd=0 from by decide,if_neg (show ¬ nAnd=nQuote by decide),if_neg (show ¬ nAnd=nIf by decide),if_neg (show ¬ nAnd=nLambda by decide),if_neg (show ¬ nAnd=nSet by decide),if_neg (show ¬ nAnd=nBegin by decide),if_neg (show ¬ nAnd=nDefine by decide),if_neg (show ¬ nAnd=nLet by decide),if_neg (show ¬ nAnd=nStar by decide),if_neg (show ¬ nAnd=nCond by decide),if_pos rfl];rw [if_neg (by omega)]
theorem shape_Or (ns:List Nd) (a:Int) (r:List Nat) (top:Bool):shape ns nOr a r top=orP a r:=by
  unfold shape;rw [show least nOr=0 from by decide,if_neg (show ¬ nOr=nQuote by decide),if_neg (show ¬ nOr=nIf by decide),if_neg (show ¬ nOr=nLambda by decide),if_neg (show ¬ nOr=nSet by decide),if_neg (show ¬ nOr=nBegin by decide),if_neg (show ¬ nOr=nDefine by decide),if_neg (show ¬ nOr=nLet by decide),if_neg (show ¬ nOr=nStar by decide),if_neg (show ¬ nOr=nCond by decide),if_neg (show ¬ nOr=nAnd by decide),if_pos rfl];rw [if_neg (by omega)]
theorem shape_When (ns:List Nd) (a:Int) (r:List Nat) (top:Bool):shape ns nWhen a r top=atL 2 a r (whenP a r):=by
  unfold shape;rw [show least nWhen=2 from by decide,if_neg (show ¬ nWhen=nQuote by decide),if_neg (show ¬ nWhen=nIf by decide),if_neg (show ¬ nWhen=nLambda by decide),if_neg (show ¬ nWhen=nSet by decide),if_neg (show ¬ nWhen=nBegin by decide),if_neg (show ¬ nWhen=nDefine by decide),if_neg (show ¬ nWhen=nLet by decide),if_neg (show ¬ nWhen=nStar by decide),if_neg (show ¬ nWhen=nCond by decide),if_neg (show ¬ nWhen=nAnd by decide),if_neg (show ¬ nWhen=nOr by decide),if_pos rfl];rfl
theorem shape_Unless (ns:List Nd) (a:Int) (r:List Nat) (top:Bool):shape ns nUnless a r top=atL 2 a r (unlessP a r):=by
  unfold shape;rw [show least nUnless=2 from by decide,if_neg (show ¬ nUnless=nQuote by decide),if_neg (show ¬ nUnless=nIf by decide),if_neg (show ¬ nUnless=nLambda by decide),if_neg (show ¬ nUnless=nSet by decide),if_neg (show ¬ nUnless=nBegin by decide),if_neg (show ¬ nUnless=nDefine by decide),if_neg (show ¬ nUnless=nLet by decide),if_neg (show ¬ nUnless=nStar by decide),if_neg (show ¬ nUnless=nCond by decide),if_neg (show ¬ nUnless=nAnd by decide),if_neg (show ¬ nUnless=nOr by decide),if_neg (show ¬ nUnless=nWhen by decide),if_pos rfl];rfl
theorem shape_Else (ns:List Nd) (a:Int) (r:List Nat) (top:Bool):shape ns nElse a r top = .bad a:=by
  unfold shape;rw [show least nElse=0 from by decide,if_neg (show ¬ nElse=nQuote by decide),if_neg (show ¬ nElse=nIf by decide),if_neg (show ¬ nElse=nLambda by decide),if_neg (show ¬ nElse=nSet by decide),if_neg (show ¬ nElse=nBegin by decide),if_neg (show ¬ nElse=nDefine by decide),if_neg (show ¬ nElse=nLet by decide),if_neg (show ¬ nElse=nStar by decide),if_neg (show ¬ nElse=nCond by decide),if_neg (show ¬ nElse=nAnd by decide),if_neg (show ¬ nElse=nOr by decide),if_neg (show ¬ nElse=nWhen by decide),if_neg (show ¬ nElse=nUnless by decide)];rw [if_neg (by omega)]
end EX
namespace EW
open LX SX RW6 EX
open RX (Nd)
section
variable {w0 w w1:World} {Z E:List Nat} {q:Nat} {b o:Nat} {n c:Nat} {ns:List Nd} {dv fv:Value} {X:Except Int (List Fm)} {B:Nat}
set_option maxHeartbeats 4000000 in
set_option maxRecDepth 20000 in
theorem sp_If {N:Nat} (HF:FormC w0 q (some ⟨b,o,none⟩) n c ns N) (D:Dta w0 (some ⟨b,o,none⟩) n ns) (h:Stx w0 w E q (.slice (some ⟨b,o,none⟩) n c) fv X B) {i:Nat} (hi:i < n) (hN:16*T ns i≤N+9) (hB:B+(16*T ns i - 8)≤200000) {x:Nat} {r:List Nat} (hl:(ndAt ns i).l=x::r) (hs:(ndAt ns x).s=⟨#[105,102]⟩) (top:Bool) :
    Calls Tryz.prog 60 #[ptr q,num i,.bool top] w (OutQ w0 w E q (.slice (some ⟨b,o,none⟩) n c) fv (bnd X (onPl (exq ns) (if r.length < 2∨3 < r.length then .bad (ndAt ns i).at_ else ifP (ndAt ns i).at_ r))) (B+(16*T ns i - 8))):=by
  obtain ⟨g,oo,m,lc,kd,nd,a,sd,H⟩:=h.hd D hi hl;have HW:=Lib.hid (fun (w':World) (f:MM.Far [] w w')=>swrong_any (h.to f) D.nd D.len hi (D.at0 i));have ha:=H.ha;rw [ha] at HW ⊢;have hi0:(0:Int)≤(i:Int):=by omega
  have hi1:(i:Int) < (n:Int):=by omega
  obtain ⟨hb,d0,d1,d2,d3,d4,c0,sl,hm,-,hT,hall,hkT,few,F0,R0,hbx⟩:=H;have hx:=D.kid (i:=i) (p:=x) (by rw [hl];exact List.mem_cons_self ..);obtain ⟨LB,lb,-,-,-,-,g3,-,-⟩:=h.datc D hx;rw [hs] at g3;have hx0:(0:Int)≤(x:Int):=by omega
  have hx1:(x:Int) < (n:Int):=by omega
  have hm0:(0:Int) < (m:Int):=by omega
  have hm0n:0 < m:=by omega
  have HSL:=Lib.hid (sl.far F0 (by simp));have x0:=HSL.out.get 0 (j:=oo) rfl rfl;have v0:=far_cell F0 c0;have v1:=R0.at (i:=1) rfl;have v4:=R0.at (i:=4) rfl;have vg3:=far_cell F0 g3;have HBX:=Lib.hid R0;have HBZ:=Lib.hid hbx;have HF0:=Lib.hid F0;have HTP:=Lib.hid (T_pos ns x);have HBB:=Lib.hid hB;have HTT:=Lib.hid hT;have HMM:=Lib.hid hm;have HC:=Lib.hid (sif_any HF D (h.to F0.drew) hi hN hB hl);rw [ha] at HC;generalize hRR:onPl (exq ns) (if r.length < 2∨3 < r.length then .bad a else ifP a r)=RR at *;clear HF D h hl hT hall hkT sl F0 R0 ha hs hx hm HW hRR;unfold ptr num at *;go_enter Tryz.func60,Tryz.ntmps60
  go_wp2;generalize w.alloc (.cells #[.int .u8 kd,.int .i64 a,.int .i64 nd,.string sd,.slice (some ⟨g,oo,none⟩) m lc] 122)=W at *
  go_region_held3 (fun w'=>w'.cell? ⟨q,0,none⟩=some (.slice (some ⟨b,o,none⟩) n c)∧w'.cell? ⟨w.heap.size,4,none⟩=some (.slice (some ⟨g,oo,none⟩) m lc)∧w'.cell? ⟨g,oo,none⟩=some (.int .i64 (x:Nat))∧w'.cell? ⟨b,o+x*5+3,none⟩=some (.string ⟨#[105,102]⟩)) (first | (with_reducible assumption) | go_keep) (fail)
  go_wp2_with (first
    | (go_at_call 97;(with_reducible refine HC.out.mono ?_);rintro e w3 hQ;have HQ:=Lib.hid (hQ.from (Fr.quiet HF0.out.drew));obtain ⟨k,fv1,he,-⟩:=hQ;(replace he:e = .returned (.int .i64 ((k:Nat):Int)):=he);subst he))
  go_ret
  exact HQ.out
set_option maxHeartbeats 4000000 in
set_option maxRecDepth 20000 in
theorem sp_When {N:Nat} (HF:FormC w0 q (some ⟨b,o,none⟩) n c ns N) (D:Dta w0 (some ⟨b,o,none⟩) n ns) (h:Stx w0 w E q (.slice (some ⟨b,o,none⟩) n c) fv X B) {i:Nat} (hi:i < n) (hN:16*T ns i≤N+9) (hB:B+(16*T ns i - 8)≤200000) {x:Nat} {r:List Nat} (hl:(ndAt ns i).l=x::r) (hs:(ndAt ns x).s=⟨#[119,104,101,110]⟩) (top:Bool) :
    Calls Tryz.prog 60 #[ptr q,num i,.bool top] w (OutQ w0 w E q (.slice (some ⟨b,o,none⟩) n c) fv (bnd X (onPl (exq ns) (atL 2 (ndAt ns i).at_ r (whenP (ndAt ns i).at_ r)))) (B+(16*T ns i - 8))):=by
  obtain ⟨g,oo,m,lc,kd,nd,a,sd,H⟩:=h.hd D hi hl;have HW:=Lib.hid (fun (w':World) (f:MM.Far [] w w')=>swrong_any (h.to f) D.nd D.len hi (D.at0 i));have ha:=H.ha;rw [ha] at HW ⊢;have hi0:(0:Int)≤(i:Int):=by omega
  have hi1:(i:Int) < (n:Int):=by omega
  obtain ⟨hb,d0,d1,d2,d3,d4,c0,sl,hm,-,hT,hall,hkT,few,F0,R0,hbx⟩:=H;have hx:=D.kid (i:=i) (p:=x) (by rw [hl];exact List.mem_cons_self ..);obtain ⟨LB,lb,-,-,-,-,g3,-,-⟩:=h.datc D hx;rw [hs] at g3;have hx0:(0:Int)≤(x:Int):=by omega
  have hx1:(x:Int) < (n:Int):=by omega
  have hm0:(0:Int) < (m:Int):=by omega
  have hm0n:0 < m:=by omega
  have HSL:=Lib.hid (sl.far F0 (by simp));have x0:=HSL.out.get 0 (j:=oo) rfl rfl;have v0:=far_cell F0 c0;have v1:=R0.at (i:=1) rfl;have v4:=R0.at (i:=4) rfl;have vg3:=far_cell F0 g3;have HBX:=Lib.hid R0;have HBZ:=Lib.hid hbx;have HF0:=Lib.hid F0;have HTP:=Lib.hid (T_pos ns x);have HBB:=Lib.hid hB;have HTT:=Lib.hid hT;have HMM:=Lib.hid hm;have HC:=Lib.hid (swhen_any HF D (h.to F0.drew) hi hN hB hl);rw [ha] at HC;generalize hRR:onPl (exq ns) (atL 2 a r (whenP a r))=RR at *;clear HF D h hl hT hall hkT sl F0 R0 ha hs hx hm HW hRR;unfold ptr num at *;go_enter Tryz.func60,Tryz.ntmps60
  go_wp2;generalize w.alloc (.cells #[.int .u8 kd,.int .i64 a,.int .i64 nd,.string sd,.slice (some ⟨g,oo,none⟩) m lc] 122)=W at *
  go_region_held3 (fun w'=>w'.cell? ⟨q,0,none⟩=some (.slice (some ⟨b,o,none⟩) n c)∧w'.cell? ⟨w.heap.size,4,none⟩=some (.slice (some ⟨g,oo,none⟩) m lc)∧w'.cell? ⟨g,oo,none⟩=some (.int .i64 (x:Nat))∧w'.cell? ⟨b,o+x*5+3,none⟩=some (.string ⟨#[119,104,101,110]⟩)) (first | (with_reducible assumption) | go_keep) (fail)
  go_wp2_with (first
    | (go_at_call 97;(with_reducible refine HC.out.mono ?_);rintro e w3 hQ;have HQ:=Lib.hid (hQ.from (Fr.quiet HF0.out.drew));obtain ⟨k,fv1,he,-⟩:=hQ;(replace he:e = .returned (.int .i64 ((k:Nat):Int)):=he);subst he))
  go_ret
  exact HQ.out
set_option maxHeartbeats 4000000 in
set_option maxRecDepth 20000 in
theorem sp_Unless {N:Nat} (HF:FormC w0 q (some ⟨b,o,none⟩) n c ns N) (D:Dta w0 (some ⟨b,o,none⟩) n ns) (h:Stx w0 w E q (.slice (some ⟨b,o,none⟩) n c) fv X B) {i:Nat} (hi:i < n) (hN:16*T ns i≤N+9) (hB:B+(16*T ns i - 8)≤200000) {x:Nat} {r:List Nat} (hl:(ndAt ns i).l=x::r) (hs:(ndAt ns x).s=⟨#[117,110,108,101,115,115]⟩) (top:Bool) :
    Calls Tryz.prog 60 #[ptr q,num i,.bool top] w (OutQ w0 w E q (.slice (some ⟨b,o,none⟩) n c) fv (bnd X (onPl (exq ns) (atL 2 (ndAt ns i).at_ r (unlessP (ndAt ns i).at_ r)))) (B+(16*T ns i - 8))):=by
  obtain ⟨g,oo,m,lc,kd,nd,a,sd,H⟩:=h.hd D hi hl;have HW:=Lib.hid (fun (w':World) (f:MM.Far [] w w')=>swrong_any (h.to f) D.nd D.len hi (D.at0 i));have ha:=H.ha;rw [ha] at HW ⊢;have hi0:(0:Int)≤(i:Int):=by omega
  have hi1:(i:Int) < (n:Int):=by omega
  obtain ⟨hb,d0,d1,d2,d3,d4,c0,sl,hm,-,hT,hall,hkT,few,F0,R0,hbx⟩:=H;have hx:=D.kid (i:=i) (p:=x) (by rw [hl];exact List.mem_cons_self ..);obtain ⟨LB,lb,-,-,-,-,g3,-,-⟩:=h.datc D hx;rw [hs] at g3;have hx0:(0:Int)≤(x:Int):=by omega
  have hx1:(x:Int) < (n:Int):=by omega
  have hm0:(0:Int) < (m:Int):=by omega
  have hm0n:0 < m:=by omega
  have HSL:=Lib.hid (sl.far F0 (by simp));have x0:=HSL.out.get 0 (j:=oo) rfl rfl;have v0:=far_cell F0 c0;have v1:=R0.at (i:=1) rfl;have v4:=R0.at (i:=4) rfl;have vg3:=far_cell F0 g3;have HBX:=Lib.hid R0;have HBZ:=Lib.hid hbx;have HF0:=Lib.hid F0;have HTP:=Lib.hid (T_pos ns x);have HBB:=Lib.hid hB;have HTT:=Lib.hid hT;have HMM:=Lib.hid hm;have HC:=Lib.hid (sunless_any HF D (h.to F0.drew) hi hN hB hl);rw [ha] at HC;generalize hRR:onPl (exq ns) (atL 2 a r (unlessP a r))=RR at *;clear HF D h hl hT hall hkT sl F0 R0 ha hs hx hm HW hRR;unfold ptr num at *;go_enter Tryz.func60,Tryz.ntmps60
  go_wp2;generalize w.alloc (.cells #[.int .u8 kd,.int .i64 a,.int .i64 nd,.string sd,.slice (some ⟨g,oo,none⟩) m lc] 122)=W at *
  go_region_held3 (fun w'=>w'.cell? ⟨q,0,none⟩=some (.slice (some ⟨b,o,none⟩) n c)∧w'.cell? ⟨w.heap.size,4,none⟩=some (.slice (some ⟨g,oo,none⟩) m lc)∧w'.cell? ⟨g,oo,none⟩=some (.int .i64 (x:Nat))∧w'.cell? ⟨b,o+x*5+3,none⟩=some (.string ⟨#[117,110,108,101,115,115]⟩)) (first | (with_reducible assumption) | go_keep) (fail)
  go_wp2_with (first
    | (go_at_call 97;(with_reducible refine HC.out.mono ?_);rintro e w3 hQ;have HQ:=Lib.hid (hQ.from (Fr.quiet HF0.out.drew));obtain ⟨k,fv1,he,-⟩:=hQ;(replace he:e = .returned (.int .i64 ((k:Nat):Int)):=he);subst he))
  go_ret
  exact HQ.out
set_option maxHeartbeats 4000000 in
set_option maxRecDepth 20000 in
theorem sp_Lambda {N:Nat} (HF:FormC w0 q (some ⟨b,o,none⟩) n c ns N) (D:Dta w0 (some ⟨b,o,none⟩) n ns) (h:Stx w0 w E q (.slice (some ⟨b,o,none⟩) n c) fv X B) {i:Nat} (hi:i < n) (hN:16*T ns i≤N+9) (hB:B+(16*T ns i - 8)≤200000) {x:Nat} {r:List Nat} (hl:(ndAt ns i).l=x::r) (hs:(ndAt ns x).s=⟨#[108,97,109,98,100,97]⟩) (top:Bool) :
    Calls Tryz.prog 60 #[ptr q,num i,.bool top] w (OutQ w0 w E q (.slice (some ⟨b,o,none⟩) n c) fv (bnd X (onPl (exq ns) (atL 2 (ndAt ns i).at_ r (lambdaP ns (ndAt ns i).at_ r)))) (B+(16*T ns i - 8))):=by
  obtain ⟨g,oo,m,lc,kd,nd,a,sd,H⟩:=h.hd D hi hl;have HW:=Lib.hid (fun (w':World) (f:MM.Far [] w w')=>swrong_any (h.to f) D.nd D.len hi (D.at0 i));have ha:=H.ha;rw [ha] at HW ⊢;have hi0:(0:Int)≤(i:Int):=by omega
  have hi1:(i:Int) < (n:Int):=by omega
  obtain ⟨hb,d0,d1,d2,d3,d4,c0,sl,hm,-,hT,hall,hkT,few,F0,R0,hbx⟩:=H;have hx:=D.kid (i:=i) (p:=x) (by rw [hl];exact List.mem_cons_self ..);obtain ⟨LB,lb,-,-,-,-,g3,-,-⟩:=h.datc D hx;rw [hs] at g3;have hx0:(0:Int)≤(x:Int):=by omega
  have hx1:(x:Int) < (n:Int):=by omega
  have hm0:(0:Int) < (m:Int):=by omega
  have hm0n:0 < m:=by omega
  have HSL:=Lib.hid (sl.far F0 (by simp));have x0:=HSL.out.get 0 (j:=oo) rfl rfl;have v0:=far_cell F0 c0;have v1:=R0.at (i:=1) rfl;have v4:=R0.at (i:=4) rfl;have vg3:=far_cell F0 g3;have HBX:=Lib.hid R0;have HBZ:=Lib.hid hbx;have HF0:=Lib.hid F0;have HTP:=Lib.hid (T_pos ns x);have HBB:=Lib.hid hB;have HTT:=Lib.hid hT;have HMM:=Lib.hid hm;have HC:=Lib.hid (slambda_any HF D (h.to F0.drew) hi hN hB hl);rw [ha] at HC;generalize hRR:onPl (exq ns) (atL 2 a r (lambdaP ns a r))=RR at *;clear HF D h hl hT hall hkT sl F0 R0 ha hs hx hm HW hRR;unfold ptr num at *;go_enter Tryz.func60,Tryz.ntmps60
  go_wp2;generalize w.alloc (.cells #[.int .u8 kd,.int .i64 a,.int .i64 nd,.string sd,.slice (some ⟨g,oo,none⟩) m lc] 122)=W at *
  go_region_held3 (fun w'=>w'.cell? ⟨q,0,none⟩=some (.slice (some ⟨b,o,none⟩) n c)∧w'.cell? ⟨w.heap.size,4,none⟩=some (.slice (some ⟨g,oo,none⟩) m lc)∧w'.cell? ⟨g,oo,none⟩=some (.int .i64 (x:Nat))∧w'.cell? ⟨b,o+x*5+3,none⟩=some (.string ⟨#[108,97,109,98,100,97]⟩)) (first | (with_reducible assumption) | go_keep) (fail)
  go_wp2_with (first
    | (go_at_call 98;(with_reducible refine HC.out.mono ?_);rintro e w3 hQ;have HQ:=Lib.hid (hQ.from (Fr.quiet HF0.out.drew));obtain ⟨k,fv1,he,-⟩:=hQ;(replace he:e = .returned (.int .i64 ((k:Nat):Int)):=he);subst he))
  go_ret
  exact HQ.out
set_option maxHeartbeats 4000000 in
set_option maxRecDepth 20000 in
theorem sp_Let {N:Nat} (HF:FormC w0 q (some ⟨b,o,none⟩) n c ns N) (D:Dta w0 (some ⟨b,o,none⟩) n ns) (h:Stx w0 w E q (.slice (some ⟨b,o,none⟩) n c) fv X B) {i:Nat} (hi:i < n) (hN:16*T ns i≤N+9) (hB:B+(16*T ns i - 8)≤200000) {x:Nat} {r:List Nat} (hl:(ndAt ns i).l=x::r) (hs:(ndAt ns x).s=⟨#[108,101,116]⟩) (top:Bool) :
    Calls Tryz.prog 60 #[ptr q,num i,.bool top] w (OutQ w0 w E q (.slice (some ⟨b,o,none⟩) n c) fv (bnd X (onPl (exq ns) (atL 2 (ndAt ns i).at_ r (letP ns (ndAt ns i).at_ r)))) (B+(16*T ns i - 8))):=by
  obtain ⟨g,oo,m,lc,kd,nd,a,sd,H⟩:=h.hd D hi hl;have HW:=Lib.hid (fun (w':World) (f:MM.Far [] w w')=>swrong_any (h.to f) D.nd D.len hi (D.at0 i));have ha:=H.ha;rw [ha] at HW ⊢;have hi0:(0:Int)≤(i:Int):=by omega
  have hi1:(i:Int) < (n:Int):=by omega
  obtain ⟨hb,d0,d1,d2,d3,d4,c0,sl,hm,-,hT,hall,hkT,few,F0,R0,hbx⟩:=H;have hx:=D.kid (i:=i) (p:=x) (by rw [hl];exact List.mem_cons_self ..);obtain ⟨LB,lb,-,-,-,-,g3,-,-⟩:=h.datc D hx;rw [hs] at g3;have hx0:(0:Int)≤(x:Int):=by omega
  have hx1:(x:Int) < (n:Int):=by omega
  have hm0:(0:Int) < (m:Int):=by omega
  have hm0n:0 < m:=by omega
  have HSL:=Lib.hid (sl.far F0 (by simp));have x0:=HSL.out.get 0 (j:=oo) rfl rfl;have v0:=far_cell F0 c0;have v1:=R0.at (i:=1) rfl;have v4:=R0.at (i:=4) rfl;have vg3:=far_cell F0 g3;have HBX:=Lib.hid R0;have HBZ:=Lib.hid hbx;have HF0:=Lib.hid F0;have HTP:=Lib.hid (T_pos ns x);have HBB:=Lib.hid hB;have HTT:=Lib.hid hT;have HMM:=Lib.hid hm;have HC:=Lib.hid (slet_any HF D (h.to F0.drew) hi hN hB hl);rw [ha] at HC;generalize hRR:onPl (exq ns) (atL 2 a r (letP ns a r))=RR at *;clear HF D h hl hT hall hkT sl F0 R0 ha hs hx hm HW hRR;unfold ptr num at *;go_enter Tryz.func60,Tryz.ntmps60
  go_wp2;generalize w.alloc (.cells #[.int .u8 kd,.int .i64 a,.int .i64 nd,.string sd,.slice (some ⟨g,oo,none⟩) m lc] 122)=W at *
  go_region_held3 (fun w'=>w'.cell? ⟨q,0,none⟩=some (.slice (some ⟨b,o,none⟩) n c)∧w'.cell? ⟨w.heap.size,4,none⟩=some (.slice (some ⟨g,oo,none⟩) m lc)∧w'.cell? ⟨g,oo,none⟩=some (.int .i64 (x:Nat))∧w'.cell? ⟨b,o+x*5+3,none⟩=some (.string ⟨#[108,101,116]⟩)) (first | (with_reducible assumption) | go_keep) (fail)
  go_wp2_with (first
    | (go_at_call 102;(with_reducible refine HC.out.mono ?_);rintro e w3 hQ;have HQ:=Lib.hid (hQ.from (Fr.quiet HF0.out.drew));obtain ⟨k,fv1,he,-⟩:=hQ;(replace he:e = .returned (.int .i64 ((k:Nat):Int)):=he);subst he))
  go_ret
  exact HQ.out
set_option maxHeartbeats 4000000 in
set_option maxRecDepth 20000 in
theorem sp_Define_t {N:Nat} (HF:FormC w0 q (some ⟨b,o,none⟩) n c ns N) (D:Dta w0 (some ⟨b,o,none⟩) n ns) (h:Stx w0 w E q (.slice (some ⟨b,o,none⟩) n c) fv X B) {i:Nat} (hi:i < n) (hN:16*T ns i≤N+9) (hB:B+(16*T ns i - 8)≤200000) {x:Nat} {r:List Nat} (hl:(ndAt ns i).l=x::r) (hs:(ndAt ns x).s=⟨#[100,101,102,105,110,101]⟩) :
    Calls Tryz.prog 60 #[ptr q,num i,.bool true] w (OutQ w0 w E q (.slice (some ⟨b,o,none⟩) n c) fv (bnd X (onPl (exq ns) (atL 2 (ndAt ns i).at_ r (defineP ns (ndAt ns i).at_ r true)))) (B+(16*T ns i - 8))):=by
  obtain ⟨g,oo,m,lc,kd,nd,a,sd,H⟩:=h.hd D hi hl;have HW:=Lib.hid (fun (w':World) (f:MM.Far [] w w')=>swrong_any (h.to f) D.nd D.len hi (D.at0 i));have ha:=H.ha;rw [ha] at HW ⊢;have hi0:(0:Int)≤(i:Int):=by omega
  have hi1:(i:Int) < (n:Int):=by omega
  obtain ⟨hb,d0,d1,d2,d3,d4,c0,sl,hm,-,hT,hall,hkT,few,F0,R0,hbx⟩:=H;have hx:=D.kid (i:=i) (p:=x) (by rw [hl];exact List.mem_cons_self ..);obtain ⟨LB,lb,-,-,-,-,g3,-,-⟩:=h.datc D hx;rw [hs] at g3;have hx0:(0:Int)≤(x:Int):=by omega
  have hx1:(x:Int) < (n:Int):=by omega
  have hm0:(0:Int) < (m:Int):=by omega
  have hm0n:0 < m:=by omega
  have HSL:=Lib.hid (sl.far F0 (by simp));have x0:=HSL.out.get 0 (j:=oo) rfl rfl;have v0:=far_cell F0 c0;have v1:=R0.at (i:=1) rfl;have v4:=R0.at (i:=4) rfl;have vg3:=far_cell F0 g3;have HBX:=Lib.hid R0;have HBZ:=Lib.hid hbx;have HF0:=Lib.hid F0;have HTP:=Lib.hid (T_pos ns x);have HBB:=Lib.hid hB;have HTT:=Lib.hid hT;have HMM:=Lib.hid hm;have HC:=Lib.hid (sdefine_any HF D (h.to F0.drew) hi hN hB hl);rw [ha] at HC;generalize hRR:onPl (exq ns) (atL 2 a r (defineP ns a r true))=RR at *;clear HF D h hl hT hall hkT sl F0 R0 ha hs hx hm HW hRR;unfold ptr num at *;go_enter Tryz.func60,Tryz.ntmps60
  go_wp2;generalize w.alloc (.cells #[.int .u8 kd,.int .i64 a,.int .i64 nd,.string sd,.slice (some ⟨g,oo,none⟩) m lc] 122)=W at *
  go_region_held3 (fun w'=>w'.cell? ⟨q,0,none⟩=some (.slice (some ⟨b,o,none⟩) n c)∧w'.cell? ⟨w.heap.size,4,none⟩=some (.slice (some ⟨g,oo,none⟩) m lc)∧w'.cell? ⟨g,oo,none⟩=some (.int .i64 (x:Nat))∧w'.cell? ⟨b,o+x*5+3,none⟩=some (.string ⟨#[100,101,102,105,110,101]⟩)) (first | (with_reducible assumption) | go_keep) (fail)
  go_wp2_with (first
    | (go_at_call 101;(with_reducible refine HC.out.mono ?_);rintro e w3 hQ;have HQ:=Lib.hid (hQ.from (Fr.quiet HF0.out.drew));obtain ⟨k,fv1,he,-⟩:=hQ;(replace he:e = .returned (.int .i64 ((k:Nat):Int)):=he);subst he))
  go_ret
  exact HQ.out
set_option maxHeartbeats 4000000 in
set_option maxRecDepth 20000 in
theorem sp_Define_f {N:Nat} (HF:FormC w0 q (some ⟨b,o,none⟩) n c ns N) (D:Dta w0 (some ⟨b,o,none⟩) n ns) (h:Stx w0 w E q (.slice (some ⟨b,o,none⟩) n c) fv X B) {i:Nat} (hi:i < n) (hN:16*T ns i≤N+9) (hB:B+(16*T ns i - 8)≤200000) {x:Nat} {r:List Nat} (hl:(ndAt ns i).l=x::r) (hs:(ndAt ns x).s=⟨#[100,101,102,105,110,101]⟩) :
    Calls Tryz.prog 60 #[ptr q,num i,.bool false] w (OutQ w0 w E q (.slice (some ⟨b,o,none⟩) n c) fv (bnd X (onPl (exq ns) (atL 2 (ndAt ns i).at_ r (defineP ns (ndAt ns i).at_ r false)))) (B+(16*T ns i - 8))):=by
  obtain ⟨g,oo,m,lc,kd,nd,a,sd,H⟩:=h.hd D hi hl;have HW:=Lib.hid (fun (w':World) (f:MM.Far [] w w')=>swrong_any (h.to f) D.nd D.len hi (D.at0 i));have ha:=H.ha;rw [ha] at HW ⊢;have hi0:(0:Int)≤(i:Int):=by omega
  have hi1:(i:Int) < (n:Int):=by omega
  obtain ⟨hb,d0,d1,d2,d3,d4,c0,sl,hm,-,hT,hall,hkT,few,F0,R0,hbx⟩:=H;have hx:=D.kid (i:=i) (p:=x) (by rw [hl];exact List.mem_cons_self ..);obtain ⟨LB,lb,-,-,-,-,g3,-,-⟩:=h.datc D hx;rw [hs] at g3;have hx0:(0:Int)≤(x:Int):=by omega
  have hx1:(x:Int) < (n:Int):=by omega
  have hm0:(0:Int) < (m:Int):=by omega
  have hm0n:0 < m:=by omega
  have HSL:=Lib.hid (sl.far F0 (by simp));have x0:=HSL.out.get 0 (j:=oo) rfl rfl;have v0:=far_cell F0 c0;have v1:=R0.at (i:=1) rfl;have v4:=R0.at (i:=4) rfl;have vg3:=far_cell F0 g3;have HBX:=Lib.hid R0;have HBZ:=Lib.hid hbx;have HF0:=Lib.hid F0;have HTP:=Lib.hid (T_pos ns x);have HBB:=Lib.hid hB;have HTT:=Lib.hid hT;have HMM:=Lib.hid hm;have hE:atL 2 a r (defineP ns a r false) = .bad a:=by unfold atL;split <;> rfl
  rw [hE];have HC:=Lib.hid (HW.out _ F0.drew);clear HF D h hl hT hall hkT sl F0 R0 ha hs hx hm HW hE;unfold ptr num at *;go_enter Tryz.func60,Tryz.ntmps60
  go_wp2;generalize w.alloc (.cells #[.int .u8 kd,.int .i64 a,.int .i64 nd,.string sd,.slice (some ⟨g,oo,none⟩) m lc] 122)=W at *
  go_region_held3 (fun w'=>w'.cell? ⟨q,0,none⟩=some (.slice (some ⟨b,o,none⟩) n c)∧w'.cell? ⟨w.heap.size,4,none⟩=some (.slice (some ⟨g,oo,none⟩) m lc)∧w'.cell? ⟨g,oo,none⟩=some (.int .i64 (x:Nat))∧w'.cell? ⟨b,o+x*5+3,none⟩=some (.string ⟨#[100,101,102,105,110,101]⟩)) (first | (with_reducible assumption) | go_keep) (fail)
  go_wp2_with (first
    | (go_at_call 59;(with_reducible refine HC.out.mono ?_);rintro e w3 hQ;have HQ:=Lib.hid (hQ.from (Fr.quiet HF0.out.drew));obtain ⟨k,fv1,he,-⟩:=hQ;(replace he:e = .returned (.int .i64 ((k:Nat):Int)):=he);subst he))
  go_ret
  exact HQ.out.mono (by omega)
set_option maxHeartbeats 4000000 in
set_option maxRecDepth 20000 in
theorem sp_Else {N:Nat} (HF:FormC w0 q (some ⟨b,o,none⟩) n c ns N) (D:Dta w0 (some ⟨b,o,none⟩) n ns) (h:Stx w0 w E q (.slice (some ⟨b,o,none⟩) n c) fv X B) {i:Nat} (hi:i < n) (hN:16*T ns i≤N+9) (hB:B+(16*T ns i - 8)≤200000) {x:Nat} {r:List Nat} (hl:(ndAt ns i).l=x::r) (hs:(ndAt ns x).s=⟨#[101,108,115,101]⟩) (top:Bool) :
    Calls Tryz.prog 60 #[ptr q,num i,.bool top] w (OutQ w0 w E q (.slice (some ⟨b,o,none⟩) n c) fv (bnd X (onPl (exq ns) (.bad (ndAt ns i).at_))) (B+(16*T ns i - 8))):=by
  obtain ⟨g,oo,m,lc,kd,nd,a,sd,H⟩:=h.hd D hi hl;have HW:=Lib.hid (fun (w':World) (f:MM.Far [] w w')=>swrong_any (h.to f) D.nd D.len hi (D.at0 i));have ha:=H.ha;rw [ha] at HW ⊢;have hi0:(0:Int)≤(i:Int):=by omega
  have hi1:(i:Int) < (n:Int):=by omega
  obtain ⟨hb,d0,d1,d2,d3,d4,c0,sl,hm,-,hT,hall,hkT,few,F0,R0,hbx⟩:=H;have hx:=D.kid (i:=i) (p:=x) (by rw [hl];exact List.mem_cons_self ..);obtain ⟨LB,lb,-,-,-,-,g3,-,-⟩:=h.datc D hx;rw [hs] at g3;have hx0:(0:Int)≤(x:Int):=by omega
  have hx1:(x:Int) < (n:Int):=by omega
  have hm0:(0:Int) < (m:Int):=by omega
  have hm0n:0 < m:=by omega
  have HSL:=Lib.hid (sl.far F0 (by simp));have x0:=HSL.out.get 0 (j:=oo) rfl rfl;have v0:=far_cell F0 c0;have v1:=R0.at (i:=1) rfl;have v4:=R0.at (i:=4) rfl;have vg3:=far_cell F0 g3;have HBX:=Lib.hid R0;have HBZ:=Lib.hid hbx;have HF0:=Lib.hid F0;have HTP:=Lib.hid (T_pos ns x);have HBB:=Lib.hid hB;have HTT:=Lib.hid hT;have HMM:=Lib.hid hm;have HC:=Lib.hid (HW.out _ F0.drew);clear HF D h hl hT hall hkT sl F0 R0 ha hs hx hm HW;unfold ptr num at *;go_enter Tryz.func60,Tryz.ntmps60
  go_wp2;generalize w.alloc (.cells #[.int .u8 kd,.int .i64 a,.int .i64 nd,.string sd,.slice (some ⟨g,oo,none⟩) m lc] 122)=W at *
  go_region_held3 (fun w'=>w'.cell? ⟨q,0,none⟩=some (.slice (some ⟨b,o,none⟩) n c)∧w'.cell? ⟨w.heap.size,4,none⟩=some (.slice (some ⟨g,oo,none⟩) m lc)∧w'.cell? ⟨g,oo,none⟩=some (.int .i64 (x:Nat))∧w'.cell? ⟨b,o+x*5+3,none⟩=some (.string ⟨#[101,108,115,101]⟩)) (first | (with_reducible assumption) | go_keep) (fail)
  go_wp2_with (first
    | (go_at_call 59;(with_reducible refine HC.out.mono ?_);rintro e w3 hQ;have HQ:=Lib.hid (hQ.from (Fr.quiet HF0.out.drew));obtain ⟨k,fv1,he,-⟩:=hQ;(replace he:e = .returned (.int .i64 ((k:Nat):Int)):=he);subst he))
  go_ret
  exact HQ.out.mono (by omega)
set_option maxHeartbeats 4000000 in
set_option maxRecDepth 20000 in
theorem sp_Quote {N:Nat} (HF:FormC w0 q (some ⟨b,o,none⟩) n c ns N) (D:Dta w0 (some ⟨b,o,none⟩) n ns) (h:Stx w0 w E q (.slice (some ⟨b,o,none⟩) n c) fv X B) {i:Nat} (hi:i < n) (hN:16*T ns i≤N+9) (hB:B+(16*T ns i - 8)≤200000) {x:Nat} {r:List Nat} (hl:(ndAt ns i).l=x::r) (hs:(ndAt ns x).s=⟨#[113,117,111,116,101]⟩) (top:Bool) :
    Calls Tryz.prog 60 #[ptr q,num i,.bool top] w (OutQ w0 w E q (.slice (some ⟨b,o,none⟩) n c) fv (bnd X (onPl (exq ns) (if r.length=1 then .mk (frm 3 (ndAt ns i).at_ (r.getD 0 0:Nat)) [] else .bad (ndAt ns i).at_))) (B+(16*T ns i - 8))):=by
  obtain ⟨g,oo,m,lc,kd,nd,a,sd,H⟩:=h.hd D hi hl;have HW:=Lib.hid (fun (w':World) (f:MM.Far [] w w')=>swrong_any (h.to f) D.nd D.len hi (D.at0 i));have ha:=H.ha;rw [ha] at HW ⊢;have hi0:(0:Int)≤(i:Int):=by omega
  have hi1:(i:Int) < (n:Int):=by omega
  obtain ⟨hb,d0,d1,d2,d3,d4,c0,sl,hm,-,hT,hall,hkT,few,F0,R0,hbx⟩:=H;have hx:=D.kid (i:=i) (p:=x) (by rw [hl];exact List.mem_cons_self ..);obtain ⟨LB,lb,-,-,-,-,g3,-,-⟩:=h.datc D hx;rw [hs] at g3;have hx0:(0:Int)≤(x:Int):=by omega
  have hx1:(x:Int) < (n:Int):=by omega
  have hm0:(0:Int) < (m:Int):=by omega
  have hm0n:0 < m:=by omega
  have HSL:=Lib.hid (sl.far F0 (by simp));have x0:=HSL.out.get 0 (j:=oo) rfl rfl;have v0:=far_cell F0 c0;have v1:=R0.at (i:=1) rfl;have v4:=R0.at (i:=4) rfl;have vg3:=far_cell F0 g3;have HBX:=Lib.hid R0;have HBZ:=Lib.hid hbx;have HF0:=Lib.hid F0;have HTP:=Lib.hid (T_pos ns x);have HBB:=Lib.hid hB;have HTT:=Lib.hid hT;have HMM:=Lib.hid hm;by_cases h1:r.length=1
  · rw [if_pos h1];obtain ⟨y,t,rfl⟩:=one (r:=r) (by omega);have hm2:m=2:=by omega
    subst hm2;have HEX:Hid (onPl (exq ns) (.mk (frm 3 a ((y::t).getD 0 0:Nat)) [])=fun st=>.ok (st++[frm 3 a (y:Nat)],st.length)):=Lib.hid rfl;rw [HEX.out];have HC:=Lib.hid (sput_any (h.to F0.drew.drew) (by omega) (frm 3 a (y:Nat)) (Sl.nil _ _) (Sl.nil _ _));unfold frm at HC;simp only at HC
    have x1:=HSL.out.get 1 rfl rfl;unfold LX.emp at HC;clear HF D h hl hT hall hkT sl F0 R0 ha hs hx hm HW h1 HEX hm0 hm0n;unfold ptr num at *;go_enter Tryz.func60,Tryz.ntmps60
    go_wp2;generalize w.alloc (.cells #[.int .u8 kd,.int .i64 a,.int .i64 nd,.string sd,.slice (some ⟨g,oo,none⟩) 2 lc] 122)=W at *
    go_region_held3 (fun w'=>w'.cell? ⟨q,0,none⟩=some (.slice (some ⟨b,o,none⟩) n c)∧w'.cell? ⟨w.heap.size,4,none⟩=some (.slice (some ⟨g,oo,none⟩) 2 lc)∧w'.cell? ⟨g,oo,none⟩=some (.int .i64 (x:Nat))∧w'.cell? ⟨b,o+x*5+3,none⟩=some (.string ⟨#[113,117,111,116,101]⟩)) (first | (with_reducible assumption) | go_keep) (fail)
    go_wp2
    go_region_held3 (fun w'=>w'.cell? ⟨w.heap.size,1,none⟩=some (.int .i64 a)∧w'.cell? ⟨w.heap.size,4,none⟩=some (.slice (some ⟨g,oo,none⟩) 2 lc)∧w'.cell? ⟨g,oo+1,none⟩=some (.int .i64 (y:Nat))) (first | (with_reducible assumption) | go_keep) (first
      | (go_at_call 56;(with_reducible refine HC.out.mono ?_);rintro e w3 hQ;have HQ:=Lib.hid (hQ.from (Fr.quiet HF0.out.drew.drew));obtain ⟨k,fv1,he,hFr,-⟩:=hQ;(replace he:e = .returned (.int .i64 ((k:Nat):Int)):=he);subst he
         have hk:w3.cell? ⟨w.heap.size,1,none⟩=some (.int .i64 a)∧w3.cell? ⟨w.heap.size,4,none⟩=some (.slice (some ⟨g,oo,none⟩) 2 lc)∧w3.cell? ⟨g,oo+1,none⟩=some (.int .i64 (y:Nat)):=⟨(HBX.out.drew.drew.far hFr.far HBZ.out).at (i:=1) rfl,(HBX.out.drew.drew.far hFr.far HBZ.out).at (i:=4) rfl,(hFr.sl (HSL.out.far (MM.Far.refl [] W).drew.drew (by simp))).get 1 rfl rfl⟩
         clear hFr))
    go_wp2;go_ret
    exact HQ.out.mono (by have:=HTT.out;have:=HTP.out;omega)
  · rw [if_neg h1];have h5:¬ (m:Int)=2:=by omega
    have h51:((m:Int) == 2)=false:=by simp [h5]
    have h52:((m:Int) != 2)=true:=by simp [h5]
    have HC:=Lib.hid (HW.out _ F0.drew);clear HF D h hl hT hall hkT sl F0 R0 ha hs hx hm HW;unfold ptr num at *;go_enter Tryz.func60,Tryz.ntmps60
    go_wp2;generalize w.alloc (.cells #[.int .u8 kd,.int .i64 a,.int .i64 nd,.string sd,.slice (some ⟨g,oo,none⟩) m lc] 122)=W at *
    go_region_held3 (fun w'=>w'.cell? ⟨q,0,none⟩=some (.slice (some ⟨b,o,none⟩) n c)∧w'.cell? ⟨w.heap.size,4,none⟩=some (.slice (some ⟨g,oo,none⟩) m lc)∧w'.cell? ⟨g,oo,none⟩=some (.int .i64 (x:Nat))∧w'.cell? ⟨b,o+x*5+3,none⟩=some (.string ⟨#[113,117,111,116,101]⟩)) (first | (with_reducible assumption) | go_keep) (fail)
    go_wp2_with (first
      | (go_at_call 59;(with_reducible refine HC.out.mono ?_);rintro e w3 hQ;have HQ:=Lib.hid (hQ.from (Fr.quiet HF0.out.drew));obtain ⟨k,fv1,he,-⟩:=hQ;(replace he:e = .returned (.int .i64 ((k:Nat):Int)):=he);subst he))
    go_ret
    exact HQ.out.mono (by omega)
set_option maxHeartbeats 4000000 in
set_option maxRecDepth 20000 in
theorem sp_Begin {N:Nat} (HF:FormC w0 q (some ⟨b,o,none⟩) n c ns N) (D:Dta w0 (some ⟨b,o,none⟩) n ns) (h:Stx w0 w E q (.slice (some ⟨b,o,none⟩) n c) fv X B) {i:Nat} (hi:i < n) (hN:16*T ns i≤N+9) (hB:B+(16*T ns i - 8)≤200000) {x:Nat} {r:List Nat} (hl:(ndAt ns i).l=x::r) (hs:(ndAt ns x).s=⟨#[98,101,103,105,110]⟩) (top:Bool) :
    Calls Tryz.prog 60 #[ptr q,num i,.bool top] w (OutQ w0 w E q (.slice (some ⟨b,o,none⟩) n c) fv (bnd X (onPl (exq ns) (atL 1 (ndAt ns i).at_ r (.ins (body (ndAt ns i).at_ r))))) (B+(16*T ns i - 8))):=by
  obtain ⟨g,oo,m,lc,kd,nd,a,sd,H⟩:=h.hd D hi hl;have HW:=Lib.hid (fun (w':World) (f:MM.Far [] w w')=>swrong_any (h.to f) D.nd D.len hi (D.at0 i));have ha:=H.ha;rw [ha] at HW ⊢;have hi0:(0:Int)≤(i:Int):=by omega
  have hi1:(i:Int) < (n:Int):=by omega
  obtain ⟨hb,d0,d1,d2,d3,d4,c0,sl,hm,-,hT,hall,hkT,few,F0,R0,hbx⟩:=H;have hx:=D.kid (i:=i) (p:=x) (by rw [hl];exact List.mem_cons_self ..);obtain ⟨LB,lb,-,-,-,-,g3,-,-⟩:=h.datc D hx;rw [hs] at g3;have hx0:(0:Int)≤(x:Int):=by omega
  have hx1:(x:Int) < (n:Int):=by omega
  have hm0:(0:Int) < (m:Int):=by omega
  have hm0n:0 < m:=by omega
  have HSL:=Lib.hid (sl.far F0 (by simp));have x0:=HSL.out.get 0 (j:=oo) rfl rfl;have v0:=far_cell F0 c0;have v1:=R0.at (i:=1) rfl;have v4:=R0.at (i:=4) rfl;have vg3:=far_cell F0 g3;have HBX:=Lib.hid R0;have HBZ:=Lib.hid hbx;have HF0:=Lib.hid F0;have HTP:=Lib.hid (T_pos ns x);have HBB:=Lib.hid hB;have HTT:=Lib.hid hT;have HMM:=Lib.hid hm;by_cases h1:r.length < 1
  · have hE:atL 1 a r (.ins (body a r)) = .bad a:=by unfold atL;rw [if_pos h1]
    rw [hE];have h5:(m:Int) < 2:=by omega
    have HC:=Lib.hid (HW.out _ F0.drew);clear HF D h hl hT hall hkT sl F0 R0 ha hs hx hm HW hE h1;unfold ptr num at *;go_enter Tryz.func60,Tryz.ntmps60
    go_wp2;generalize w.alloc (.cells #[.int .u8 kd,.int .i64 a,.int .i64 nd,.string sd,.slice (some ⟨g,oo,none⟩) m lc] 122)=W at *
    go_region_held3 (fun w'=>w'.cell? ⟨q,0,none⟩=some (.slice (some ⟨b,o,none⟩) n c)∧w'.cell? ⟨w.heap.size,4,none⟩=some (.slice (some ⟨g,oo,none⟩) m lc)∧w'.cell? ⟨g,oo,none⟩=some (.int .i64 (x:Nat))∧w'.cell? ⟨b,o+x*5+3,none⟩=some (.string ⟨#[98,101,103,105,110]⟩)) (first | (with_reducible assumption) | go_keep) (fail)
    go_wp2_with (first
      | (go_at_call 59;(with_reducible refine HC.out.mono ?_);rintro e w3 hQ;have HQ:=Lib.hid (hQ.from (Fr.quiet HF0.out.drew));obtain ⟨k,fv1,he,-⟩:=hQ;(replace he:e = .returned (.int .i64 ((k:Nat):Int)):=he);subst he))
    go_ret
    exact HQ.out.mono (by omega)
  · have hE:atL 1 a r (.ins (body a r)) = .ins (body a r):=by unfold atL;rw [if_neg h1]
    rw [hE];have h5:¬ (m:Int) < 2:=by omega
    have hb1:(1:Int) < (m:Int):=by omega
    obtain ⟨g',oo',cc,e,_,_,_,hs1,_⟩:=Sl.open_ (u:=num x) (vs:=ints r) sl;injection e with e1 e2 e3;injection e1 with e1;injection e1 with ea eb;subst ea;subst eb;subst e3;have htl:(ints r).length+1=m:=by rw [ints_len];exact hm
    have hsl1:=fun X'=>slice_ints1 g oo (ints r).length lc m htl X'
    generalize (if lc=1 then some (⟨g,oo,none⟩:Addr) else some ⟨g,oo+1,none⟩)=SA at hsl1 hs1;generalize lc - 1=sc at hsl1 hs1;obtain ⟨tm,htm⟩:∃ tm,r.length=tm:=⟨_,rfl⟩
    rw [ints_len,htm] at hsl1 hs1 htl;have hin:∀ p∈r,p < n∧16*T ns p - 8≤N:=fun p hp=>⟨hall p hp,by have:=hkT p hp;omega⟩
    have HC:=Lib.hid (sbody_any HF (h.to F0.drew.drew) D.ok a (hs1.far F0.drew.drew (by simp)) htm (by omega) hin (by omega));clear HF D h hl hT hall hkT sl F0 R0 ha hs hx hm HW hE h1 hs1 htl htm e2 hin;unfold ptr num at *;go_enter Tryz.func60,Tryz.ntmps60
    go_wp2;generalize w.alloc (.cells #[.int .u8 kd,.int .i64 a,.int .i64 nd,.string sd,.slice (some ⟨g,oo,none⟩) m lc] 122)=W at *
    go_region_held3 (fun w'=>w'.cell? ⟨q,0,none⟩=some (.slice (some ⟨b,o,none⟩) n c)∧w'.cell? ⟨w.heap.size,4,none⟩=some (.slice (some ⟨g,oo,none⟩) m lc)∧w'.cell? ⟨g,oo,none⟩=some (.int .i64 (x:Nat))∧w'.cell? ⟨b,o+x*5+3,none⟩=some (.string ⟨#[98,101,103,105,110]⟩)) (first | (with_reducible assumption) | go_keep) (fail)
    go_wp2
    go_region_held3 (fun w'=>w'.cell? ⟨w.heap.size,1,none⟩=some (.int .i64 a)∧w'.cell? ⟨w.heap.size,4,none⟩=some (.slice (some ⟨g,oo,none⟩) m lc)) (first | (with_reducible assumption) | go_keep) (first
      | (go_at_call 100;(with_reducible refine HC.out.mono ?_);rintro e w3 hQ;have HQ:=Lib.hid (hQ.from (Fr.quiet HF0.out.drew.drew));obtain ⟨k,fv1,he,hFr,-⟩:=hQ;(replace he:e = .returned (.int .i64 ((k:Nat):Int)):=he);subst he
         have hk:w3.cell? ⟨w.heap.size,1,none⟩=some (.int .i64 a)∧w3.cell? ⟨w.heap.size,4,none⟩=some (.slice (some ⟨g,oo,none⟩) m lc):=⟨(HBX.out.drew.drew.far hFr.far HBZ.out).at (i:=1) rfl,(HBX.out.drew.drew.far hFr.far HBZ.out).at (i:=4) rfl⟩
         clear hFr))
    go_wp2;go_ret
    exact HQ.out.mono (by have:=HTT.out;have:=HTP.out;omega)
set_option maxHeartbeats 4000000 in
set_option maxRecDepth 20000 in
theorem sp_Cond {N:Nat} (HF:FormC w0 q (some ⟨b,o,none⟩) n c ns N) (D:Dta w0 (some ⟨b,o,none⟩) n ns) (h:Stx w0 w E q (.slice (some ⟨b,o,none⟩) n c) fv X B) {i:Nat} (hi:i < n) (hN:16*T ns i≤N+9) (hB:B+(16*T ns i - 8)≤200000) {x:Nat} {r:List Nat} (hl:(ndAt ns i).l=x::r) (hs:(ndAt ns x).s=⟨#[99,111,110,100]⟩) (top:Bool) :
    Calls Tryz.prog 60 #[ptr q,num i,.bool top] w (OutQ w0 w E q (.slice (some ⟨b,o,none⟩) n c) fv (bnd X (onPl (exq ns) (atL 1 (ndAt ns i).at_ r (condP ns (ndAt ns i).at_ r)))) (B+(16*T ns i - 8))):=by
  obtain ⟨g,oo,m,lc,kd,nd,a,sd,H⟩:=h.hd D hi hl;have HW:=Lib.hid (fun (w':World) (f:MM.Far [] w w')=>swrong_any (h.to f) D.nd D.len hi (D.at0 i));have ha:=H.ha;rw [ha] at HW ⊢;have hi0:(0:Int)≤(i:Int):=by omega
  have hi1:(i:Int) < (n:Int):=by omega
  obtain ⟨hb,d0,d1,d2,d3,d4,c0,sl,hm,-,hT,hall,hkT,few,F0,R0,hbx⟩:=H;have hx:=D.kid (i:=i) (p:=x) (by rw [hl];exact List.mem_cons_self ..);obtain ⟨LB,lb,-,-,-,-,g3,-,-⟩:=h.datc D hx;rw [hs] at g3;have hx0:(0:Int)≤(x:Int):=by omega
  have hx1:(x:Int) < (n:Int):=by omega
  have hm0:(0:Int) < (m:Int):=by omega
  have hm0n:0 < m:=by omega
  have HSL:=Lib.hid (sl.far F0 (by simp));have x0:=HSL.out.get 0 (j:=oo) rfl rfl;have v0:=far_cell F0 c0;have v1:=R0.at (i:=1) rfl;have v4:=R0.at (i:=4) rfl;have vg3:=far_cell F0 g3;have HBX:=Lib.hid R0;have HBZ:=Lib.hid hbx;have HF0:=Lib.hid F0;have HTP:=Lib.hid (T_pos ns x);have HBB:=Lib.hid hB;have HTT:=Lib.hid hT;have HMM:=Lib.hid hm;by_cases h1:r.length < 1
  · have hE:atL 1 a r (condP ns a r) = .bad a:=by unfold atL;rw [if_pos h1]
    rw [hE];have h5:(m:Int) < 2:=by omega
    have HC:=Lib.hid (HW.out _ F0.drew);clear HF D h hl hT hall hkT sl F0 R0 ha hs hx hm HW hE h1;unfold ptr num at *;go_enter Tryz.func60,Tryz.ntmps60
    go_wp2;generalize w.alloc (.cells #[.int .u8 kd,.int .i64 a,.int .i64 nd,.string sd,.slice (some ⟨g,oo,none⟩) m lc] 122)=W at *
    go_region_held3 (fun w'=>w'.cell? ⟨q,0,none⟩=some (.slice (some ⟨b,o,none⟩) n c)∧w'.cell? ⟨w.heap.size,4,none⟩=some (.slice (some ⟨g,oo,none⟩) m lc)∧w'.cell? ⟨g,oo,none⟩=some (.int .i64 (x:Nat))∧w'.cell? ⟨b,o+x*5+3,none⟩=some (.string ⟨#[99,111,110,100]⟩)) (first | (with_reducible assumption) | go_keep) (fail)
    go_wp2_with (first
      | (go_at_call 59;(with_reducible refine HC.out.mono ?_);rintro e w3 hQ;have HQ:=Lib.hid (hQ.from (Fr.quiet HF0.out.drew));obtain ⟨k,fv1,he,-⟩:=hQ;(replace he:e = .returned (.int .i64 ((k:Nat):Int)):=he);subst he))
    go_ret
    exact HQ.out.mono (by omega)
  · have hE:atL 1 a r (condP ns a r)=condP ns a r:=by unfold atL;rw [if_neg h1]
    rw [hE];have HQE:Hid (exq ns (.cond a r)=onPl (exq ns) (condP ns a r)):=Lib.hid (funext fun st=>exq_eq D.ok _ st);have h5:¬ (m:Int) < 2:=by omega
    have hb1:(1:Int) < (m:Int):=by omega
    obtain ⟨g',oo',cc,e,_,_,_,hs1,_⟩:=Sl.open_ (u:=num x) (vs:=ints r) sl;injection e with e1 e2 e3;injection e1 with e1;injection e1 with ea eb;subst ea;subst eb;subst e3;have htl:(ints r).length+1=m:=by rw [ints_len];exact hm
    have hsl1:=fun X'=>slice_ints1 g oo (ints r).length lc m htl X'
    generalize (if lc=1 then some (⟨g,oo,none⟩:Addr) else some ⟨g,oo+1,none⟩)=SA at hsl1 hs1;generalize lc - 1=sc at hsl1 hs1;obtain ⟨tm,htm⟩:∃ tm,r.length=tm:=⟨_,rfl⟩
    rw [ints_len,htm] at hsl1 hs1 htl;have hin:∀ p∈r,p < n∧16*T ns p - 8≤N:=fun p hp=>⟨hall p hp,by have:=hkT p hp;omega⟩
    have HC:=Lib.hid (scond_any HF D a r _ _ _ _ _ _ _ (h.to F0.drew.drew) (hs1.far F0.drew.drew (by simp)) hin (by omega));clear HF D h hl hT hall hkT sl F0 R0 ha hs hx hm HW hE h1 hs1 htl htm e2 hin;unfold ptr num at *;go_enter Tryz.func60,Tryz.ntmps60
    go_wp2;generalize w.alloc (.cells #[.int .u8 kd,.int .i64 a,.int .i64 nd,.string sd,.slice (some ⟨g,oo,none⟩) m lc] 122)=W at *
    go_region_held3 (fun w'=>w'.cell? ⟨q,0,none⟩=some (.slice (some ⟨b,o,none⟩) n c)∧w'.cell? ⟨w.heap.size,4,none⟩=some (.slice (some ⟨g,oo,none⟩) m lc)∧w'.cell? ⟨g,oo,none⟩=some (.int .i64 (x:Nat))∧w'.cell? ⟨b,o+x*5+3,none⟩=some (.string ⟨#[99,111,110,100]⟩)) (first | (with_reducible assumption) | go_keep) (fail)
    go_wp2
    go_region_held3 (fun w'=>w'.cell? ⟨w.heap.size,1,none⟩=some (.int .i64 a)∧w'.cell? ⟨w.heap.size,4,none⟩=some (.slice (some ⟨g,oo,none⟩) m lc)) (first | (with_reducible assumption) | go_keep) (first
      | (go_at_call 106;(with_reducible refine HC.out.mono ?_);rintro e w3 hQ;have HQ:=Lib.hid (hQ.from (Fr.quiet HF0.out.drew.drew));obtain ⟨k,fv1,he,hFr,-⟩:=hQ;(replace he:e = .returned (.int .i64 ((k:Nat):Int)):=he);subst he
         have hk:w3.cell? ⟨w.heap.size,1,none⟩=some (.int .i64 a)∧w3.cell? ⟨w.heap.size,4,none⟩=some (.slice (some ⟨g,oo,none⟩) m lc):=⟨(HBX.out.drew.drew.far hFr.far HBZ.out).at (i:=1) rfl,(HBX.out.drew.drew.far hFr.far HBZ.out).at (i:=4) rfl⟩
         clear hFr))
    go_wp2;go_ret
    have hh:=HQ.out;rw [HQE.out] at hh;exact hh.mono (by have:=HTT.out;have:=HTP.out;omega)
set_option maxHeartbeats 4000000 in
set_option maxRecDepth 20000 in
theorem sp_And {N:Nat} (HF:FormC w0 q (some ⟨b,o,none⟩) n c ns N) (D:Dta w0 (some ⟨b,o,none⟩) n ns) (h:Stx w0 w E q (.slice (some ⟨b,o,none⟩) n c) fv X B) {i:Nat} (hi:i < n) (hN:16*T ns i≤N+9) (hB:B+(16*T ns i - 8)≤200000) {x:Nat} {r:List Nat} (hl:(ndAt ns i).l=x::r) (hs:(ndAt ns x).s=⟨#[97,110,100]⟩) (top:Bool) :
    Calls Tryz.prog 60 #[ptr q,num i,.bool top] w (OutQ w0 w E q (.slice (some ⟨b,o,none⟩) n c) fv (bnd X (onPl (exq ns) (andP (ndAt ns i).at_ r))) (B+(16*T ns i - 8))):=by
  obtain ⟨g,oo,m,lc,kd,nd,a,sd,H⟩:=h.hd D hi hl;have HW:=Lib.hid (fun (w':World) (f:MM.Far [] w w')=>swrong_any (h.to f) D.nd D.len hi (D.at0 i));have ha:=H.ha;rw [ha] at HW ⊢;have hi0:(0:Int)≤(i:Int):=by omega
  have hi1:(i:Int) < (n:Int):=by omega
  obtain ⟨hb,d0,d1,d2,d3,d4,c0,sl,hm,-,hT,hall,hkT,few,F0,R0,hbx⟩:=H;have hx:=D.kid (i:=i) (p:=x) (by rw [hl];exact List.mem_cons_self ..);obtain ⟨LB,lb,-,-,-,-,g3,-,-⟩:=h.datc D hx;rw [hs] at g3;have hx0:(0:Int)≤(x:Int):=by omega
  have hx1:(x:Int) < (n:Int):=by omega
  have hm0:(0:Int) < (m:Int):=by omega
  have hm0n:0 < m:=by omega
  have HSL:=Lib.hid (sl.far F0 (by simp));have x0:=HSL.out.get 0 (j:=oo) rfl rfl;have v0:=far_cell F0 c0;have v1:=R0.at (i:=1) rfl;have v4:=R0.at (i:=4) rfl;have vg3:=far_cell F0 g3;have HBX:=Lib.hid R0;have HBZ:=Lib.hid hbx;have HF0:=Lib.hid F0;have HTP:=Lib.hid (T_pos ns x);have HBB:=Lib.hid hB;have HTT:=Lib.hid hT;have HMM:=Lib.hid hm;have HQE:Hid (exq ns (.and a r)=onPl (exq ns) (andP a r)):=Lib.hid (funext fun st=>exq_eq D.ok _ st);obtain ⟨g',oo',cc,e,_,_,_,hs1,_⟩:=Sl.open_ (u:=num x) (vs:=ints r) sl;injection e with e1 e2 e3;injection e1 with e1;injection e1 with ea eb;subst ea;subst eb;subst e3;have htl:(ints r).length+1=m:=by rw [ints_len];exact hm
  have hsl1:=fun X'=>slice_ints1 g oo (ints r).length lc m htl X'
  generalize (if lc=1 then some (⟨g,oo,none⟩:Addr) else some ⟨g,oo+1,none⟩)=SA at hsl1 hs1;generalize lc - 1=sc at hsl1 hs1;obtain ⟨tm,htm⟩:∃ tm,r.length=tm:=⟨_,rfl⟩
  rw [ints_len,htm] at hsl1 hs1 htl;have hin:∀ p∈r,p < n∧16*T ns p - 8≤N:=fun p hp=>⟨hall p hp,by have:=hkT p hp;omega⟩
  have HC:=Lib.hid (sand_any HF D.ok a r _ _ _ _ _ _ _ (h.to F0.drew.drew) (hs1.far F0.drew.drew (by simp)) hin (by omega));clear HF D h hl hT hall hkT sl F0 R0 ha hs hx hm HW hs1 htl htm e2 hin;unfold ptr num at *;go_enter Tryz.func60,Tryz.ntmps60
  go_wp2;generalize w.alloc (.cells #[.int .u8 kd,.int .i64 a,.int .i64 nd,.string sd,.slice (some ⟨g,oo,none⟩) m lc] 122)=W at *
  go_region_held3 (fun w'=>w'.cell? ⟨q,0,none⟩=some (.slice (some ⟨b,o,none⟩) n c)∧w'.cell? ⟨w.heap.size,4,none⟩=some (.slice (some ⟨g,oo,none⟩) m lc)∧w'.cell? ⟨g,oo,none⟩=some (.int .i64 (x:Nat))∧w'.cell? ⟨b,o+x*5+3,none⟩=some (.string ⟨#[97,110,100]⟩)) (first | (with_reducible assumption) | go_keep) (fail)
  go_wp2
  go_region_held3 (fun w'=>w'.cell? ⟨w.heap.size,1,none⟩=some (.int .i64 a)∧w'.cell? ⟨w.heap.size,4,none⟩=some (.slice (some ⟨g,oo,none⟩) m lc)) (first | (with_reducible assumption) | go_keep) (first
    | (go_at_call 105;(with_reducible refine HC.out.mono ?_);rintro e w3 hQ;have HQ:=Lib.hid (hQ.from (Fr.quiet HF0.out.drew.drew));obtain ⟨k,fv1,he,hFr,-⟩:=hQ;(replace he:e = .returned (.int .i64 ((k:Nat):Int)):=he);subst he
       have hk:w3.cell? ⟨w.heap.size,1,none⟩=some (.int .i64 a)∧w3.cell? ⟨w.heap.size,4,none⟩=some (.slice (some ⟨g,oo,none⟩) m lc):=⟨(HBX.out.drew.drew.far hFr.far HBZ.out).at (i:=1) rfl,(HBX.out.drew.drew.far hFr.far HBZ.out).at (i:=4) rfl⟩
       clear hFr))
  go_wp2;go_ret
  have hh:=HQ.out;rw [HQE.out] at hh;exact hh.mono (by have:=HTT.out;have:=HTP.out;omega)
set_option maxHeartbeats 4000000 in
set_option maxRecDepth 20000 in
theorem sp_Or {N:Nat} (HF:FormC w0 q (some ⟨b,o,none⟩) n c ns N) (D:Dta w0 (some ⟨b,o,none⟩) n ns) (h:Stx w0 w E q (.slice (some ⟨b,o,none⟩) n c) fv X B) {i:Nat} (hi:i < n) (hN:16*T ns i≤N+9) (hB:B+(16*T ns i - 8)≤200000) {x:Nat} {r:List Nat} (hl:(ndAt ns i).l=x::r) (hs:(ndAt ns x).s=⟨#[111,114]⟩) (top:Bool) :
    Calls Tryz.prog 60 #[ptr q,num i,.bool top] w (OutQ w0 w E q (.slice (some ⟨b,o,none⟩) n c) fv (bnd X (onPl (exq ns) (orP (ndAt ns i).at_ r))) (B+(16*T ns i - 8))):=by
  obtain ⟨g,oo,m,lc,kd,nd,a,sd,H⟩:=h.hd D hi hl;have HW:=Lib.hid (fun (w':World) (f:MM.Far [] w w')=>swrong_any (h.to f) D.nd D.len hi (D.at0 i));have ha:=H.ha;rw [ha] at HW ⊢;have hi0:(0:Int)≤(i:Int):=by omega
  have hi1:(i:Int) < (n:Int):=by omega
  obtain ⟨hb,d0,d1,d2,d3,d4,c0,sl,hm,-,hT,hall,hkT,few,F0,R0,hbx⟩:=H;have hx:=D.kid (i:=i) (p:=x) (by rw [hl];exact List.mem_cons_self ..);obtain ⟨LB,lb,-,-,-,-,g3,-,-⟩:=h.datc D hx;rw [hs] at g3;have hx0:(0:Int)≤(x:Int):=by omega
  have hx1:(x:Int) < (n:Int):=by omega
  have hm0:(0:Int) < (m:Int):=by omega
  have hm0n:0 < m:=by omega
  have HSL:=Lib.hid (sl.far F0 (by simp));have x0:=HSL.out.get 0 (j:=oo) rfl rfl;have v0:=far_cell F0 c0;have v1:=R0.at (i:=1) rfl;have v4:=R0.at (i:=4) rfl;have vg3:=far_cell F0 g3;have HBX:=Lib.hid R0;have HBZ:=Lib.hid hbx;have HF0:=Lib.hid F0;have HTP:=Lib.hid (T_pos ns x);have HBB:=Lib.hid hB;have HTT:=Lib.hid hT;have HMM:=Lib.hid hm;have HQE:Hid (exq ns (.or a r)=onPl (exq ns) (orP a r)):=Lib.hid (funext fun st=>exq_eq D.ok _ st);obtain ⟨g',oo',cc,e,_,_,_,hs1,_⟩:=Sl.open_ (u:=num x) (vs:=ints r) sl;injection e with e1 e2 e3;injection e1 with e1;injection e1 with ea eb;subst ea;subst eb;subst e3;have htl:(ints r).length+1=m:=by rw [ints_len];exact hm
  have hsl1:=fun X'=>slice_ints1 g oo (ints r).length lc m htl X'
  generalize (if lc=1 then some (⟨g,oo,none⟩:Addr) else some ⟨g,oo+1,none⟩)=SA at hsl1 hs1;generalize lc - 1=sc at hsl1 hs1;obtain ⟨tm,htm⟩:∃ tm,r.length=tm:=⟨_,rfl⟩
  rw [ints_len,htm] at hsl1 hs1 htl;have hin:∀ p∈r,p < n∧16*T ns p - 8≤N:=fun p hp=>⟨hall p hp,by have:=hkT p hp;omega⟩
  have HC:=Lib.hid (sor_any HF D.ok a r _ _ _ _ _ _ _ (h.to F0.drew.drew) (hs1.far F0.drew.drew (by simp)) hin (by omega));clear HF D h hl hT hall hkT sl F0 R0 ha hs hx hm HW hs1 htl htm e2 hin;unfold ptr num at *;go_enter Tryz.func60,Tryz.ntmps60
  go_wp2;generalize w.alloc (.cells #[.int .u8 kd,.int .i64 a,.int .i64 nd,.string sd,.slice (some ⟨g,oo,none⟩) m lc] 122)=W at *
  go_region_held3 (fun w'=>w'.cell? ⟨q,0,none⟩=some (.slice (some ⟨b,o,none⟩) n c)∧w'.cell? ⟨w.heap.size,4,none⟩=some (.slice (some ⟨g,oo,none⟩) m lc)∧w'.cell? ⟨g,oo,none⟩=some (.int .i64 (x:Nat))∧w'.cell? ⟨b,o+x*5+3,none⟩=some (.string ⟨#[111,114]⟩)) (first | (with_reducible assumption) | go_keep) (fail)
  go_wp2
  go_region_held3 (fun w'=>w'.cell? ⟨w.heap.size,1,none⟩=some (.int .i64 a)∧w'.cell? ⟨w.heap.size,4,none⟩=some (.slice (some ⟨g,oo,none⟩) m lc)) (first | (with_reducible assumption) | go_keep) (first
    | (go_at_call 105;(with_reducible refine HC.out.mono ?_);rintro e w3 hQ;have HQ:=Lib.hid (hQ.from (Fr.quiet HF0.out.drew.drew));obtain ⟨k,fv1,he,hFr,-⟩:=hQ;(replace he:e = .returned (.int .i64 ((k:Nat):Int)):=he);subst he
       have hk:w3.cell? ⟨w.heap.size,1,none⟩=some (.int .i64 a)∧w3.cell? ⟨w.heap.size,4,none⟩=some (.slice (some ⟨g,oo,none⟩) m lc):=⟨(HBX.out.drew.drew.far hFr.far HBZ.out).at (i:=1) rfl,(HBX.out.drew.drew.far hFr.far HBZ.out).at (i:=4) rfl⟩
       clear hFr))
  go_wp2;go_ret
  have hh:=HQ.out;rw [HQE.out] at hh;exact hh.mono (by have:=HTT.out;have:=HTP.out;omega)
end
end EW
end Go.Proofs.YtehgmmbdlnginaaGreatDoor
