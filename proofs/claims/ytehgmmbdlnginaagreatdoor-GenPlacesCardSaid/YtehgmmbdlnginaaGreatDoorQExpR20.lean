/-
  Layer 8's document: the form of a datum, whatever it weighs. Conditions: sizes; the row of data may be.
-/
import Derived.Test.YtehgmmbdlnginaaGreatDoorQExpR19
namespace Go.Proofs.YtehgmmbdlnginaaGreatDoor
open Go.RowKit
set_option linter.unusedVariables false
namespace EW
open LX SX RW6 EX
open RX (Nd)
section
variable {w0 w w1:World} {Z E:List Nat} {q:Nat} {b o:Nat} {n c:Nat} {ns:List Nd} {dv fv:Value} {X:Except Int (List Fm)} {B:Nat}
theorem exq_pt {ns:List Nd} (h:Ok ns) (i:Nat) (top:Bool):exq ns (ptT i top)=onPl (exq ns) (plan ns i top):=funext fun st=>by
  rw [exq_eq h];cases top <;> rfl
set_option maxHeartbeats 8000000 in
set_option maxRecDepth 20000 in
theorem sform_ok {N:Nat} (HF:FormC w0 q (some ⟨b,o,none⟩) n c ns N) (D:Dta w0 (some ⟨b,o,none⟩) n ns) (h:Stx w0 w E q (.slice (some ⟨b,o,none⟩) n c) fv X B) (hbad:w.cell? ⟨q,2,none⟩=some (.int .i64 (-1))) {i:Nat} (hi:i < n) (hN:16*T ns i≤N+9) (hB:B+(16*T ns i - 8)≤200000) (top:Bool) :
    Calls Tryz.prog 30 #[ptr q,num i,.bool top] w (OutQ w0 w E q (.slice (some ⟨b,o,none⟩) n c) fv (bnd X (exq ns (ptT i top))) (B+(16*T ns i - 8))):=by
  rw [exq_pt D.ok];have hW:=fun (w':World) (f:MM.Far [] w w')=>swrong_any (h.to f) D.nd D.len hi (D.at0 i)
  obtain ⟨LA,lc,hb,d0,d1,d2,d3,d4,hSl⟩:=h.datc D hi;have c0:=h.q0;have hi0:(0:Int)≤(i:Int):=by omega
  have hi1:(i:Int) < (n:Int):=by omega
  have hT:=T_all D.ok i;have hTP:=T_pos ns i;have hplan:plan ns i top=if (ndAt ns i).kind=1 then .mk (frm 1 (ndAt ns i).at_ (ndAt ns i).n) [] else if (ndAt ns i).kind=2 then .mk (frm 2 (ndAt ns i).at_ (ndAt ns i).n) []
    else if (ndAt ns i).kind=3 then (if reserved (ndAt ns i).s=true then .bad (ndAt ns i).at_ else .mk ⟨4,(ndAt ns i).at_,0,(ndAt ns i).s,[],[]⟩ []) else listP ns (ndAt ns i) top:=rfl
  have F0:=(MM.Far.refl [] w).alloc (.cells #[.int .u8 (ndAt ns i).kind,.int .i64 (ndAt ns i).at_,.int .i64 (ndAt ns i).n,.string (ndAt ns i).s,.slice LA (ndAt ns i).l.length lc] 122);have R0:MM.Row (w.alloc (.cells #[.int .u8 (ndAt ns i).kind,.int .i64 (ndAt ns i).at_,.int .i64 (ndAt ns i).n,.string (ndAt ns i).s,.slice LA (ndAt ns i).l.length lc] 122)) w.heap.size 122 [.int .u8 (ndAt ns i).kind,.int .i64 (ndAt ns i).at_,.int .i64 (ndAt ns i).n,.string (ndAt ns i).s,.slice LA (ndAt ns i).l.length lc]:=MM.Row.new w _ _;have HF0:=Lib.hid F0;have HW:=Lib.hid hW;have HBB:=Lib.hid hB;have HBX:=Lib.hid R0;have HBZ:Hid (w.heap.size∉Zx q fv):=Lib.hid (fun hm=>by have:=h.low.2.1 _ hm;omega);rw [hplan];by_cases k1:(ndAt ns i).kind=1
  · rw [if_pos k1];have HC:=Lib.hid (sput_any (h.to F0) (by omega) (frm 1 (ndAt ns i).at_ (ndAt ns i).n) (Sl.nil _ _) (Sl.nil _ _));unfold frm at HC;simp only at HC
    unfold LX.emp at HC;have HEX:Hid (onPl (exq ns) (.mk (frm 1 (ndAt ns i).at_ (ndAt ns i).n) [])=fun st=>.ok (st++[({ kind:=1,at_:=(ndAt ns i).at_,n:=(ndAt ns i).n,s:=⟨#[]⟩,p:=[],l:=[] }:Fm)],st.length)):=Lib.hid rfl;rw [HEX.out];clear HF D h hSl hT hplan F0 R0 hW HEX HW HBX;generalize (ndAt ns i).at_=a at *;generalize (ndAt ns i).n=nd at *;generalize (ndAt ns i).s=sd at *;generalize (ndAt ns i).l.length=m at *;generalize (ndAt ns i).kind=kd at *;subst k1;unfold ptr num at *;go_enter Tryz.func30,Tryz.ntmps30
    go_wp2_with (first
      | (go_at_call 56;(with_reducible refine HC.out.mono ?_);rintro e w1 hQ;have HQ:=Lib.hid (hQ.from (Fr.quiet HF0.out));obtain ⟨k,fv1,he,-⟩:=hQ;(replace he:e = .returned (.int .i64 ((k:Nat):Int)):=he);subst he))
    go_ret
    exact HQ.out.mono (by omega)
  rw [if_neg k1];have k1b:((ndAt ns i).kind == 1)=false:=by simp [k1]
  by_cases k2:(ndAt ns i).kind=2
  · rw [if_pos k2];have HC:=Lib.hid (sbit_any (h.to F0) (by omega) (ndAt ns i).at_ (ndAt ns i).n);have HEX:Hid (onPl (exq ns) (.mk (frm 2 (ndAt ns i).at_ (ndAt ns i).n) [])=fun st=>.ok (st++[frm 2 (ndAt ns i).at_ (ndAt ns i).n],st.length)):=Lib.hid rfl;rw [HEX.out];clear HF D h hSl hT hplan F0 R0 hW HEX HW HBX k1 k1b;generalize (ndAt ns i).at_=a at *;generalize (ndAt ns i).n=nd at *;generalize (ndAt ns i).s=sd at *;generalize (ndAt ns i).l.length=m at *;generalize (ndAt ns i).kind=kd at *;subst k2;unfold ptr num at *;go_enter Tryz.func30,Tryz.ntmps30
    go_wp2_with (first
      | (go_at_call 57;(with_reducible refine HC.out.mono ?_);rintro e w1 hQ;have HQ:=Lib.hid (hQ.from (Fr.quiet HF0.out));obtain ⟨k,fv1,he,-⟩:=hQ;(replace he:e = .returned (.int .i64 ((k:Nat):Int)):=he);subst he))
    go_ret
    exact HQ.out.mono (by omega)
  rw [if_neg k2];have k2b:((ndAt ns i).kind == 2)=false:=by simp [k2]
  by_cases k3:(ndAt ns i).kind=3
  · rw [if_pos k3];have HST:=Lib.hid (fun (w':World) (f:MM.Far [] w w')=>sput_any (h.to f) (by omega) (⟨4,(ndAt ns i).at_,0,(ndAt ns i).s,[],[]⟩:Fm) (Sl.nil _ _) (Sl.nil _ _));have HEX:Hid (onPl (exq ns) (.mk ⟨4,(ndAt ns i).at_,0,(ndAt ns i).s,[],[]⟩ [])=fun st=>.ok (st++[(⟨4,(ndAt ns i).at_,0,(ndAt ns i).s,[],[]⟩:Fm)],st.length)):=Lib.hid rfl;have HRV:=Lib.hid (fun (w':World)=>rreserved_any w' (ndAt ns i).s);clear HF D h hSl hT hplan F0 R0 hW k1 k1b k2 k2b;generalize (ndAt ns i).at_=a at *;generalize (ndAt ns i).n=nd at *;generalize (ndAt ns i).s=sd at *;generalize (ndAt ns i).l.length=m at *;generalize (ndAt ns i).kind=kd at *;subst k3;cases hr:reserved sd with
    | true =>
      rw [if_pos rfl];rw [hr] at HRV;clear HST HEX HBX;unfold ptr num at *;go_enter Tryz.func30,Tryz.ntmps30
      go_wp2_with (first
        | (go_at_call 58;(with_reducible refine (HRV.out _).mono ?_);rintro e w3 ⟨rfl,hF3⟩;have HF3:=Lib.hid (HF0.out.trans hF3 (by simp));have HC:=Lib.hid (HW.out _ HF3.out);clear hF3)
        | (go_at_call 59;(with_reducible refine HC.out.mono ?_);rintro e w1 hQ;have HQ:=Lib.hid (hQ.from (Fr.quiet HF3.out));obtain ⟨k,fv1,he,-⟩:=hQ;(replace he:e = .returned (.int .i64 ((k:Nat):Int)):=he);subst he))
      go_ret
      exact HQ.out.mono (by omega)
    | false =>
      rw [if_neg (by decide),HEX.out];rw [hr] at HRV;clear HW HEX;unfold ptr num at *;go_enter Tryz.func30,Tryz.ntmps30
      go_wp2_with (first
        | (go_at_call 58;(with_reducible refine (HRV.out _).mono ?_);rintro e w3 ⟨rfl,hF3⟩;have u1:=(HBX.out.far hF3 (by simp)).at (i:=1) rfl;have u3:=(HBX.out.far hF3 (by simp)).at (i:=3) rfl;have HF3:=Lib.hid (HF0.out.trans hF3 (by simp));have HC:=Lib.hid (HST.out _ HF3.out);clear hF3)
        | (go_at_call 56;(with_reducible refine HC.out.mono ?_);rintro e w1 hQ;have HQ:=Lib.hid (hQ.from (Fr.quiet HF3.out));obtain ⟨k,fv1,he,-⟩:=hQ;(replace he:e = .returned (.int .i64 ((k:Nat):Int)):=he);subst he))
      go_ret
      exact HQ.out.mono (by omega)
  rw [if_neg k3];have k3b:((ndAt ns i).kind == 3)=false:=by simp [k3]
  have hlist:listP ns (ndAt ns i) top=if (ndAt ns i).l=[] then .bad (ndAt ns i).at_ else if reserved (ndAt ns ((ndAt ns i).l.getD 0 0)).s=true then EX.shape ns (ndAt ns ((ndAt ns i).l.getD 0 0)).s (ndAt ns i).at_ ((ndAt ns i).l.drop 1) top else .mk (frm 10 (ndAt ns i).at_ 0) ((ndAt ns i).l.map .dat):=rfl
  rw [hlist];cases hl:(ndAt ns i).l with
  | nil =>
    rw [if_pos rfl];have HC:=Lib.hid (HW.out _ F0);clear HF D h hSl hT hplan F0 R0 hW hlist HW k1 k2 k3 HBX;have hl0:(ndAt ns i).l.length=0:=by rw [hl];rfl
    clear hl;generalize (ndAt ns i).at_=a at *;generalize (ndAt ns i).n=nd at *;generalize (ndAt ns i).s=sd at *;generalize (ndAt ns i).kind=kd at *;generalize (ndAt ns i).l.length=m at *;subst hl0;unfold ptr num at *;go_enter Tryz.func30,Tryz.ntmps30
    go_wp2_with (first
      | (go_at_call 59;(with_reducible refine HC.out.mono ?_);rintro e w1 hQ;have HQ:=Lib.hid (hQ.from (Fr.quiet HF0.out));obtain ⟨k,fv1,he,-⟩:=hQ;(replace he:e = .returned (.int .i64 ((k:Nat):Int)):=he);subst he))
    go_ret
    exact HQ.out.mono (by omega)
  | cons x r =>
    rw [if_neg (by simp)];simp only [List.getD_cons_zero,List.drop_succ_cons,List.drop_zero]
    have hx:=D.kid (i:=i) (p:=x) (by rw [hl];exact List.mem_cons_self ..);have hall:∀ p∈x::r,p < n∧16*T ns p - 8≤N:=fun p hp=>⟨D.kid (i:=i) (p:=p) (by rw [hl];exact hp),by have:=T_kid D.ok (i:=i) (p:=p) (by rw [hl];exact hp);omega⟩
    have hfew:=D.few i;have hs3:=D.s3 x;have HSP:Hid (reserved (ndAt ns x).s=true→∀ (w':World),MM.Far [] w w'→Calls Tryz.prog 60 #[ptr q,num i,.bool top] w' (OutQ w0 w' E q (.slice (some ⟨b,o,none⟩) n c) fv (bnd X (onPl (exq ns) (EX.shape ns (ndAt ns x).s (ndAt ns i).at_ r top))) (B+(16*T ns i - 8)))) :=
      Lib.hid (fun hres w' f=>sspecial_any HF D (h.to f) hi hN hB hl hres top)
    obtain ⟨LC,lc2,-,y0,y1,y2,y3,y4,-⟩:=h.datc D hx;rw [hl] at hSl d4 hfew hT;rw [hl] at F0 R0 HF0 HBX;obtain ⟨gd,od,c1,e,hc1,hc2,hcs,-,-⟩:=Sl.open_ (u:=num x) (vs:=ints r) hSl;injection e with e1 e2 e3;subst e1 e3;have k0:=hcs 0 (num x) rfl;rw [Nat.add_zero] at k0;have hx0:(0:Int)≤(x:Int):=by omega
    have hx1:(x:Int) < (n:Int):=by omega
    have hsumT:sumT ns (x::r)=wts ns (x::r):=rfl;have HSUM:Hid (B+sumT ns (x::r)+1≤B+(16*T ns i - 8)):=Lib.hid (by rw [hsumT];omega);have HALL:=Lib.hid hall;have HST:=Lib.hid (fun (w2:World) (f:MM.Far [] w w2)=>h.to f);have HLL:=Lib.hid hSl;have HFC:=Lib.hid HF;have HOK:=Lib.hid D.ok;have HSE:Hid (∀ b∈E,b < w.heap.size):=Lib.hid (fun b hb=>(h.ezE b hb).1);have HZW:Hid (∀ z∈Zx q fv,z < w.heap.size):=Lib.hid h.low.2.1;have H0:Hid (w0.heap.size≤w.heap.size):=Lib.hid h.low.1.size;have hm0:(0:Int) < (((x::r).length:Nat):Int):=by rw [List.length_cons];omega
    have hm0n:0 < (x::r).length:=by rw [List.length_cons];omega
    have hm0b:¬ (((x::r).length:Nat):Int)=0:=by rw [List.length_cons];omega
    have hm0c:((((x::r).length:Nat):Int) == 0)=false:=by rw [beq_eq_false_iff_ne];exact hm0b
    clear hSl hT hplan hW hlist HW e2 hcs hc1 hc2 h D HF hN hall hsumT HBX HF0;generalize (ndAt ns i).at_=a at *;generalize (ndAt ns i).n=nd at *;generalize (ndAt ns i).s=sd at *;generalize (ndAt ns i).kind=kd at *;generalize hm:(x::r).length=m at *;generalize (ndAt ns x).l.length=mx at *;generalize (ndAt ns x).at_=ax at *;generalize (ndAt ns x).n=nx at *;generalize (ndAt ns x).kind=kx at *;generalize (ndAt ns x).s=sx at *;have HMM:=Lib.hid hm;obtain ⟨W,hWW⟩:∃ W,w.alloc (.cells #[.int .u8 kd,.int .i64 a,.int .i64 nd,.string sd,.slice (some ⟨gd,od,none⟩) m lc] 122)=W:=⟨_,rfl⟩
    rw [hWW] at F0 R0;have HWW:=Lib.hid hWW;have HL0:=Lib.hid hl;clear hm hl hWW;have FA:=F0.alloc (.cells #[.int .u8 0,.int .i64 0,.int .i64 0,.string ⟨#[]⟩,.slice none 0 0] 122);have RA:=R0.alloc (.cells #[.int .u8 0,.int .i64 0,.int .i64 0,.string ⟨#[]⟩,.slice none 0 0] 122);have p0':=far_cell FA c0;have p1':=RA.at (i:=4) rfl;have p2':=far_cell FA k0;have q0':=far_cell FA y0;have q1':=far_cell FA y1;have q2':=far_cell FA y2;have q3':=far_cell FA y3;have q4':=far_cell FA y4;have p0:=far_cell F0 c0;have p1:=R0.at (i:=4) rfl;have p2:=far_cell F0 k0;have q0:=far_cell F0 y0;have q1:=far_cell F0 y1;have q2:=far_cell F0 y2;have q3:=far_cell F0 y3;have q4:=far_cell F0 y4;obtain ⟨W2,hW2⟩:∃ W2,(W.alloc (.cells #[.int .u8 kx,.int .i64 ax,.int .i64 nx,.string sx,.slice LC mx lc2] 122)).drew=W2:=⟨_,rfl⟩
    have F2:MM.Far [] w W2:=by rw [← hW2];exact (F0.alloc _).drew
    have R2:MM.Row W2 w.heap.size 122 [.int .u8 kd,.int .i64 a,.int .i64 nd,.string sd,.slice (some ⟨gd,od,none⟩) m lc]:=by rw [← hW2];exact (R0.alloc _).drew
    have R3:MM.Row W2 W.heap.size 122 [.int .u8 kx,.int .i64 ax,.int .i64 nx,.string sx,.slice LC mx lc2]:=by rw [← hW2];exact (MM.Row.new W _ _).drew
    have s0:=R3.at (i:=0) rfl;have s3:=R3.at (i:=3) rfl;have s4:=R2.at (i:=4) rfl;have HF2:=Lib.hid F2;have HR2:=Lib.hid R2;have HW2:=Lib.hid hW2;have HRV:=Lib.hid (fun (w':World)=>rreserved_any w' sx);clear F0 R0 FA RA F2 R2 R3 hW2 y0 y1 y2 y3 y4;by_cases hrs:kx=3∧reserved sx=true
    · rw [if_pos hrs.2];have HC:=Lib.hid (HSP.out hrs.2);obtain ⟨hk3,hrs⟩:=hrs;rw [hrs] at HRV;subst hk3;clear HSP hrs hs3;generalize hRR:onPl (exq ns) (EX.shape ns sx a r top)=RR at *;clear hRR;unfold ptr num at *;go_enter Tryz.func30,Tryz.ntmps30
      go_wp2;rw [HWW.out];go_region
      rw [HW2.out]
      go_wp2_with (first
        | (go_at_call 58;(with_reducible refine (HRV.out _).mono ?_);rintro e w3 ⟨rfl,hF3⟩;have HF3:=Lib.hid (HF2.out.trans hF3 (by simp));have HC2:=Lib.hid (HC.out _ HF3.out);clear hF3)
        | (go_at_call 60;(with_reducible refine HC2.out.mono ?_);rintro e w4 hQ;have HQ:=Lib.hid (hQ.from (Fr.quiet HF3.out));obtain ⟨k,fv1,he,-⟩:=hQ;(replace he:e = .returned (.int .i64 ((k:Nat):Int)):=he);subst he))
      go_ret
      exact HQ.out
    · have hnr:reserved sx=false:=by
        by_cases hk:kx=3
        · cases hr:reserved sx with
          | true=>exact absurd ⟨hk,hr⟩ hrs
          | false=>rfl
        · rw [hs3 hk];decide
      rw [if_neg (by rw [hnr];decide)];rw [hnr] at HRV;have HEXL:Hid (onPl (exq ns) (.mk (frm 10 a 0) ((x::r).map .dat))=fun st=>bnd (runs (exq ns) ((x::r).map .dat) st []) fun y=>.ok (y.1++[{ frm 10 a 0 with l:=y.2 }],y.1.length)):=Lib.hid (funext fun st=>onPl_mk _ _ _ _);generalize hLL:x::r=l at *;have hcase:(kx=3)∨(kx == 3)=false:=by
        by_cases hk:kx=3
        · exact .inl hk
        · exact .inr (by simp [hk])
      rw [HEXL.out];have HRR:Hid (∀ st,(fun st=>bnd (runs (exq ns) (l.map .dat) st []) fun y=>(.ok (y.1++[{ frm 10 a 0 with l:=y.2 }],y.1.length):Except Int (List Fm × Nat))) st=bnd (runs (exq ns) (l.map .dat) st []) fun y=>.ok (y.1++[{ frm 10 a 0 with l:=y.2 }],y.1.length)):=Lib.hid (fun st=>rfl);generalize (fun st=>bnd (runs (exq ns) (l.map .dat) st []) fun y=>(.ok (y.1++[{ frm 10 a 0 with l:=y.2 }],y.1.length):Except Int (List Fm × Nat)))=RR at *;clear HSP hrs hs3 hnr HEXL hLL HL0;unfold ptr num at *
      rcases hcase with hk3 | hk3
      · subst hk3;go_enter Tryz.func30,Tryz.ntmps30
        go_wp2;rw [HWW.out];go_region
        rw [HW2.out]
        go_wp2_with (first
          | (go_at_call 58;(with_reducible refine (HRV.out _).mono ?_);rintro e w3 ⟨rfl,hF3⟩;have HF3:=Lib.hid (HF2.out.trans hF3 (by simp));have HR3:=Lib.hid (HR2.out.far hF3 (by simp));clear hF3))
        have HC0:Hid (Col w0 w3 w3 E q (.slice (some ⟨b,o,none⟩) n c) fv (bnd X fun st=>runs (exq ns) ((l.take 0).map .dat) st []) (B+sumT ns (l.take 0)) (.slice none 0 0) 0):=Lib.hid (Col.start ((HST.out _ HF3.out).mono (by omega)));have HLW:=Lib.hid (HLL.out.far HF3.out (by simp));clear HRV HW2 HWW p0' p1' p2' q0' q1' q2' q3' q4' p0 p1 p2 q0 q1 q2 q3 q4 k0
        go_loopw [9,10] (fun s9 s10 wr=>∃ (j:Nat) (OA:Option Addr) (oc:Nat),j≤m∧s9 = .slice OA j oc∧s10 = .int .i64 (j:Int)∧Hid (Col w0 w3 wr E q (.slice (some ⟨b,o,none⟩) n c) fv (bnd X fun st=>runs (exq ns) ((l.take j).map .dat) st []) (B+sumT ns (l.take j)) (.slice OA j oc) j)) (fun _ s10 _=>m - (intOf s10).toNat)
        case atStart=>exact ⟨0,none,0,by omega,rfl,rfl,HC0⟩
        case round =>
          obtain ⟨j,OA,oc,hj,rfl,rfl,hC⟩:=hrel;obtain ⟨wo,rfl⟩:∃ wo,wo=wr:=⟨_,rfl⟩
          clear HC0;have hfr:∃ fv',Fr w3 wo q fv fv':=by obtain ⟨fv',_,_,_,_,hF,_⟩:=hC.out;exact ⟨fv',hF⟩
          obtain ⟨fv',hFr⟩:=hfr;have HBo:=Lib.hid (HR3.out.far hFr.far (fun hm=>by have:=HZW.out _ hm;omega));have u1:=HBo.out.at (i:=1) rfl;have u4:=HBo.out.at (i:=4) rfl;by_cases hlt:j < m
          · have hj2:j < l.length:=by rw [HMM.out];exact hlt
            have cc:=(hFr.sl HLW.out).get j (x:=.int .i64 ((l[j]:Nat):Int)) (by unfold ints;rw [List.getElem?_map,List.getElem?_eq_getElem hj2];rfl) rfl;have hix:=HALL.out _ (List.getElem_mem hj2);have htk:=runs_take (R:=exq ns) hj2 X;have hst:=sumT_take (ns:=ns) hj2;have hsl:=sumT_le (ns:=ns) l (j+1);have HCL:=Lib.hid (hC.out.call (R:=exq ns (.dat l[j])) (B':=B+sumT ns (l.take (j+1))) (f:=30) (args:=#[.pointer (some ⟨q,0,none⟩),.int .i64 ((l[j]:Nat):Int),.bool false]) (fun fv1 hS=>by
              have h2:=HFC.out _ _ _ _ _ l[j] false hix.1 hix.2 (by have:=HBB.out;have:=HSUM.out;omega) hS;refine h2.mono fun e w1 hQ=>hQ.mono (by omega)))
            have HTK:=Lib.hid htk;have hml:j≤100000:=by omega
            generalize l[j]=i5 at *;clear hj2 hFr hix htk hst hsl hC
            go_wp2_with (first
              | (go_at_call 30;(with_reducible refine HCL.out.mono ?_);rintro e w4 ⟨fv2,ks,k,he,hks,ho,hS,hF4,hsz,hY⟩;(replace he:e = .returned (.int .i64 ((k:Nat):Int)):=he);subst he;have HKS:=Lib.hid hks;have HO:=Lib.hid (by rw [hks] at ho;exact ho);have HOK2:=Lib.hid ho;have HS:=Lib.hid hS;have HF4:=Lib.hid hF4;have HSZ:=Lib.hid hsz;have HY:=Lib.hid hY;clear hks ho hS hF4 hsz hY)
              | (at_builtin;refine rplace_push (l:=ks) (n:=k) rfl HOK2.out HSZ.out (by have:=HKS.out;omega) rfl (.tmp 93) (.tmp 101) rfl rfl rfl ?_;intro A3 c3 w5 hO3 hF3 hA3;have HN:=Lib.hid (Col.next (Nat.le_trans H0.out HF3.out.size) HS.out HF4.out HOK2.out HY.out hO3 hF3 hA3);clear hO3 hF3 hA3))
            go_roundw
            case rel =>
              have h:=HN.out;rw [HKS.out,← HTK.out] at h;exact ⟨j+1,A3,c3,by omega,by rw [HKS.out],by go_num,Lib.hid h⟩
            case measure=>simp [intOf];omega
          · obtain rfl:j=m:=by omega
            have hall:l.take j=l:=List.take_of_length_le (by rw [HMM.out];exact Nat.le_refl _);have hC2:=hC.out;rw [hall] at hC2;obtain ⟨fv1,ks,hks,ho,hS,hFr1,hY⟩:=hC2;have hSL:Sl wo (E++Zx q fv1) (.slice OA j oc) (ints ks):=Sl.own ho (fun b5 hb5 hm=>by
              rcases List.mem_append.1 hm with hm | hm
              · have h1:=(HSE.out b5 hm)
                have h2:=(MM.own_lt ho b5 hb5).2;have h3:=HF3.out.size;omega
              · exact (hS.ezE b5 (List.mem_append_left _ (by simpa using hb5))).2.2 hm)
            have HPUT:=Lib.hid (sput_any hS.less (by have:=HBB.out;have:=HSUM.out;omega) { frm 10 a 0 with l:=ks } (Sl.nil _ _) hSL);have HCO:=Lib.hid (collect _ (frm 10 a 0) ks hY);have HFR:=Lib.hid hFr1;unfold frm at HPUT;simp only at HPUT
            unfold ptr LX.emp at HPUT;clear hall hC hks ho hS hFr hFr1 hY hSL
            go_wp2_with (go_at_call 56;(with_reducible refine HPUT.out.mono ?_);rintro e w1 hQ;have HQ:=Lib.hid hQ;obtain ⟨k,fv2,he,-⟩:=hQ;(replace he:e = .returned (.int .i64 ((k:Nat):Int)):=he);subst he)
            go_ret
            have h:=(HQ.out.from HFR.out).from (Fr.quiet HF3.out)
            have e:(bnd (fsts (bnd X fun st=>runs (exq ns) (l.map .dat) st [])) fun st=>Except.ok (st++[({ frm 10 a 0 with l:=ks }:Fm)],st.length))=bnd X RR:=by
              rw [HCO.out,bnd_bnd];congr 1
              funext st
              exact (HRR.out st).symm
            rw [← e];exact h.mono (by have:=HSUM.out;omega)
      · go_enter Tryz.func30,Tryz.ntmps30
        go_wp2;rw [HWW.out];go_region
        rw [HW2.out];go_wp2;have HC0:Hid (Col w0 W2 W2 E q (.slice (some ⟨b,o,none⟩) n c) fv (bnd X fun st=>runs (exq ns) ((l.take 0).map .dat) st []) (B+sumT ns (l.take 0)) (.slice none 0 0) 0):=Lib.hid (Col.start ((HST.out _ HF2.out).mono (by omega)));have HLW:=Lib.hid (HLL.out.far HF2.out (by simp));clear HRV HW2 HWW p0' p1' p2' q0' q1' q2' q3' q4' p0 p1 p2 q0 q1 q2 q3 q4 k0
        go_loopw [9,10] (fun s9 s10 wr=>∃ (j:Nat) (OA:Option Addr) (oc:Nat),j≤m∧s9 = .slice OA j oc∧s10 = .int .i64 (j:Int)∧Hid (Col w0 W2 wr E q (.slice (some ⟨b,o,none⟩) n c) fv (bnd X fun st=>runs (exq ns) ((l.take j).map .dat) st []) (B+sumT ns (l.take j)) (.slice OA j oc) j)) (fun _ s10 _=>m - (intOf s10).toNat)
        case atStart=>exact ⟨0,none,0,by omega,rfl,rfl,HC0⟩
        case round =>
          obtain ⟨j,OA,oc,hj,rfl,rfl,hC⟩:=hrel;obtain ⟨wo,rfl⟩:∃ wo,wo=wr:=⟨_,rfl⟩
          clear HC0;have hfr:∃ fv',Fr W2 wo q fv fv':=by obtain ⟨fv',_,_,_,_,hF,_⟩:=hC.out;exact ⟨fv',hF⟩
          obtain ⟨fv',hFr⟩:=hfr;have HBo:=Lib.hid (HR2.out.far hFr.far (fun hm=>by have:=HZW.out _ hm;omega));have u1:=HBo.out.at (i:=1) rfl;have u4:=HBo.out.at (i:=4) rfl;by_cases hlt:j < m
          · have hj2:j < l.length:=by rw [HMM.out];exact hlt
            have cc:=(hFr.sl HLW.out).get j (x:=.int .i64 ((l[j]:Nat):Int)) (by unfold ints;rw [List.getElem?_map,List.getElem?_eq_getElem hj2];rfl) rfl;have hix:=HALL.out _ (List.getElem_mem hj2);have htk:=runs_take (R:=exq ns) hj2 X;have hst:=sumT_take (ns:=ns) hj2;have hsl:=sumT_le (ns:=ns) l (j+1);have HCL:=Lib.hid (hC.out.call (R:=exq ns (.dat l[j])) (B':=B+sumT ns (l.take (j+1))) (f:=30) (args:=#[.pointer (some ⟨q,0,none⟩),.int .i64 ((l[j]:Nat):Int),.bool false]) (fun fv1 hS=>by
              have h2:=HFC.out _ _ _ _ _ l[j] false hix.1 hix.2 (by have:=HBB.out;have:=HSUM.out;omega) hS;refine h2.mono fun e w1 hQ=>hQ.mono (by omega)))
            have HTK:=Lib.hid htk;have hml:j≤100000:=by omega
            generalize l[j]=i5 at *;clear hj2 hFr hix htk hst hsl hC
            go_wp2_with (first
              | (go_at_call 30;(with_reducible refine HCL.out.mono ?_);rintro e w4 ⟨fv2,ks,k,he,hks,ho,hS,hF4,hsz,hY⟩;(replace he:e = .returned (.int .i64 ((k:Nat):Int)):=he);subst he;have HKS:=Lib.hid hks;have HO:=Lib.hid (by rw [hks] at ho;exact ho);have HOK2:=Lib.hid ho;have HS:=Lib.hid hS;have HF4:=Lib.hid hF4;have HSZ:=Lib.hid hsz;have HY:=Lib.hid hY;clear hks ho hS hF4 hsz hY)
              | (at_builtin;refine rplace_push (l:=ks) (n:=k) rfl HOK2.out HSZ.out (by have:=HKS.out;omega) rfl (.tmp 93) (.tmp 101) rfl rfl rfl ?_;intro A3 c3 w5 hO3 hF3 hA3;have HN:=Lib.hid (Col.next (Nat.le_trans H0.out HF2.out.size) HS.out HF4.out HOK2.out HY.out hO3 hF3 hA3);clear hO3 hF3 hA3))
            go_roundw
            case rel =>
              have h:=HN.out;rw [HKS.out,← HTK.out] at h;exact ⟨j+1,A3,c3,by omega,by rw [HKS.out],by go_num,Lib.hid h⟩
            case measure=>simp [intOf];omega
          · obtain rfl:j=m:=by omega
            have hall:l.take j=l:=List.take_of_length_le (by rw [HMM.out];exact Nat.le_refl _);have hC2:=hC.out;rw [hall] at hC2;obtain ⟨fv1,ks,hks,ho,hS,hFr1,hY⟩:=hC2;have hSL:Sl wo (E++Zx q fv1) (.slice OA j oc) (ints ks):=Sl.own ho (fun b5 hb5 hm=>by
              rcases List.mem_append.1 hm with hm | hm
              · have h1:=(HSE.out b5 hm)
                have h2:=(MM.own_lt ho b5 hb5).2;have h3:=HF2.out.size;omega
              · exact (hS.ezE b5 (List.mem_append_left _ (by simpa using hb5))).2.2 hm)
            have HPUT:=Lib.hid (sput_any hS.less (by have:=HBB.out;have:=HSUM.out;omega) { frm 10 a 0 with l:=ks } (Sl.nil _ _) hSL);have HCO:=Lib.hid (collect _ (frm 10 a 0) ks hY);have HFR:=Lib.hid hFr1;unfold frm at HPUT;simp only at HPUT
            unfold ptr LX.emp at HPUT;clear hall hC hks ho hS hFr hFr1 hY hSL
            go_wp2_with (go_at_call 56;(with_reducible refine HPUT.out.mono ?_);rintro e w1 hQ;have HQ:=Lib.hid hQ;obtain ⟨k,fv2,he,-⟩:=hQ;(replace he:e = .returned (.int .i64 ((k:Nat):Int)):=he);subst he)
            go_ret
            have h:=(HQ.out.from HFR.out).from (Fr.quiet HF2.out)
            have e:(bnd (fsts (bnd X fun st=>runs (exq ns) (l.map .dat) st [])) fun st=>Except.ok (st++[({ frm 10 a 0 with l:=ks }:Fm)],st.length))=bnd X RR:=by
              rw [HCO.out,bnd_bnd];congr 1
              funext st
              exact (HRR.out st).symm
            rw [← e];exact h.mono (by have:=HSUM.out;omega)
theorem sform_any {N:Nat} (HF:FormC w0 q (some ⟨b,o,none⟩) n c ns N) (D:Dta w0 (some ⟨b,o,none⟩) n ns) (h:Stx w0 w E q (.slice (some ⟨b,o,none⟩) n c) fv X B) {i:Nat} (hi:i < n) (hN:16*T ns i≤N+9) (hB:B+(16*T ns i - 8)≤200000) (top:Bool) :
    Calls Tryz.prog 30 #[ptr q,num i,.bool top] w (OutQ w0 w E q (.slice (some ⟨b,o,none⟩) n c) fv (bnd X (exq ns (ptT i top))) (B+(16*T ns i - 8))):=by
  cases X with
  | ok st =>
    have h0:=h;obtain ⟨rs,bad,h1,h2,h3,h4⟩:=h0;subst h3;exact sform_ok HF D h (h1.head.at (i:=2) rfl) hi hN hB top
  | error a =>
    obtain ⟨rs,bad,h1,h2,rfl,h4⟩:=h;have x2:=h1.head.at (i:=2) rfl;have HH:=Lib.hid h1;have H2:=Lib.hid h2;clear h1 h2 HF D;unfold ptr num;go_enter Tryz.func30,Tryz.ntmps30
    go_wp2;go_ret
    exact ⟨0,fv,rfl,Fr.refl _ _ _,⟨rs,bad,HH.out,by have:=H2.out;omega,rfl,h4⟩,fun st k e=>by cases e⟩
theorem form_all (D:Dta w0 (some ⟨b,o,none⟩) n ns):∀ N,FormC w0 q (some ⟨b,o,none⟩) n c ns N:=by
  intro N;induction N with
  | zero =>
    intro E w fv X B i top hi hN;have:=T_pos ns i;omega
  | succ N HF =>
    intro E w fv X B i top hi hN hB h;exact sform_any HF D h hi (by omega) hB top
end
end EW
end Go.Proofs.YtehgmmbdlnginaaGreatDoor
