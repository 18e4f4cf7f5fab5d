/-
  Several texts in one: ScoR7,ScoR8.
-/
import Derived.Test.YtehgmmbdlnginaaGreatDoorQScoR6
namespace Go.Proofs.YtehgmmbdlnginaaGreatDoor
open Go.RowKit
set_option linter.unusedVariables false
namespace SR
open LX SX RW6 EX SC SM
open EW (Sl Zx Fr ptr num strs cell_far forms_slice form_info own_form sz_alloc beq_list strs_len ints_len NdR slice_ints1)
open RX (Nd)
section
variable {w0 w w1 w2:World} {E:List Nat} {q:Nat} {h:Dh} {rv rv1 V:Value} {X:Except Er Su} {B B':Nat} {C:Cx} {R:Rws} {st:Su}
theorem one_of {l:List Nat} (h:l.length=1):∃ p,l=[p]:=by
  match l,h with
  | [p],_=>exact ⟨p,rfl⟩
theorem box_off {b:Nat} (hF:Fr w w1 q rv rv1) (hb:b∉Zx q rv) (hl:b < w.heap.size):b∉Zx q rv1:=fun hm=>(hF.new b hm).elim hb (fun h=>by omega)
set_option maxHeartbeats 4000000 in
set_option maxRecDepth 20000 in
theorem sset_any {M:Nat} (HF:FormC w0 q h C M) (L:Lr w0 h C) (s:Sst w0 w E q h rv (.ok st) B) (hE:Env w (E++Zx q rv) V R) (f:Fm) {PA LA:Option Addr} {pc lc:Nat} (ha:0≤f.at_) (hk:f.l.length=1) (hin:∀ p∈f.l,p < C.fs.length∧F C p≤M) (hB:B+sumF C f.l+1≤1000000000) (hR:R.length+sumF C f.l≤1000000000)
    (hl:Sl w (E++Zx q rv) (.slice LA f.l.length lc) (ints f.l)) :
    Calls Tryz.prog 69 #[ptr q,.agg #[.int .u8 f.kind,.int .i64 f.at_,.int .i64 f.n,.int .i64 0,.string f.s,.slice PA f.p.length pc,.int .u64 0,.slice LA f.l.length lc],V] w (OutS w0 w E q h rv (onQ C (setP' C R st.1 f) st.2) (B+sumF C f.l+1)):=by
  obtain ⟨VA,VC,rfl⟩:=hE.form;obtain ⟨kd,fa,fn,fs,fp,fl⟩:=f;simp only at ha hk hin hB hR hl ⊢
  unfold setP';simp only
  obtain ⟨p,rfl⟩:=one_of hk;obtain ⟨g,o,c1,e,cc,hc1,hc2,hlt,hgz,-⟩:=Sl.cons (u:=num p) (vs:=[]) hl;injection e with e1 e2 e3;subst e1 e3;have hs1:=fun W=>slice_one g o [p].length lc hc1 W
  have HSL:=Lib.hid hl;have HM1:Hid ([p].length=1):=Lib.hid rfl;generalize [p].length=ln at *;generalize fp.length=pn;have R0:=MM.Row.new w 39 [.int .u8 kd,.int .i64 fa,.int .i64 fn,.int .i64 0,.string fs,.slice PA pn pc,.int .u64 0,.slice (some ⟨g,o,none⟩) ln lc];have F0:=(MM.Far.refl [] w).alloc (.cells #[.int .u8 kd,.int .i64 fa,.int .i64 fn,.int .i64 0,.string fs,.slice PA pn pc,.int .u64 0,.slice (some ⟨g,o,none⟩) ln lc] 39);have HBX:=Lib.hid R0;have HF0:=Lib.hid F0;have HBZ:Hid (w.heap.size∉Zx q rv):=Lib.hid (fun hm=>by have:=s.low.2.1 _ hm;omega);have HWH:=Lib.hid (where_any (hE.far F0 (by simp)) fs);have HOWN:=Lib.hid (fun (w':World) (f:MM.Far [] w w')=>sown_any (s.to f) fs);rw [L.own] at HOWN;have hWA:whA R fs=match wher R fs with | some (a,_)=>(a:Nat) | none=>-1:=rfl
  have hWN:whN R fs=match wher R fs with | some (_,n)=>(n:Nat) | none=>0:=rfl
  have HBB:=Lib.hid hB;have HALLF:=Lib.hid (fun (w':World) (st':Su) (f:Fr w w' q rv rv) (s':Sst w0 w' E q h rv (.ok st') B)=>sall_any HF s' (Env.fr f hE) (A:=some ⟨g,o,none⟩) (m:=1) (lc:=lc) (l:=[p]) (by have:=f.sl HSL.out;rw [HM1.out] at this;exact this) rfl (by omega) hin (by omega) hR);have HEX:Hid (∀ (k n a:Int) (s1:ByteArray) (N1:List ByteArray),onQ C (.mk ⟨k,fa,n,a,s1,0,[]⟩ R ([p].map .form),N1) st.2=thn (thn (.ok ((N1,st.2):Su)) fun s=>runsS (sq C R) ([p].map .form) s []) fun z=>.ok ((z.1.1,z.1.2++[({ (⟨k,fa,n,a,s1,0,[]⟩:Rf) with l:=z.2 }:Rf)]),z.1.2.length)):=Lib.hid (fun _ _ _ _ _=>rfl);simp only at HEX
  cases hw:wher R fs with
  | some x =>
    obtain ⟨a,n⟩:=x;rw [hw] at hWA hWN;simp only at hWA hWN
    rw [hWA,hWN] at HWH;simp only
    rw [HEX.out];have HALL:=Lib.hid (HALLF.out _ st (Fr.quiet F0.drew) (s.to F0.drew));have h0:¬ (a:Int) < 0:=by omega
    clear s hE L hWA hWN hw R0 F0 HOWN hl HSL HF hin hB hR HM1 HALLF HEX hk e2 hc2 hgz;generalize R.length=rl at *
    (try unfold num at *);unfold ptr at *
    go_enter Tryz.func69,Tryz.ntmps69
    go_wp2_with (first
      | (go_at_call 110;(with_reducible refine HWH.out.mono ?_);rintro e w1 ⟨rfl,rfl⟩))
    generalize w.alloc (.cells #[.int .u8 kd,.int .i64 fa,.int .i64 fn,.int .i64 0,.string fs,.slice PA pn pc,.int .u64 0,.slice (some ⟨g,o,none⟩) ln lc] 39)=W at *;have ru1:=HBX.out.at (i:=1) rfl;have ru7:=HBX.out.at (i:=7) rfl
    go_region_held3 (fun w'=>w'.cell? ⟨w.heap.size,1,none⟩=some (.int .i64 fa)∧w'.cell? ⟨w.heap.size,7,none⟩=some (.slice (some ⟨g,o,none⟩) ln lc)) (first | (with_reducible assumption) | go_keep) (first
      | (go_at_call 68;(with_reducible refine HALL.out.mono ?_);rintro e w7 ⟨A7,c7,ks,rv7,rfl,hSl7,hS7,hF7,hY7⟩;have HB7:=Lib.hid (HBX.out.drew.far hF7.far HBZ.out);have HBZ7:=Lib.hid (box_off hF7 HBZ.out HBX.out.drew.lt);have hk:w7.cell? ⟨w.heap.size,1,none⟩=some (.int .i64 fa)∧w7.cell? ⟨w.heap.size,7,none⟩=some (.slice (some ⟨g,o,none⟩) ln lc):=⟨HB7.out.at (i:=1) rfl,HB7.out.at (i:=7) rfl⟩;have HP:=Lib.hid (sput_all hS7 (by have:=HBB.out;omega) (⟨7,fa,n,a,emp,0,[]⟩:Rf) hSl7 hY7);unfold ptr at HP;(try unfold LX.emp at HP);simp only at HP;have HF7:=Lib.hid ((Fr.quiet HF0.out.drew).trans hF7);obtain ⟨kn,hkn⟩:∃ kn,ks.length=kn:=⟨_,rfl⟩;rw [hkn] at HP ⊢;clear hS7 hF7 hSl7 hY7 hkn)
      | (go_at_call 67;(with_reducible refine HP.out.mono ?_);rintro e w8 hQ;have HQ:=Lib.hid (hQ.from HF7.out);obtain ⟨k,fv1,he,hF8,-⟩:=hQ;(replace he:e = .returned (.int .i64 ((k:Nat):Int)):=he);subst he;have HB8:=Lib.hid (HB7.out.far hF8.far HBZ7.out);have hk:w8.cell? ⟨w.heap.size,1,none⟩=some (.int .i64 fa)∧w8.cell? ⟨w.heap.size,7,none⟩=some (.slice (some ⟨g,o,none⟩) ln lc):=⟨HB8.out.at (i:=1) rfl,HB8.out.at (i:=7) rfl⟩;clear hF8))
    go_wp2;go_ret
    exact HQ.out.mono (by omega)
  | none =>
    rw [hw] at hWA hWN;simp only at hWA hWN
    rw [hWA,hWN] at HWH;simp only
    have HPR:=Lib.hid (rprim_any (w.alloc (.cells #[.int .u8 kd,.int .i64 fa,.int .i64 fn,.int .i64 0,.string fs,.slice PA pn pc,.int .u64 0,.slice (some ⟨g,o,none⟩) ln lc] 39)) fs);by_cases ho:fs∈C.own
    · rw [if_pos ho];rw [decide_eq_true ho] at HOWN;have HNUM:=Lib.hid (fun (w':World) (f:MM.Far [] w w')=>snumber_any (s.to f) L.gd.few (L.gd.ownP ho));rw [HEX.out];clear s hE L hWA hWN hw R0 F0 hl HSL HF hin hB hR HM1 HEX hk e2 hc2 hgz ho;generalize R.length=rl at *;generalize NP.putL st.1 fs=N1 at *;generalize NP.putI st.1 fs=n1 at *
      (try unfold num at *);unfold ptr at *
      go_enter Tryz.func69,Tryz.ntmps69
      go_wp2_with (first
        | (go_at_call 110;(with_reducible refine HWH.out.mono ?_);rintro e w1 ⟨rfl,rfl⟩)
        | (go_at_call 78;(with_reducible refine HPR.out.mono ?_);rintro e w3 ⟨rfl,hF3⟩;have HB3:=Lib.hid (HBX.out.far hF3 (by simp));have HF3:=Lib.hid (HF0.out.trans hF3 (by simp));skip;have t0:=HB3.out.at (i:=0) rfl;have t1:=HB3.out.at (i:=1) rfl;have t2:=HB3.out.at (i:=2) rfl;have t3:=HB3.out.at (i:=3) rfl;have t4:=HB3.out.at (i:=4) rfl;have t5:=HB3.out.at (i:=5) rfl;have t6:=HB3.out.at (i:=6) rfl;have t7:=HB3.out.at (i:=7) rfl;clear hF3)
        | (go_at_call 111;(with_reducible refine (HOWN.out _ HF3.out).mono ?_);rintro e w1 ⟨rfl,rfl⟩)
        | (go_at_call 108;(with_reducible refine (HNUM.out _ HF3.out).mono ?_);rintro e w4 ⟨rfl,hS4,hF4⟩;have HB4:=Lib.hid (HB3.out.far hF4.far HBZ.out);have c1:=HB4.out.at (i:=1) rfl;have c4:=HB4.out.at (i:=4) rfl;have c7:=HB4.out.at (i:=7) rfl;have HF4:=Lib.hid (((Fr.quiet HF3.out).trans hF4).trans (Fr.quiet (MM.Far.refl [] w4).drew));have HALL:=Lib.hid (HALLF.out _ (N1,st.2) HF4.out (hS4.to (MM.Far.refl [] w4).drew));unfold ptr at HALL;clear hS4 hF4 t0 t1 t2 t3 t4 t5 t6 t7))
      have ru1:=HB4.out.at (i:=1) rfl;have ru7:=HB4.out.at (i:=7) rfl
      go_region_held3 (fun w'=>w'.cell? ⟨w.heap.size,1,none⟩=some (.int .i64 fa)∧w'.cell? ⟨w.heap.size,7,none⟩=some (.slice (some ⟨g,o,none⟩) ln lc)) (first | (with_reducible assumption) | go_keep) (first
      | (go_at_call 68;(with_reducible refine HALL.out.mono ?_);rintro e w7 ⟨A7,c7,ks,rv7,rfl,hSl7,hS7,hF7,hY7⟩;have HB7:=Lib.hid (HB4.out.drew.far hF7.far HBZ.out);have HBZ7:=Lib.hid (box_off hF7 HBZ.out HB4.out.drew.lt);have hk:w7.cell? ⟨w.heap.size,1,none⟩=some (.int .i64 fa)∧w7.cell? ⟨w.heap.size,7,none⟩=some (.slice (some ⟨g,o,none⟩) ln lc):=⟨HB7.out.at (i:=1) rfl,HB7.out.at (i:=7) rfl⟩;have HP:=Lib.hid (sput_all hS7 (by have:=HBB.out;omega) (⟨7,fa,n1,-1,fs,0,[]⟩:Rf) hSl7 hY7);unfold ptr at HP;(try unfold LX.emp at HP);simp only at HP;have HF7:=Lib.hid (HF4.out.trans hF7);obtain ⟨kn,hkn⟩:∃ kn,ks.length=kn:=⟨_,rfl⟩;rw [hkn] at HP ⊢;clear hS7 hF7 hSl7 hY7 hkn)
      | (go_at_call 67;(with_reducible refine HP.out.mono ?_);rintro e w8 hQ;have HQ:=Lib.hid (hQ.from HF7.out);obtain ⟨k,fv1,he,hF8,-⟩:=hQ;(replace he:e = .returned (.int .i64 ((k:Nat):Int)):=he);subst he;have HB8:=Lib.hid (HB7.out.far hF8.far HBZ7.out);have hk:w8.cell? ⟨w.heap.size,1,none⟩=some (.int .i64 fa)∧w8.cell? ⟨w.heap.size,7,none⟩=some (.slice (some ⟨g,o,none⟩) ln lc):=⟨HB8.out.at (i:=1) rfl,HB8.out.at (i:=7) rfl⟩;clear hF8))
      go_wp2;go_ret
      exact HQ.out.mono (by omega)
    · rw [if_neg ho];rw [decide_eq_false ho] at HOWN;have HWR:=Lib.hid (fun (w2:World) (f:MM.Far [] w w2) (er:Int)=>swrong_any (s.to f) kd fa fn 0 fs 0 (PA:=PA) (LA:=some ⟨g,o,none⟩) (pn:=pn) (pc:=pc) (ln:=ln) (lc:=lc) ha er);unfold noName;clear s hE L hWA hWN hw R0 F0 hl HSL HF hin hB hR HM1 HEX hk e2 hc2 hgz ho HALLF;generalize R.length=rl at *;cases hp:isPrim fs with
      | true =>
        rw [hp] at HPR;have HEX:Hid (onQ C (.bad fa (if true=true then 90 else 91),st.1) st.2 = .error (fa,90,st.1)):=Lib.hid rfl;rw [HEX.out];clear HEX hp
        (try unfold num at *);unfold ptr at *
        go_enter Tryz.func69,Tryz.ntmps69
        go_wp2_with (first
          | (go_at_call 110;(with_reducible refine HWH.out.mono ?_);rintro e w1 ⟨rfl,rfl⟩)
          | (go_at_call 78;(with_reducible refine HPR.out.mono ?_);rintro e w3 ⟨rfl,hF3⟩;have HB3:=Lib.hid (HBX.out.far hF3 (by simp));have HF3:=Lib.hid (HF0.out.trans hF3 (by simp));have HW3:=Lib.hid (HWR.out _ HF3.out 90);have t0:=HB3.out.at (i:=0) rfl;have t1:=HB3.out.at (i:=1) rfl;have t2:=HB3.out.at (i:=2) rfl;have t3:=HB3.out.at (i:=3) rfl;have t4:=HB3.out.at (i:=4) rfl;have t5:=HB3.out.at (i:=5) rfl;have t6:=HB3.out.at (i:=6) rfl;have t7:=HB3.out.at (i:=7) rfl;clear hF3)
          | (go_at_call 111;(with_reducible refine (HOWN.out _ HF3.out).mono ?_);rintro e w1 ⟨rfl,rfl⟩)
          | (go_at_call 112;(with_reducible refine HW3.out.mono ?_);rintro e w1 hQ;have HQ:=Lib.hid (hQ.from (Fr.quiet HF3.out));obtain ⟨k,fv1,he,-⟩:=hQ;(replace he:e = .returned (.int .i64 ((k:Nat):Int)):=he);subst he))
        go_ret
        exact HQ.out.mono (by omega)
      | false =>
        rw [hp] at HPR;have HEX:Hid (onQ C (.bad fa (if false=true then 90 else 91),st.1) st.2 = .error (fa,91,st.1)):=Lib.hid rfl;rw [HEX.out];clear HEX hp
        (try unfold num at *);unfold ptr at *
        go_enter Tryz.func69,Tryz.ntmps69
        go_wp2_with (first
          | (go_at_call 110;(with_reducible refine HWH.out.mono ?_);rintro e w1 ⟨rfl,rfl⟩)
          | (go_at_call 78;(with_reducible refine HPR.out.mono ?_);rintro e w3 ⟨rfl,hF3⟩;have HB3:=Lib.hid (HBX.out.far hF3 (by simp));have HF3:=Lib.hid (HF0.out.trans hF3 (by simp));have HW3:=Lib.hid (HWR.out _ HF3.out 91);have t0:=HB3.out.at (i:=0) rfl;have t1:=HB3.out.at (i:=1) rfl;have t2:=HB3.out.at (i:=2) rfl;have t3:=HB3.out.at (i:=3) rfl;have t4:=HB3.out.at (i:=4) rfl;have t5:=HB3.out.at (i:=5) rfl;have t6:=HB3.out.at (i:=6) rfl;have t7:=HB3.out.at (i:=7) rfl;clear hF3)
          | (go_at_call 111;(with_reducible refine (HOWN.out _ HF3.out).mono ?_);rintro e w1 ⟨rfl,rfl⟩)
          | (go_at_call 112;(with_reducible refine HW3.out.mono ?_);rintro e w1 hQ;have HQ:=Lib.hid (hQ.from (Fr.quiet HF3.out));obtain ⟨k,fv1,he,-⟩:=hQ;(replace he:e = .returned (.int .i64 ((k:Nat):Int)):=he);subst he))
        go_ret
        exact HQ.out.mono (by omega)
set_option maxHeartbeats 4000000 in
set_option maxRecDepth 20000 in
theorem sdef_any {M:Nat} (HF:FormC w0 q h C M) (L:Lr w0 h C) (s:Sst w0 w E q h rv (.ok st) B) (hE:Env w (E++Zx q rv) V R) (f:Fm) {PA LA:Option Addr} {pc lc:Nat} (ha:0≤f.at_) (hPK:PK h.K f.s) (hk:f.l.length=1) (hin:∀ p∈f.l,p < C.fs.length∧F C p≤M) (hB:B+sumF C f.l+1≤1000000000) (hR:R.length+sumF C f.l≤1000000000)
    (hl:Sl w (E++Zx q rv) (.slice LA f.l.length lc) (ints f.l)) :
    Calls Tryz.prog 70 #[ptr q,.agg #[.int .u8 f.kind,.int .i64 f.at_,.int .i64 f.n,.int .i64 0,.string f.s,.slice PA f.p.length pc,.int .u64 0,.slice LA f.l.length lc],V] w (OutS w0 w E q h rv (onQ C (defP R st.1 f) st.2) (B+sumF C f.l+1)):=by
  obtain ⟨VA,VC,rfl⟩:=hE.form;obtain ⟨kd,fa,fn,fs,fp,fl⟩:=f;simp only at ha hk hin hB hR hl hPK ⊢
  unfold defP;simp only
  obtain ⟨p,rfl⟩:=one_of hk;obtain ⟨g,o,c1,e,cc,hc1,hc2,hlt,hgz,-⟩:=Sl.cons (u:=num p) (vs:=[]) hl;injection e with e1 e2 e3;subst e1 e3;have hs1:=fun W=>slice_one g o [p].length lc hc1 W
  have HSL:=Lib.hid hl;have HM1:Hid ([p].length=1):=Lib.hid rfl;generalize [p].length=ln at *;generalize fp.length=pn;have R0:=MM.Row.new w 39 [.int .u8 kd,.int .i64 fa,.int .i64 fn,.int .i64 0,.string fs,.slice PA pn pc,.int .u64 0,.slice (some ⟨g,o,none⟩) ln lc];have F0:=(MM.Far.refl [] w).alloc (.cells #[.int .u8 kd,.int .i64 fa,.int .i64 fn,.int .i64 0,.string fs,.slice PA pn pc,.int .u64 0,.slice (some ⟨g,o,none⟩) ln lc] 39);have HBX:=Lib.hid R0;have HF0:=Lib.hid F0;have HBZ:Hid (w.heap.size∉Zx q rv):=Lib.hid (fun hm=>by have:=s.low.2.1 _ hm;omega);have HBB:=Lib.hid hB;have HALLF:=Lib.hid (fun (w':World) (st':Su) (f:Fr w w' q rv rv) (s':Sst w0 w' E q h rv (.ok st') B)=>sall_any HF s' (Env.fr f hE) (A:=some ⟨g,o,none⟩) (m:=1) (lc:=lc) (l:=[p]) (by have:=f.sl HSL.out;rw [HM1.out] at this;exact this) rfl (by omega) hin (by omega) hR);have HEX:Hid (∀ (k n a:Int) (s1:ByteArray) (N1:List ByteArray),onQ C (.mk ⟨k,fa,n,a,s1,0,[]⟩ R ([p].map .form),N1) st.2=thn (thn (.ok ((N1,st.2):Su)) fun s=>runsS (sq C R) ([p].map .form) s []) fun z=>.ok ((z.1.1,z.1.2++[({ (⟨k,fa,n,a,s1,0,[]⟩:Rf) with l:=z.2 }:Rf)]),z.1.2.length)):=Lib.hid (fun _ _ _ _ _=>rfl);simp only at HEX
  have HPR:=Lib.hid (rprim_any (w.alloc (.cells #[.int .u8 kd,.int .i64 fa,.int .i64 fn,.int .i64 0,.string fs,.slice PA pn pc,.int .u64 0,.slice (some ⟨g,o,none⟩) ln lc] 39)) fs);cases hp:isPrim fs with
  | false =>
    rw [hp] at HPR;rw [if_neg (by decide)];have HNUM:=Lib.hid (fun (w':World) (f:MM.Far [] w w')=>snumber_any (s.to f) L.gd.few hPK);rw [HEX.out];clear s hE L R0 F0 hl HSL HF hin hB hR HM1 HEX hk e2 hc2 hgz hp hPK;generalize R.length=rl at *;generalize NP.putL st.1 fs=N1 at *;generalize NP.putI st.1 fs=n1 at *
    (try unfold num at *);unfold ptr at *
    go_enter Tryz.func70,Tryz.ntmps70
    go_wp2_with (first
      | (go_at_call 78;(with_reducible refine HPR.out.mono ?_);rintro e w3 ⟨rfl,hF3⟩;have HB3:=Lib.hid (HBX.out.far hF3 (by simp));have HF3:=Lib.hid (HF0.out.trans hF3 (by simp));skip;have t0:=HB3.out.at (i:=0) rfl;have t1:=HB3.out.at (i:=1) rfl;have t2:=HB3.out.at (i:=2) rfl;have t3:=HB3.out.at (i:=3) rfl;have t4:=HB3.out.at (i:=4) rfl;have t5:=HB3.out.at (i:=5) rfl;have t6:=HB3.out.at (i:=6) rfl;have t7:=HB3.out.at (i:=7) rfl;clear hF3)
      | (go_at_call 108;(with_reducible refine (HNUM.out _ HF3.out).mono ?_);rintro e w4 ⟨rfl,hS4,hF4⟩;have HB4:=Lib.hid (HB3.out.far hF4.far HBZ.out);have c1:=HB4.out.at (i:=1) rfl;have c4:=HB4.out.at (i:=4) rfl;have c7:=HB4.out.at (i:=7) rfl;have HF4:=Lib.hid (((Fr.quiet HF3.out).trans hF4).trans (Fr.quiet (MM.Far.refl [] w4).drew));have HALL:=Lib.hid (HALLF.out _ (N1,st.2) HF4.out (hS4.to (MM.Far.refl [] w4).drew));unfold ptr at HALL;clear hS4 hF4 t0 t1 t2 t3 t4 t5 t6 t7))
    have ru1:=HB4.out.at (i:=1) rfl;have ru4:=HB4.out.at (i:=4) rfl;have ru7:=HB4.out.at (i:=7) rfl
    go_region_held3 (fun w'=>w'.cell? ⟨w.heap.size,1,none⟩=some (.int .i64 fa)∧w'.cell? ⟨w.heap.size,4,none⟩=some (.string fs)∧w'.cell? ⟨w.heap.size,7,none⟩=some (.slice (some ⟨g,o,none⟩) ln lc)) (first | (with_reducible assumption) | go_keep) (first
      | (go_at_call 68;(with_reducible refine HALL.out.mono ?_);rintro e w7 ⟨A7,c7,ks,rv7,rfl,hSl7,hS7,hF7,hY7⟩;have HB7:=Lib.hid (HB4.out.drew.far hF7.far HBZ.out);have HBZ7:=Lib.hid (box_off hF7 HBZ.out HB4.out.drew.lt);have hk:w7.cell? ⟨w.heap.size,1,none⟩=some (.int .i64 fa)∧w7.cell? ⟨w.heap.size,4,none⟩=some (.string fs)∧w7.cell? ⟨w.heap.size,7,none⟩=some (.slice (some ⟨g,o,none⟩) ln lc):=⟨HB7.out.at (i:=1) rfl,HB7.out.at (i:=4) rfl,HB7.out.at (i:=7) rfl⟩;have HP:=Lib.hid (sput_all hS7 (by have:=HBB.out;omega) (⟨9,fa,n1,0,fs,0,[]⟩:Rf) hSl7 hY7);unfold ptr at HP;(try unfold LX.emp at HP);simp only at HP;have HF7:=Lib.hid (HF4.out.trans hF7);obtain ⟨kn,hkn⟩:∃ kn,ks.length=kn:=⟨_,rfl⟩;rw [hkn] at HP ⊢;clear hS7 hF7 hSl7 hY7 hkn)
      | (go_at_call 67;(with_reducible refine HP.out.mono ?_);rintro e w8 hQ;have HQ:=Lib.hid (hQ.from HF7.out);obtain ⟨k,fv1,he,hF8,-⟩:=hQ;(replace he:e = .returned (.int .i64 ((k:Nat):Int)):=he);subst he;have HB8:=Lib.hid (HB7.out.far hF8.far HBZ7.out);have hk:w8.cell? ⟨w.heap.size,1,none⟩=some (.int .i64 fa)∧w8.cell? ⟨w.heap.size,4,none⟩=some (.string fs)∧w8.cell? ⟨w.heap.size,7,none⟩=some (.slice (some ⟨g,o,none⟩) ln lc):=⟨HB8.out.at (i:=1) rfl,HB8.out.at (i:=4) rfl,HB8.out.at (i:=7) rfl⟩;clear hF8))
    go_wp2;go_ret
    exact HQ.out.mono (by omega)
  | true =>
    rw [hp] at HPR;rw [if_pos rfl];have HWR:=Lib.hid (fun (w2:World) (f:MM.Far [] w w2) (er:Int)=>swrong_any (s.to f) kd fa fn 0 fs 0 (PA:=PA) (LA:=some ⟨g,o,none⟩) (pn:=pn) (pc:=pc) (ln:=ln) (lc:=lc) ha er);clear s hE L R0 F0 hl HSL HF hin hB hR HM1 HEX hk e2 hc2 hgz HALLF hp hPK;generalize R.length=rl at *;have HEX:Hid (onQ C (.bad fa 90,st.1) st.2 = .error (fa,90,st.1)):=Lib.hid rfl;rw [HEX.out];clear HEX
    (try unfold num at *);unfold ptr at *
    go_enter Tryz.func70,Tryz.ntmps70
    go_wp2_with (first
      | (go_at_call 78;(with_reducible refine HPR.out.mono ?_);rintro e w3 ⟨rfl,hF3⟩;have HB3:=Lib.hid (HBX.out.far hF3 (by simp));have HF3:=Lib.hid (HF0.out.trans hF3 (by simp));have HW3:=Lib.hid (HWR.out _ HF3.out 90);have t0:=HB3.out.at (i:=0) rfl;have t1:=HB3.out.at (i:=1) rfl;have t2:=HB3.out.at (i:=2) rfl;have t3:=HB3.out.at (i:=3) rfl;have t4:=HB3.out.at (i:=4) rfl;have t5:=HB3.out.at (i:=5) rfl;have t6:=HB3.out.at (i:=6) rfl;have t7:=HB3.out.at (i:=7) rfl;clear hF3)
      | (go_at_call 112;(with_reducible refine HW3.out.mono ?_);rintro e w1 hQ;have HQ:=Lib.hid (hQ.from (Fr.quiet HF3.out));obtain ⟨k,fv1,he,-⟩:=hQ;(replace he:e = .returned (.int .i64 ((k:Nat):Int)):=he);subst he))
    go_ret
    exact HQ.out.mono (by omega)
end
end SR
end Go.Proofs.YtehgmmbdlnginaaGreatDoor
namespace Go.Proofs.YtehgmmbdlnginaaGreatDoor
open Go.RowKit
set_option linter.unusedVariables false
namespace SR
open LX SX RW6 EX SC SM
open EW (Sl Zx Fr ptr num strs cell_far forms_slice form_info own_form sz_alloc beq_list strs_len ints_len NdR slice_ints1)
open RX (Nd)
section
variable {w0 w w1 w2:World} {E:List Nat} {q:Nat} {h:Dh} {rv rv1 V:Value} {X:Except Er Su} {B B':Nat} {C:Cx} {R:Rws} {st:Su}
theorem sumF_cons (x:Nat) (r:List Nat):sumF C (x::r)=F C x+sumF C r:=by unfold sumF;rw [List.map_cons,List.sum_cons]
set_option maxHeartbeats 8000000 in
set_option maxRecDepth 20000 in
theorem scall_any {M:Nat} (HF:FormC w0 q h C M) (L:Lr w0 h C) (s:Sst w0 w E q h rv (.ok st) B) (hE:Env w (E++Zx q rv) V R) (f:Fm) {PA LA:Option Addr} {pc lc x:Nat} {r:List Nat} (ha:0≤f.at_) (hk:f.l=x::r) (hin:∀ p∈f.l,p < C.fs.length∧F C p≤M) (hm5:f.l.length≤100000) (hB:B+sumF C f.l+1≤1000000000) (hR:R.length+sumF C f.l≤1000000000)
    (hl:Sl w (E++Zx q rv) (.slice LA f.l.length lc) (ints f.l)) :
    Calls Tryz.prog 71 #[ptr q,.agg #[.int .u8 f.kind,.int .i64 f.at_,.int .i64 f.n,.int .i64 0,.string f.s,.slice PA f.p.length pc,.int .u64 0,.slice LA f.l.length lc],V] w (OutS w0 w E q h rv (onQ C (callP C R f,st.1) st.2) (B+sumF C f.l+1)):=by
  obtain ⟨VA,VC,rfl⟩:=hE.form;obtain ⟨kd,fa,fn,fs,fp,fl⟩:=f;simp only at ha hk hin hB hR hl hm5 ⊢
  subst hk;have hx:=(hin x (List.mem_cons_self ..)).1;obtain ⟨g,o,c1,e,cc,hc1,hc2,hlt,hgz,htl⟩:=Sl.cons (u:=num x) (vs:=ints r) hl;injection e with e1 e2 e3;subst e1 e3;have hrl:r.length+1=(x::r).length:=rfl;have hsl2:=fun X'=>slice_ints1 g o r.length lc _ hrl X'
  rw [ints_len] at htl;generalize (if lc=1 then some (⟨g,o,none⟩:Addr) else some ⟨g,o+1,none⟩)=SA at hsl2 htl;generalize lc - 1=sc at hsl2 htl;obtain ⟨fb,fo,GA,gc,GL,gd,fcp,hlv,y0,y1,y2,y3,y4,y5,y6,y7,-,-⟩:=L.formAt s.low.1 (fun b hb=>(s.zlow b hb).2) hx;obtain ⟨nv,er0,hh⟩:=s.headc;have x1:=hh.at (i:=1) rfl;rw [hlv] at x1;have hx0:(0:Int)≤(x:Int):=by omega
  have hx1:(x:Int) < (C.fs.length:Int):=by omega
  have hCP:callP C R ⟨kd,fa,fn,fs,fp,x::r⟩=if callsPrim C R (fmAt C.fs x)=true then (if r.length≠primK (fmAt C.fs x).s then .bad fa 90 else .mk ⟨12,fa,primO (fmAt C.fs x).s,0,emp,0,[]⟩ R (r.map .form)) else .mk ⟨10,fa,0,0,emp,0,[]⟩ R ((x::r).map .form):=rfl
  rw [hCP];have hcp:callsPrim C R (fmAt C.fs x)=(decide ((fmAt C.fs x).kind=4) && !decide ((fmAt C.fs x).s∈C.own) && (wher R (fmAt C.fs x).s).isNone && isPrim (fmAt C.fs x).s):=rfl;rw [hcp];clear hCP hcp;generalize fmAt C.fs x=gg at *;obtain ⟨gk,ga,gn,gs,gp0,gl0⟩:=gg;simp only at y0 y1 y2 y3 y4 y5 y6 y7 ⊢
  generalize gp0.length=gp at *;generalize gl0.length=gl at *;have HSL:=Lib.hid hl;have HBB:=Lib.hid hB;have HSUM:=Lib.hid (sumF_cons (C:=C) x r);have HFP:=Lib.hid (F_pos C x);obtain ⟨rl,hrl2⟩:∃ rl,r.length=rl:=⟨_,rfl⟩
  obtain ⟨m,hm⟩:∃ m,(x::r).length=m:=⟨_,rfl⟩
  have hmr:rl+1=m:=by rw [← hm,← hrl2];rfl
  have HALLT:=Lib.hid (fun (w':World) (f:MM.Far [] w w')=>sall_any HF (s.to f) (hE.far f (by simp)) (l:=r) (htl.far f (by simp)) rfl (by rw [List.length_cons] at hm5;omega) (fun p hp=>hin p (List.mem_cons_of_mem _ hp)) (by rw [sumF_cons] at hB;omega) (by rw [sumF_cons] at hR;omega));have HALLW:=Lib.hid (fun (w':World) (f:MM.Far [] w w')=>sall_any HF (s.to f) (hE.far f (by simp)) (l:=x::r) (hl.far f (by simp)) rfl hm5 hin (by omega) hR);have HEX:Hid (∀ (k n:Int) (l:List Nat),onQ C (.mk ⟨k,fa,n,0,emp,0,[]⟩ R (l.map .form),st.1) st.2=thn (thn (.ok st) fun s=>runsS (sq C R) (l.map .form) s []) fun z=>.ok ((z.1.1,z.1.2++[({ (⟨k,fa,n,0,emp,0,[]⟩:Rf) with l:=z.2 }:Rf)]),z.1.2.length)):=Lib.hid (fun _ _ _=>rfl);simp only at HEX
  rw [hrl2] at hsl2 HALLT ⊢;rw [hm] at hsl2 HALLW ⊢;have hm5':m≤100000:=by rw [← hm];exact hm5
  simp only [List.length_cons] at hm
  generalize fp.length=pn;have HWR:=Lib.hid (fun (w2:World) (f:MM.Far [] w w2) (er:Int)=>swrong_any (s.to f) kd fa fn 0 fs 0 (PA:=PA) (LA:=some ⟨g,o,none⟩) (pn:=pn) (pc:=pc) (ln:=m) (lc:=lc) ha er);have R0:=MM.Row.new w 39 [.int .u8 kd,.int .i64 fa,.int .i64 fn,.int .i64 0,.string fs,.slice PA pn pc,.int .u64 0,.slice (some ⟨g,o,none⟩) m lc];have F0:=(MM.Far.refl [] w).alloc (.cells #[.int .u8 kd,.int .i64 fa,.int .i64 fn,.int .i64 0,.string fs,.slice PA pn pc,.int .u64 0,.slice (some ⟨g,o,none⟩) m lc] 39);have v7:=R0.at (i:=7) rfl;have v7':=(R0.alloc (.cells #[.int .u8 0,.int .i64 0,.int .i64 0,.int .i64 0,.string ⟨#[]⟩,.slice none 0 0,.int .u64 0,.slice none 0 0] 39)).at (i:=7) rfl;have FA:=F0.alloc (.cells #[.int .u8 0,.int .i64 0,.int .i64 0,.int .i64 0,.string ⟨#[]⟩,.slice none 0 0,.int .u64 0,.slice none 0 0] 39);have x1':=EW.far_cell FA x1;have cc':=EW.far_cell FA cc;have y0':=EW.far_cell FA y0;have y1':=EW.far_cell FA y1;have y2':=EW.far_cell FA y2;have y3':=EW.far_cell FA y3;have y4':=EW.far_cell FA y4;have y5':=EW.far_cell FA y5;have y6':=EW.far_cell FA y6;have y7':=EW.far_cell FA y7;have x1a:=EW.far_cell F0 x1;have cca:=EW.far_cell F0 cc;have y0a:=EW.far_cell F0 y0;have y1a:=EW.far_cell F0 y1;have y2a:=EW.far_cell F0 y2;have y3a:=EW.far_cell F0 y3;have y4a:=EW.far_cell F0 y4;have y5a:=EW.far_cell F0 y5;have y6a:=EW.far_cell F0 y6;have y7a:=EW.far_cell F0 y7;obtain ⟨W2,hW2⟩:∃ W2,((w.alloc (.cells #[.int .u8 kd,.int .i64 fa,.int .i64 fn,.int .i64 0,.string fs,.slice PA pn pc,.int .u64 0,.slice (some ⟨g,o,none⟩) m lc] 39)).alloc (.cells #[.int .u8 gk,.int .i64 ga,.int .i64 gn,.int .i64 0,.string gs,.slice GA gp gc,.int .u64 0,.slice GL gl gd] 39)).drew=W2:=⟨_,rfl⟩
  have F2:MM.Far [] w W2:=by rw [← hW2];exact (F0.alloc _).drew
  have R2:MM.Row W2 w.heap.size 39 [.int .u8 kd,.int .i64 fa,.int .i64 fn,.int .i64 0,.string fs,.slice PA pn pc,.int .u64 0,.slice (some ⟨g,o,none⟩) m lc]:=by rw [← hW2];exact (R0.alloc _).drew
  have R3:MM.Row W2 (w.alloc (.cells #[.int .u8 kd,.int .i64 fa,.int .i64 fn,.int .i64 0,.string fs,.slice PA pn pc,.int .u64 0,.slice (some ⟨g,o,none⟩) m lc] 39)).heap.size 39 [.int .u8 gk,.int .i64 ga,.int .i64 gn,.int .i64 0,.string gs,.slice GA gp gc,.int .u64 0,.slice GL gl gd]:=by rw [← hW2];exact (MM.Row.new _ _ _).drew
  rw [sz_alloc] at R3;have s0:=R3.at (i:=0) rfl;have s4:=R3.at (i:=4) rfl;have u1:=R2.at (i:=1) rfl;have u7:=R2.at (i:=7) rfl;have HF0:=Lib.hid F2;have HBX:=Lib.hid R2;have HB3X:=Lib.hid R3;have HW2:=Lib.hid hW2;have HBZ:Hid (w.heap.size∉Zx q rv):=Lib.hid (fun hm=>by have:=s.low.2.1 _ hm;omega);have HWH:=Lib.hid (where_any (hE.far F2 (by simp)) gs);have HOWN:=Lib.hid (fun (w':World) (f:MM.Far [] w w')=>sown_any (s.to f) gs);rw [L.own] at HOWN;have HPR:=Lib.hid (rprim_any W2 gs);have hWA:whA R gs=match wher R gs with | some (a,_)=>(a:Nat) | none=>-1:=rfl
  have hWN:whN R gs=match wher R gs with | some (_,n)=>(n:Nat) | none=>0:=rfl
  have hm0:(0:Int) < (m:Int):=by omega
  clear s hE L R0 F0 FA F2 R2 R3 hW2 hl HF hin hB hR e2 hc2 hgz htl hh hlv y0 y1 y2 y3 y4 y5 y6 y7 x1 cc hlt hx hrl HSL hm5;by_cases hk4:gk=4
  · subst hk4;cases hw:wher R gs with
    | some y =>
      obtain ⟨a,n⟩:=y;rw [hw] at hWA hWN;simp only at hWA hWN
      rw [hWA,hWN] at HWH;rw [if_neg (by simp),HEX.out];have ha0:¬ (a:Int) < 0:=by omega
      have ha1:decide ((a:Int) < 0)=false:=by rw [decide_eq_false_iff_not];exact ha0
      clear hWA hWN hw HALLT HWR HEX;generalize decide (gs∈C.own)=ow at *;generalize isPrim gs=ip at *;generalize primO gs=op at *;generalize primK gs=ok at *;generalize R.length=rll at *
      (try unfold num at *);unfold ptr at *
      go_enter Tryz.func71,Tryz.ntmps71
      go_wp2;go_region
      rw [HW2.out]
      go_wp2_with (first
        | (go_at_call 110;(with_reducible refine HWH.out.mono ?_);rintro e w1 ⟨rfl,rfl⟩)
        | (go_at_call 111;(with_reducible refine (HOWN.out _ HF0.out).mono ?_);rintro e w1 ⟨rfl,rfl⟩)
        | (go_at_call 78;(with_reducible refine HPR.out.mono ?_);rintro e w3 ⟨rfl,hF3⟩;have HB3:=Lib.hid (HBX.out.far hF3 (by simp));have HG3:=Lib.hid (HB3X.out.far hF3 (by simp));have HF3:=Lib.hid (HF0.out.trans hF3 (by simp));have HALL:=Lib.hid (HALLW.out _ HF3.out.drew);unfold ptr at HALL;have g0:=HG3.out.at (i:=0) rfl;have t0:=HB3.out.at (i:=0) rfl;have t1:=HB3.out.at (i:=1) rfl;have t2:=HB3.out.at (i:=2) rfl;have t3:=HB3.out.at (i:=3) rfl;have t4:=HB3.out.at (i:=4) rfl;have t5:=HB3.out.at (i:=5) rfl;have t6:=HB3.out.at (i:=6) rfl;have t7:=HB3.out.at (i:=7) rfl;clear hF3))
      have ru1:=HB3.out.at (i:=1) rfl;have ru7:=HB3.out.at (i:=7) rfl
      go_region_held3 (fun w'=>w'.cell? ⟨w.heap.size,1,none⟩=some (.int .i64 fa)∧w'.cell? ⟨w.heap.size,7,none⟩=some (.slice (some ⟨g,o,none⟩) m lc)) (first | (with_reducible assumption) | go_keep) (first
        | (go_at_call 68;(with_reducible refine HALL.out.mono ?_);rintro e w7 ⟨A7,c7,ks,rv7,rfl,hSl7,hS7,hF7,hY7⟩;have HB7:=Lib.hid (HB3.out.drew.far hF7.far HBZ.out);have HBZ7:=Lib.hid (box_off hF7 HBZ.out HB3.out.drew.lt);have hk:w7.cell? ⟨w.heap.size,1,none⟩=some (.int .i64 fa)∧w7.cell? ⟨w.heap.size,7,none⟩=some (.slice (some ⟨g,o,none⟩) m lc):=⟨HB7.out.at (i:=1) rfl,HB7.out.at (i:=7) rfl⟩;have HP:=Lib.hid (sput_all hS7 (by have:=HBB.out;omega) (⟨10,fa,0,0,emp,0,[]⟩:Rf) hSl7 hY7);unfold ptr at HP;(try unfold LX.emp at HP);simp only at HP;have HF7:=Lib.hid ((Fr.quiet HF3.out.drew).trans hF7);obtain ⟨kn,hkn⟩:∃ kn,ks.length=kn:=⟨_,rfl⟩;rw [hkn] at HP ⊢;clear hS7 hF7 hSl7 hY7 hkn)
        | (go_at_call 67;(with_reducible refine HP.out.mono ?_);rintro e w8 hQ;have HQ:=Lib.hid (hQ.from HF7.out);obtain ⟨k,fv1,he,hF8,-⟩:=hQ;(replace he:e = .returned (.int .i64 ((k:Nat):Int)):=he);subst he;have HB8:=Lib.hid (HB7.out.far hF8.far HBZ7.out);have hk:w8.cell? ⟨w.heap.size,1,none⟩=some (.int .i64 fa)∧w8.cell? ⟨w.heap.size,7,none⟩=some (.slice (some ⟨g,o,none⟩) m lc):=⟨HB8.out.at (i:=1) rfl,HB8.out.at (i:=7) rfl⟩;clear hF8))
      go_wp2;go_ret
      exact HQ.out.mono (by have:=HSUM.out;have:=HFP.out;omega)
    | none =>
      rw [hw] at hWA hWN;simp only at hWA hWN
      rw [hWA,hWN] at HWH;by_cases ho:gs∈C.own
      · rw [if_neg (by simp [ho]),HEX.out];rw [decide_eq_true ho] at HOWN;clear hWA hWN hw HALLT HWR HEX ho;generalize isPrim gs=ip at *;generalize primO gs=op at *;generalize primK gs=ok at *;generalize R.length=rll at *
        (try unfold num at *);unfold ptr at *
        go_enter Tryz.func71,Tryz.ntmps71
        go_wp2;go_region
        rw [HW2.out]
        go_wp2_with (first
          | (go_at_call 110;(with_reducible refine HWH.out.mono ?_);rintro e w1 ⟨rfl,rfl⟩)
          | (go_at_call 111;(with_reducible refine (HOWN.out _ HF0.out).mono ?_);rintro e w1 ⟨rfl,rfl⟩)
          | (go_at_call 78;(with_reducible refine HPR.out.mono ?_);rintro e w3 ⟨rfl,hF3⟩;have HB3:=Lib.hid (HBX.out.far hF3 (by simp));have HG3:=Lib.hid (HB3X.out.far hF3 (by simp));have HF3:=Lib.hid (HF0.out.trans hF3 (by simp));have HALL:=Lib.hid (HALLW.out _ HF3.out.drew);unfold ptr at HALL;have g0:=HG3.out.at (i:=0) rfl;have t0:=HB3.out.at (i:=0) rfl;have t1:=HB3.out.at (i:=1) rfl;have t2:=HB3.out.at (i:=2) rfl;have t3:=HB3.out.at (i:=3) rfl;have t4:=HB3.out.at (i:=4) rfl;have t5:=HB3.out.at (i:=5) rfl;have t6:=HB3.out.at (i:=6) rfl;have t7:=HB3.out.at (i:=7) rfl;clear hF3))
        have ru1:=HB3.out.at (i:=1) rfl;have ru7:=HB3.out.at (i:=7) rfl
        go_region_held3 (fun w'=>w'.cell? ⟨w.heap.size,1,none⟩=some (.int .i64 fa)∧w'.cell? ⟨w.heap.size,7,none⟩=some (.slice (some ⟨g,o,none⟩) m lc)) (first | (with_reducible assumption) | go_keep) (first
          | (go_at_call 68;(with_reducible refine HALL.out.mono ?_);rintro e w7 ⟨A7,c7,ks,rv7,rfl,hSl7,hS7,hF7,hY7⟩;have HB7:=Lib.hid (HB3.out.drew.far hF7.far HBZ.out);have HBZ7:=Lib.hid (box_off hF7 HBZ.out HB3.out.drew.lt);have hk:w7.cell? ⟨w.heap.size,1,none⟩=some (.int .i64 fa)∧w7.cell? ⟨w.heap.size,7,none⟩=some (.slice (some ⟨g,o,none⟩) m lc):=⟨HB7.out.at (i:=1) rfl,HB7.out.at (i:=7) rfl⟩;have HP:=Lib.hid (sput_all hS7 (by have:=HBB.out;omega) (⟨10,fa,0,0,emp,0,[]⟩:Rf) hSl7 hY7);unfold ptr at HP;(try unfold LX.emp at HP);simp only at HP;have HF7:=Lib.hid ((Fr.quiet HF3.out.drew).trans hF7);obtain ⟨kn,hkn⟩:∃ kn,ks.length=kn:=⟨_,rfl⟩;rw [hkn] at HP ⊢;clear hS7 hF7 hSl7 hY7 hkn)
          | (go_at_call 67;(with_reducible refine HP.out.mono ?_);rintro e w8 hQ;have HQ:=Lib.hid (hQ.from HF7.out);obtain ⟨k,fv1,he,hF8,-⟩:=hQ;(replace he:e = .returned (.int .i64 ((k:Nat):Int)):=he);subst he;have HB8:=Lib.hid (HB7.out.far hF8.far HBZ7.out);have hk:w8.cell? ⟨w.heap.size,1,none⟩=some (.int .i64 fa)∧w8.cell? ⟨w.heap.size,7,none⟩=some (.slice (some ⟨g,o,none⟩) m lc):=⟨HB8.out.at (i:=1) rfl,HB8.out.at (i:=7) rfl⟩;clear hF8))
        go_wp2;go_ret
        exact HQ.out.mono (by have:=HSUM.out;have:=HFP.out;omega)
      · rw [decide_eq_false ho] at HOWN;cases hp:isPrim gs with
        | false =>
          rw [if_neg (by simp),HEX.out];rw [hp] at HPR;clear hWA hWN hw HALLT HWR HEX ho hp;generalize primO gs=op at *;generalize primK gs=ok at *;generalize R.length=rll at *
          (try unfold num at *);unfold ptr at *
          go_enter Tryz.func71,Tryz.ntmps71
          go_wp2;go_region
          rw [HW2.out]
          go_wp2_with (first
            | (go_at_call 110;(with_reducible refine HWH.out.mono ?_);rintro e w1 ⟨rfl,rfl⟩)
            | (go_at_call 111;(with_reducible refine (HOWN.out _ HF0.out).mono ?_);rintro e w1 ⟨rfl,rfl⟩)
            | (go_at_call 78;(with_reducible refine HPR.out.mono ?_);rintro e w3 ⟨rfl,hF3⟩;have HB3:=Lib.hid (HBX.out.far hF3 (by simp));have HG3:=Lib.hid (HB3X.out.far hF3 (by simp));have HF3:=Lib.hid (HF0.out.trans hF3 (by simp));have HALL:=Lib.hid (HALLW.out _ HF3.out.drew);unfold ptr at HALL;have g0:=HG3.out.at (i:=0) rfl;have t0:=HB3.out.at (i:=0) rfl;have t1:=HB3.out.at (i:=1) rfl;have t2:=HB3.out.at (i:=2) rfl;have t3:=HB3.out.at (i:=3) rfl;have t4:=HB3.out.at (i:=4) rfl;have t5:=HB3.out.at (i:=5) rfl;have t6:=HB3.out.at (i:=6) rfl;have t7:=HB3.out.at (i:=7) rfl;clear hF3))
          have ru1:=HB3.out.at (i:=1) rfl;have ru7:=HB3.out.at (i:=7) rfl
          go_region_held3 (fun w'=>w'.cell? ⟨w.heap.size,1,none⟩=some (.int .i64 fa)∧w'.cell? ⟨w.heap.size,7,none⟩=some (.slice (some ⟨g,o,none⟩) m lc)) (first | (with_reducible assumption) | go_keep) (first
            | (go_at_call 68;(with_reducible refine HALL.out.mono ?_);rintro e w7 ⟨A7,c7,ks,rv7,rfl,hSl7,hS7,hF7,hY7⟩;have HB7:=Lib.hid (HB3.out.drew.far hF7.far HBZ.out);have HBZ7:=Lib.hid (box_off hF7 HBZ.out HB3.out.drew.lt);have hk:w7.cell? ⟨w.heap.size,1,none⟩=some (.int .i64 fa)∧w7.cell? ⟨w.heap.size,7,none⟩=some (.slice (some ⟨g,o,none⟩) m lc):=⟨HB7.out.at (i:=1) rfl,HB7.out.at (i:=7) rfl⟩;have HP:=Lib.hid (sput_all hS7 (by have:=HBB.out;omega) (⟨10,fa,0,0,emp,0,[]⟩:Rf) hSl7 hY7);unfold ptr at HP;(try unfold LX.emp at HP);simp only at HP;have HF7:=Lib.hid ((Fr.quiet HF3.out.drew).trans hF7);obtain ⟨kn,hkn⟩:∃ kn,ks.length=kn:=⟨_,rfl⟩;rw [hkn] at HP ⊢;clear hS7 hF7 hSl7 hY7 hkn)
            | (go_at_call 67;(with_reducible refine HP.out.mono ?_);rintro e w8 hQ;have HQ:=Lib.hid (hQ.from HF7.out);obtain ⟨k,fv1,he,hF8,-⟩:=hQ;(replace he:e = .returned (.int .i64 ((k:Nat):Int)):=he);subst he;have HB8:=Lib.hid (HB7.out.far hF8.far HBZ7.out);have hk:w8.cell? ⟨w.heap.size,1,none⟩=some (.int .i64 fa)∧w8.cell? ⟨w.heap.size,7,none⟩=some (.slice (some ⟨g,o,none⟩) m lc):=⟨HB8.out.at (i:=1) rfl,HB8.out.at (i:=7) rfl⟩;clear hF8))
          go_wp2;go_ret
          exact HQ.out.mono (by have:=HSUM.out;have:=HFP.out;omega)
        | true =>
          rw [if_pos (by simp [ho])];rw [hp] at HPR;have hm1:(m:Int) - 1=(rl:Int):=by omega
          have hm2:IntKind.i64.wrap ((m:Int) - 1)=(rl:Int):=by rw [hm1];exact IntWalk.i64_in _ (by omega)
          generalize primO gs=op at *;generalize primK gs=ok at *;by_cases hlen:rl=ok
          · subst hlen;rw [if_neg (fun h=>h rfl),HEX.out];clear hWA hWN hw HALLW HWR HEX ho hp;generalize R.length=rll at *
            (try unfold num at *);unfold ptr at *
            go_enter Tryz.func71,Tryz.ntmps71
            go_wp2;go_region
            rw [HW2.out]
            go_wp2_with (first
              | (go_at_call 110;(with_reducible refine HWH.out.mono ?_);rintro e w1 ⟨rfl,rfl⟩)
              | (go_at_call 111;(with_reducible refine (HOWN.out _ HF0.out).mono ?_);rintro e w1 ⟨rfl,rfl⟩)
              | (go_at_call 78;(with_reducible refine HPR.out.mono ?_);rintro e w3 ⟨rfl,hF3⟩;have HB3:=Lib.hid (HBX.out.far hF3 (by simp));have HG3:=Lib.hid (HB3X.out.far hF3 (by simp));have HF3:=Lib.hid (HF0.out.trans hF3 (by simp));have HALL:=Lib.hid (HALLT.out _ HF3.out.drew);unfold ptr at HALL;have g0:=HG3.out.at (i:=0) rfl;have t0:=HB3.out.at (i:=0) rfl;have t1:=HB3.out.at (i:=1) rfl;have t2:=HB3.out.at (i:=2) rfl;have t3:=HB3.out.at (i:=3) rfl;have t4:=HB3.out.at (i:=4) rfl;have t5:=HB3.out.at (i:=5) rfl;have t6:=HB3.out.at (i:=6) rfl;have t7:=HB3.out.at (i:=7) rfl;clear hF3))
            have ru1:=HB3.out.at (i:=1) rfl;have ru7:=HB3.out.at (i:=7) rfl
            go_region_held3 (fun w'=>w'.cell? ⟨w.heap.size,1,none⟩=some (.int .i64 fa)∧w'.cell? ⟨w.heap.size,7,none⟩=some (.slice (some ⟨g,o,none⟩) m lc)) (first | (with_reducible assumption) | go_keep) (first
              | (go_at_call 68;(with_reducible refine HALL.out.mono ?_);rintro e w7 ⟨A7,c7,ks,rv7,rfl,hSl7,hS7,hF7,hY7⟩;have HB7:=Lib.hid (HB3.out.drew.far hF7.far HBZ.out);have HBZ7:=Lib.hid (box_off hF7 HBZ.out HB3.out.drew.lt);have hk:w7.cell? ⟨w.heap.size,1,none⟩=some (.int .i64 fa)∧w7.cell? ⟨w.heap.size,7,none⟩=some (.slice (some ⟨g,o,none⟩) m lc):=⟨HB7.out.at (i:=1) rfl,HB7.out.at (i:=7) rfl⟩;have HP:=Lib.hid (sput_all hS7 (by have:=HBB.out;have:=HSUM.out;omega) (⟨12,fa,(op:Nat),0,emp,0,[]⟩:Rf) hSl7 hY7);unfold ptr at HP;(try unfold LX.emp at HP);simp only at HP;have HF7:=Lib.hid ((Fr.quiet HF3.out.drew).trans hF7);obtain ⟨kn,hkn⟩:∃ kn,ks.length=kn:=⟨_,rfl⟩;rw [hkn] at HP ⊢;clear hS7 hF7 hSl7 hY7 hkn)
              | (go_at_call 67;(with_reducible refine HP.out.mono ?_);rintro e w8 hQ;have HQ:=Lib.hid (hQ.from HF7.out);obtain ⟨k,fv1,he,hF8,-⟩:=hQ;(replace he:e = .returned (.int .i64 ((k:Nat):Int)):=he);subst he;have HB8:=Lib.hid (HB7.out.far hF8.far HBZ7.out);have hk:w8.cell? ⟨w.heap.size,1,none⟩=some (.int .i64 fa)∧w8.cell? ⟨w.heap.size,7,none⟩=some (.slice (some ⟨g,o,none⟩) m lc):=⟨HB8.out.at (i:=1) rfl,HB8.out.at (i:=7) rfl⟩;clear hF8))
            go_wp2;go_ret
            exact HQ.out.mono (by have:=HSUM.out;have:=HFP.out;omega)
          · rw [if_pos hlen];have hl1:((rl:Int) != (ok:Int))=true:=by simp;omega
            have hl2:¬ (rl:Int)=(ok:Int):=by omega
            have HEX2:Hid (onQ C (.bad fa 90,st.1) st.2 = .error (fa,90,st.1)):=Lib.hid rfl;rw [HEX2.out];clear hWA hWN hw HALLW HALLT HEX ho hp HEX2 hlen;generalize R.length=rll at *
            (try unfold num at *);unfold ptr at *
            go_enter Tryz.func71,Tryz.ntmps71
            go_wp2;go_region
            rw [HW2.out]
            go_wp2_with (first
              | (go_at_call 110;(with_reducible refine HWH.out.mono ?_);rintro e w1 ⟨rfl,rfl⟩)
              | (go_at_call 111;(with_reducible refine (HOWN.out _ HF0.out).mono ?_);rintro e w1 ⟨rfl,rfl⟩)
              | (go_at_call 78;(with_reducible refine HPR.out.mono ?_);rintro e w3 ⟨rfl,hF3⟩;have HB3:=Lib.hid (HBX.out.far hF3 (by simp));have HG3:=Lib.hid (HB3X.out.far hF3 (by simp));have HF3:=Lib.hid (HF0.out.trans hF3 (by simp));have HW3:=Lib.hid (HWR.out _ HF3.out 90);have g0:=HG3.out.at (i:=0) rfl;have t0:=HB3.out.at (i:=0) rfl;have t1:=HB3.out.at (i:=1) rfl;have t2:=HB3.out.at (i:=2) rfl;have t3:=HB3.out.at (i:=3) rfl;have t4:=HB3.out.at (i:=4) rfl;have t5:=HB3.out.at (i:=5) rfl;have t6:=HB3.out.at (i:=6) rfl;have t7:=HB3.out.at (i:=7) rfl;clear hF3)
              | (go_at_call 112;(with_reducible refine HW3.out.mono ?_);rintro e w1 hQ;have HQ:=Lib.hid (hQ.from (Fr.quiet HF3.out));obtain ⟨k,fv1,he,-⟩:=hQ;(replace he:e = .returned (.int .i64 ((k:Nat):Int)):=he);subst he))
            go_ret
            exact HQ.out.mono (by have:=HSUM.out;have:=HFP.out;omega)
  · have hk4b:(gk == 4)=false:=by simp [hk4]
    rw [if_neg (by simp [hk4]),HEX.out];clear hWA hWN HALLT HWR HEX;generalize whA R gs=wa at *;generalize whN R gs=wn at *;generalize decide (gs∈C.own)=ow at *;generalize isPrim gs=ip at *;generalize primO gs=op at *;generalize primK gs=ok at *;generalize R.length=rll at *
    (try unfold num at *);unfold ptr at *
    go_enter Tryz.func71,Tryz.ntmps71
    go_wp2;go_region
    rw [HW2.out]
    go_wp2_with (first
      | (go_at_call 110;(with_reducible refine HWH.out.mono ?_);rintro e w1 ⟨rfl,rfl⟩)
      | (go_at_call 111;(with_reducible refine (HOWN.out _ HF0.out).mono ?_);rintro e w1 ⟨rfl,rfl⟩)
      | (go_at_call 78;(with_reducible refine HPR.out.mono ?_);rintro e w3 ⟨rfl,hF3⟩;have HB3:=Lib.hid (HBX.out.far hF3 (by simp));have HG3:=Lib.hid (HB3X.out.far hF3 (by simp));have HF3:=Lib.hid (HF0.out.trans hF3 (by simp));have HALL:=Lib.hid (HALLW.out _ HF3.out.drew);unfold ptr at HALL;have g0:=HG3.out.at (i:=0) rfl;have t0:=HB3.out.at (i:=0) rfl;have t1:=HB3.out.at (i:=1) rfl;have t2:=HB3.out.at (i:=2) rfl;have t3:=HB3.out.at (i:=3) rfl;have t4:=HB3.out.at (i:=4) rfl;have t5:=HB3.out.at (i:=5) rfl;have t6:=HB3.out.at (i:=6) rfl;have t7:=HB3.out.at (i:=7) rfl;clear hF3))
    have ru1:=HB3.out.at (i:=1) rfl;have ru7:=HB3.out.at (i:=7) rfl
    go_region_held3 (fun w'=>w'.cell? ⟨w.heap.size,1,none⟩=some (.int .i64 fa)∧w'.cell? ⟨w.heap.size,7,none⟩=some (.slice (some ⟨g,o,none⟩) m lc)) (first | (with_reducible assumption) | go_keep) (first
      | (go_at_call 68;(with_reducible refine HALL.out.mono ?_);rintro e w7 ⟨A7,c7,ks,rv7,rfl,hSl7,hS7,hF7,hY7⟩;have HB7:=Lib.hid (HB3.out.drew.far hF7.far HBZ.out);have HBZ7:=Lib.hid (box_off hF7 HBZ.out HB3.out.drew.lt);have hk:w7.cell? ⟨w.heap.size,1,none⟩=some (.int .i64 fa)∧w7.cell? ⟨w.heap.size,7,none⟩=some (.slice (some ⟨g,o,none⟩) m lc):=⟨HB7.out.at (i:=1) rfl,HB7.out.at (i:=7) rfl⟩;have HP:=Lib.hid (sput_all hS7 (by have:=HBB.out;omega) (⟨10,fa,0,0,emp,0,[]⟩:Rf) hSl7 hY7);unfold ptr at HP;(try unfold LX.emp at HP);simp only at HP;have HF7:=Lib.hid ((Fr.quiet HF3.out.drew).trans hF7);obtain ⟨kn,hkn⟩:∃ kn,ks.length=kn:=⟨_,rfl⟩;rw [hkn] at HP ⊢;clear hS7 hF7 hSl7 hY7 hkn)
      | (go_at_call 67;(with_reducible refine HP.out.mono ?_);rintro e w8 hQ;have HQ:=Lib.hid (hQ.from HF7.out);obtain ⟨k,fv1,he,hF8,-⟩:=hQ;(replace he:e = .returned (.int .i64 ((k:Nat):Int)):=he);subst he;have HB8:=Lib.hid (HB7.out.far hF8.far HBZ7.out);have hk:w8.cell? ⟨w.heap.size,1,none⟩=some (.int .i64 fa)∧w8.cell? ⟨w.heap.size,7,none⟩=some (.slice (some ⟨g,o,none⟩) m lc):=⟨HB8.out.at (i:=1) rfl,HB8.out.at (i:=7) rfl⟩;clear hF8))
    go_wp2;go_ret
    exact HQ.out.mono (by have:=HSUM.out;have:=HFP.out;omega)
end
end SR
end Go.Proofs.YtehgmmbdlnginaaGreatDoor
