/-
  Several texts in one: ScoC13,ScoC14.
-/
import Derived.Test.YtodjaabcjojlkaaDoorQScoC12
namespace Go.Proofs.YtodjaabcjojlkaaDoor
open Go.RowKit
set_option linter.unusedVariables false
namespace SM
open LX SX RW6 EX SC
open EW (Sl Bx ptr num strs bx_new z_alloc sz_alloc z_far z_drew made_list sl_new keep2 keep3 keep4 ints_len int_head NdR FmR Bx.cons)
section
variable {w0 w w1 W:World} {Y Z:List Nat} {q g:Nat} {h:Hd} {C:Cx} {K:List ByteArray} {R:Rws} {N:List ByteArray}
set_option maxHeartbeats 4000000 in
set_option maxRecDepth 20000 in
theorem name_any (E:Ev w0 w Y Z q g h C K R N) (f:Fm) {PA LA:Option Addr} {np pc m lc:Nat} (hl:Sl w Z (.slice LA m lc) (ints f.l)) (hm:f.l.length=m) (hmx:m≤100000) (hs:f.s.size≤140737488355328) :
    Calls Tryd.prog 61 #[ptr q,fmV f (.slice PA np pc) (.slice LA m lc)] w (EvQ w0 w Y Z q g h C R (nameP C R N f).2 (nameP C R N f).1):=by
  obtain ⟨fk,fa,fn,fs,fp,l⟩:=f;unfold fmV;simp only at hl hm hs ⊢
  obtain ⟨k,hk⟩:∃ k,w.heap.size=k:=⟨_,rfl⟩
  obtain ⟨OB,hOB⟩:∃ o:Obj,.cells #[.int .u8 fk,num fa,num fn,num 0,.string fs,.slice PA np pc,.int .u64 0,.slice LA m lc] 33=o:=⟨_,rfl⟩
  obtain ⟨W,hW⟩:∃ W,(w.alloc OB).alloc zS=W:=⟨_,rfl⟩
  have F0:MM.Far [] w W:=by rw [← hW];exact ((MM.Far.refl [] w).alloc _).alloc _
  have BL:MM.Row W k 33 [.int .u8 fk,num fa,num fn,num 0,.string fs,.slice PA np pc,.int .u64 0,.slice LA m lc]:=by
    rw [← hW,← hOB];exact (EW.row_new 33 _ hk).alloc _
  have HB:Hid (SnBox W (k+1)):=Lib.hid (by rw [← hW];exact SnBox.new (by rw [sz_alloc,hk]));have HBW:Hid (k+1 < W.heap.size):=Lib.hid HB.out.lt;have E1:=E.box F0 (by omega:w.heap.size≤k+1) HB.out.lt;have z0:=BL.at (i:=0) rfl;have z1:=BL.at (i:=1) rfl;have z2:=BL.at (i:=2) rfl;have z3:=BL.at (i:=3) rfl;have z4:=BL.at (i:=4) rfl;have z5:=BL.at (i:=5) rfl;have z6:=BL.at (i:=6) rfl;have z7:=BL.at (i:=7) rfl;have HEB:=Lib.hid E.sc.eb;have HBL:=Lib.hid BL;have HE:=Lib.hid E1;have HF:=Lib.hid F0;have HK:=Lib.hid hk;have HRF:=Lib.hid (refer_any E1 fs hs);unfold nameP;simp only
  unfold refV at HRF;cases hw:wher R fs with
  | some y =>
    obtain ⟨a,n⟩:=y;rw [hw] at HRF;simp only at HRF ⊢
    have ha1:decide ((a:Int) = -1)=false:=by rw [decide_eq_false_iff_not];omega
    have ha2:¬ (a:Int) = -1:=by omega
    clear E E1 hl hm hs BL F0 hw;subst hW;subst hOB;subst hk;unfold zS num at *;unfold ptr at *;go_enter Tryd.func61,Tryd.ntmps61
    go_wp2_with (first
      | (go_at_call 72;(with_reducible refine HRF.out.mono ?_);rintro e w1 ⟨rfl,Y1,hY1,hF1,hS1⟩;have HY1:=Lib.hid hY1;have HF1:=Lib.hid hF1;have HS1:=Lib.hid hS1;have HB1:=Lib.hid (HB.out.far hF1 (fun hm=>by have:=HEB.out.y _ hm;omega));have HBL1:=Lib.hid (HBL.out.far hF1 (fun hm=>by have:=HEB.out.y _ hm;omega));have z1':=HBL1.out.at (i:=1) rfl;obtain ⟨v0,v1,v2,v3,v4,v5,v6,v7,v8,v9,y0,y1,y2,y3,y4,y5,y6,y7,y8,y9,hfz⟩:=HB1.out.cells;clear hY1 hF1 hS1))
    exact fin_ev rfl rfl rfl HEB.out HF.out (by omega) HBW.out HY1.out HF1.out HS1.out HB1.out ⟨rfl,_,[],rfl,Sl.nil _ _,Ips.nil _ _ _⟩
  | none =>
    rw [hw] at HRF;simp only at HRF ⊢
    by_cases ho:fs∈C.own
    · rw [if_pos ho] at HRF ⊢;have HCL:=Lib.hid (fun w1=>MC.clone_any fs w1 hs);simp only at HRF ⊢
      generalize NP.putI N fs=pi at *;generalize NP.putL N fs=N2 at *;clear E E1 hl hm hs BL F0 hw ho;subst hW;subst hOB;subst hk;unfold zS num at *;unfold ptr at *;go_enter Tryd.func61,Tryd.ntmps61
      go_wp2_with (first
        | (go_at_call 72;(with_reducible refine HRF.out.mono ?_);rintro e w1 ⟨rfl,Y1,hY1,hF1,hS1⟩;have HY1:=Lib.hid hY1;have HF1:=Lib.hid hF1;have HS1:=Lib.hid hS1;have HB1:=Lib.hid (HB.out.far hF1 (fun hm=>by have:=HEB.out.y _ hm;omega));have HBL1:=Lib.hid (HBL.out.far hF1 (fun hm=>by have:=HEB.out.y _ hm;omega));have z1':=HBL1.out.at (i:=1) rfl;have z4':=HBL1.out.at (i:=4) rfl;clear hY1 hF1 hS1))
      go_region_held3 (fun w'=>w'.cell? ⟨w.heap.size,1,none⟩=some (.int .i64 fa)∧w'.cell? ⟨w.heap.size,4,none⟩=some (.string fs)) (first | (with_reducible assumption) | go_keep) (first
        | (go_at_call 73;(with_reducible refine (HCL.out _).mono ?_);rintro e w3 ⟨rfl,hF3⟩;have hk3:=keep2 hF3 (by assumption);have HF3:=Lib.hid (((MM.Far.refl [] w1).drew).trans hF3 (by simp));have HB3:=Lib.hid (HB1.out.far (((MM.Far.refl [] w1).drew).trans hF3 (by simp)) (by simp));clear hF3;obtain ⟨v0,v1,v2,v3,v4,v5,v6,v7,v8,v9,y0,y1,y2,y3,y4,y5,y6,y7,y8,y9,hfz⟩:=HB3.out.cells))
      go_wp2;exact fin_ev rfl rfl rfl HEB.out HF.out (by omega) HBW.out HY1.out (HF1.out.trans HF3.out (by simp)) (HS1.out.to HF3.out) HB3.out ⟨rfl,_,[],rfl,Sl.nil _ _,Ips.nil _ _ _⟩
    · rw [if_neg ho] at HRF ⊢;simp only at HRF ⊢
      have hno:noName fs≠0:=by unfold noName;split <;> omega
      have hno2:(noName fs != 0)=true:=by simp [hno]
      have HWR:=Lib.hid (fun w1=>wrong_any w1 (Z:=(k+1)::Z) q fa (noName fs) hno);have hno3:decide (noName fs=0)=false:=by simp [hno]
      generalize noName fs=er at *;clear E E1 hl hm hs BL F0 hw ho hno;subst hW;subst hOB;subst hk;unfold zS num at *;unfold ptr at *;go_enter Tryd.func61,Tryd.ntmps61
      go_wp2_with (first
        | (go_at_call 72;(with_reducible refine HRF.out.mono ?_);rintro e w1 ⟨rfl,Y1,hY1,hF1,hS1⟩;have HY1:=Lib.hid hY1;have HF1:=Lib.hid hF1;have HS1:=Lib.hid hS1;have HB1:=Lib.hid (HB.out.far hF1 (fun hm=>by have:=HEB.out.y _ hm;omega));have HBL1:=Lib.hid (HBL.out.far hF1 (fun hm=>by have:=HEB.out.y _ hm;omega));have z1':=HBL1.out.at (i:=1) rfl;clear hY1 hF1 hS1)
        | (go_at_call 69;(with_reducible refine (HWR.out _).mono ?_);rintro e w2 ⟨v,rfl,⟨rfl,he2⟩,hF⟩;have HF2:=Lib.hid hF;have HB2:=Lib.hid (HB1.out.far hF (by simp));have HE2:=Lib.hid he2;clear hF he2;obtain ⟨v0,v1,v2,v3,v4,v5,v6,v7,v8,v9,y0,y1,y2,y3,y4,y5,y6,y7,y8,y9,hfz⟩:=HB2.out.cells;unfold snV badF num))
      exact fin_ev rfl rfl rfl HEB.out HF.out (by omega) HBW.out HY1.out (HF1.out.trans HF2.out (by simp)) (HS1.out.to HF2.out) HB2.out ⟨rfl,HE2.out⟩
end
end SM
end Go.Proofs.YtodjaabcjojlkaaDoor
namespace Go.Proofs.YtodjaabcjojlkaaDoor
open Go.RowKit
set_option linter.unusedVariables false
namespace SM
open LX SX RW6 EX SC
open EW (Sl Bx ptr num strs bx_new z_alloc sz_alloc z_far z_drew made_list sl_new keep2 keep3 keep4 ints_len int_head NdR FmR Bx.cons)
section
variable {w0 w w1 W:World} {Y Z:List Nat} {q g:Nat} {h:Hd} {C:Cx} {K:List ByteArray} {R:Rws} {N:List ByteArray}
theorem Ev.next {Y1:List Nat} {R1:Rws} {N1:List ByteArray} (E:Ev w0 w Y Z q g h C K R N) (hY:Yto w Y Y1) (hF:MM.Far Y w w1) (hS:Sc w0 w1 Y1 q g h (ownC C) R1 N1) (hN:Nk K N1) (hr:∀ r∈R1,r.Nodup∧r.length≤100) (hl:R1.length≤1000000000):Ev w0 w1 Y1 (Y1++Z) q g h C K R1 N1 :=
  ⟨E.lz,hS,hN,hr,hl,fun b hb=>(List.mem_append.1 hb).elim (hS.eb.y b) (fun hb=>Nat.lt_of_lt_of_le (E.z b hb) hF.size),fun b hb=>(List.mem_append.1 hb).elim (fun hb=>(hY.new b hb).elim (fun h=>E.low b (E.sub b h)) (fun h=>Nat.le_trans E.sc.farz.size h)) (E.low b),fun b hb=>List.mem_append_left _ hb⟩
theorem slN {Y1:List Nat} {v:Value} {vs:List Value} (s:Sl w Z v vs) (hY:Yto w Y Y1) (hF:MM.Far Y w w1) (hs:∀ b∈Y,b∈Z):Sl w1 (Y1++Z) v vs :=
  (s.more (Z':=Y1++Z) (fun b hb=>(List.mem_append.1 hb).elim (fun h=>(hY.new b h).imp (hs b) id) .inl)).far hF (fun b hb _=>List.mem_append_right _ (hs b hb))
theorem zN {Y1:List Nat} (hz:∀ b∈Z,b < w.heap.size) (hF:MM.Far Y w w1) (hy:∀ b∈Y1,b < w1.heap.size):∀ b∈Y1++Z,b < w1.heap.size:=fun b hb=>(List.mem_append.1 hb).elim (hy b) (fun hb=>Nat.lt_of_lt_of_le (hz b hb) hF.size)
theorem farNew {S:List Nat} {w2:World} (f:MM.Far [] w w1) (k:MM.Far S w1 w2) (hS:∀ b∈S,w.heap.size≤b):MM.Far [] w w2:=f.trans k (fun b hb hl=>by have:=hS b hb;omega)
set_option maxHeartbeats 4000000 in
set_option maxRecDepth 20000 in
theorem define_any (E:Ev w0 w Y Z q g h C K R N) (f:Fm) {PA LA:Option Addr} {np pc m lc:Nat} (hl:Sl w Z (.slice LA m lc) (ints f.l)) (hm:f.l.length=m) (hmx:m≤100000) (hs:f.s.size≤140737488355328) (h9:f.kind=9) (hp:PK K f.s) :
    Calls Tryd.prog 64 #[ptr q,fmV f (.slice PA np pc) (.slice LA m lc)] w (EvQ w0 w Y Z q g h C R (defP R N f).2 (defP R N f).1):=by
  obtain ⟨fk,fa,fn,fs,fp,l⟩:=f;unfold fmV;simp only at hl hm hs ⊢
  obtain ⟨k,hk⟩:∃ k,w.heap.size=k:=⟨_,rfl⟩
  obtain ⟨OB,hOB⟩:∃ o:Obj,.cells #[.int .u8 fk,num fa,num fn,num 0,.string fs,.slice PA np pc,.int .u64 0,.slice LA m lc] 33=o:=⟨_,rfl⟩
  obtain ⟨W,hW⟩:∃ W,(w.alloc OB).alloc zS=W:=⟨_,rfl⟩
  have F0:MM.Far [] w W:=by rw [← hW];exact ((MM.Far.refl [] w).alloc _).alloc _
  have BL:MM.Row W k 33 [.int .u8 fk,num fa,num fn,num 0,.string fs,.slice PA np pc,.int .u64 0,.slice LA m lc]:=by
    rw [← hW,← hOB];exact (EW.row_new 33 _ hk).alloc _
  have HB:Hid (SnBox W (k+1)):=Lib.hid (by rw [← hW];exact SnBox.new (by rw [sz_alloc,hk]));have HBW:Hid (k+1 < W.heap.size):=Lib.hid HB.out.lt;have E1:=E.box F0 (by omega:w.heap.size≤k+1) HB.out.lt;have z0:=BL.at (i:=0) rfl;have z1:=BL.at (i:=1) rfl;have z2:=BL.at (i:=2) rfl;have z3:=BL.at (i:=3) rfl;have z4:=BL.at (i:=4) rfl;have z5:=BL.at (i:=5) rfl;have z6:=BL.at (i:=6) rfl;have z7:=BL.at (i:=7) rfl;have HEB:=Lib.hid E.sc.eb;have HBL:=Lib.hid BL;have HE:=Lib.hid E1;have HF:=Lib.hid F0;have HK:=Lib.hid hk;have hlW:Sl W ((k+1)::Z) (.slice LA m lc) (ints l):=(hl.more (fun x hx=>(List.mem_cons.1 hx).elim (fun e=>.inr (by omega)) .inl)).far F0 (by simp);have HLW:=Lib.hid hlW;have HZ1:=Lib.hid E1.z;have HYZ:=Lib.hid E1.sub;have HIP:=Lib.hid (isPrim_any ((E.lz.pt.far E.sc.farz).far F0) fs);have h9:fk=9:=h9;subst h9;unfold defP;simp only
  by_cases hb:isPrim fs=true
  · rw [hb] at HIP;rw [if_pos hb];have HWR:=Lib.hid (fun w1=>wrong_any w1 (Z:=(k+1)::Z) q fa 90 (by decide));clear E hl hm hs BL F0 hb hp hlW E1;simp only
    subst hW;subst hOB;subst hk;unfold zS num at *;unfold ptr at *;go_enter Tryd.func64,Tryd.ntmps64
    go_wp2_with (first
      | (go_at_call 75;(with_reducible refine HIP.out.mono ?_);rintro e w1 ⟨rfl,hF1⟩;have HF1:=Lib.hid hF1;have HB1:=Lib.hid (HB.out.far hF1 (by simp));have HBL1:=Lib.hid (HBL.out.far hF1 (by simp));have z1':=HBL1.out.at (i:=1) rfl;clear hF1)
      | (go_at_call 69;(with_reducible refine (HWR.out _).mono ?_);rintro e w2 ⟨v,rfl,⟨rfl,he2⟩,hF⟩;have HF2:=Lib.hid hF;have HB2:=Lib.hid (HB1.out.far hF (by simp));have HE2:=Lib.hid he2;clear hF he2;obtain ⟨v0,v1,v2,v3,v4,v5,v6,v7,v8,v9,y0,y1,y2,y3,y4,y5,y6,y7,y8,y9,hfz⟩:=HB2.out.cells;unfold snV badF num))
    exact fin_ev rfl rfl rfl HEB.out HF.out (by omega) HBW.out (Yto.refl _ _) ((HF1.out.trans HF2.out (by simp)).mono (by simp)) (HE.out.sc.to (HF1.out.trans HF2.out (by simp))) HB2.out ⟨rfl,HE2.out⟩
  · have hb2:isPrim fs=false:=by simpa using hb
    rw [hb2] at HIP;rw [if_neg hb];obtain ⟨g1,g2,g3,g4,g5,g6⟩:=E.nk.put E.lz.gd.few hp;have HPU:Hid (∀ w1,MM.Far [] W w1→Calls Tryd.prog 76 #[ptr g,.string fs] w1 fun e w'=>e = .returned (.tuple #[.int .i64 (NP.putI N fs),.int .i64 0])∧ScQ w0 W Y q g h (ownC C) R (NP.putL N fs) w'):=Lib.hid (fun w1 f=>(put_sc (E1.sc.to f) fs (by unfold maxLen;omega)).mono (fun e w' hq=>⟨by rw [g2] at hq;exact hq.1,ScQ.from f hq.2⟩));have HKE:=Lib.hid (fun (w2:World) (Z2:List Nat) (hz:∀ b∈Z2,b < w2.heap.size) (hl2:Sl w2 Z2 (.slice LA m lc) (ints l))=>keep_any w2 q hz ⟨9,fa,fn,fs,fp,l⟩ R (PA:=PA) (np:=np) (pc:=pc) hl2 hm (by omega));unfold fmV at HKE;simp only at HKE ⊢
    have HCL:=Lib.hid (fun w1=>MC.clone_any fs w1 hs);generalize NP.putI N fs=pi at *;generalize NP.putL N fs=N2 at *;clear E E1 hl hm hs BL F0 hb hb2 hp hlW g1 g2 g3 g4 g5 g6;subst hW;subst hOB;subst hk;unfold zS num at *;unfold ptr at *;go_enter Tryd.func64,Tryd.ntmps64
    go_upto_region 1 with fail
    generalize (w.alloc (.cells #[.int .u8 9,.int .i64 fa,.int .i64 fn,.int .i64 0,.string fs,.slice PA np pc,.int .u64 0,.slice LA m lc] 33)).alloc (.cells #[.int .i64 0,.int .u8 0,.int .i64 0,.int .i64 0,.int .i64 0,.string ⟨#[]⟩,.slice none 0 0,.int .u64 0,.slice none 0 0,.slice none 0 0] 100)=W at *
    go_wp2_with (first
      | (go_at_call 75;(with_reducible refine HIP.out.mono ?_);rintro e wa ⟨rfl,hFa⟩;have HFa:=Lib.hid hFa;have HBLa:=Lib.hid (HBL.out.far hFa (by simp));have za4:=HBLa.out.at (i:=4) rfl;have xa2:wa.cell? ⟨q,2,none⟩=some (.pointer (some ⟨g,0,none⟩)):=((HE.out.sc.to hFa).look fs).2.1;have HPa:=Lib.hid (HPU.out _ hFa.drew);clear hFa))
    go_region_held3 (fun w'=>w'.cell? ⟨q,2,none⟩=some (.pointer (some ⟨g,0,none⟩))∧w'.cell? ⟨w.heap.size,4,none⟩=some (.string fs)) (first | (with_reducible assumption) | go_keep) (first
      | (go_at_call 76;(with_reducible refine HPa.out.mono ?_);rintro e w1 ⟨rfl,Y1,hY1,hF1,hS1⟩;have HBL1:=Lib.hid (HBL.out.far hF1 (fun hm=>by have:=HEB.out.y _ hm;omega));have hk1:w1.cell? ⟨q,2,none⟩=some (.pointer (some ⟨g,0,none⟩))∧w1.cell? ⟨w.heap.size,4,none⟩=some (.string fs):=⟨(hS1.look fs).2.1,HBL1.out.at (i:=4) rfl⟩;have HY1:=Lib.hid hY1;have HF1:=Lib.hid hF1;have HS1:=Lib.hid hS1;have HB1:=Lib.hid (HB.out.far hF1 (fun hm=>by have:=HEB.out.y _ hm;omega));have HK2:=Lib.hid (HKE.out w1 _ (zN HZ1.out hF1 hS1.eb.y) (slN HLW.out hY1 hF1 HYZ.out));have t0:=HBL1.out.at (i:=0) rfl;have t1:=HBL1.out.at (i:=1) rfl;have t2:=HBL1.out.at (i:=2) rfl;have t3:=HBL1.out.at (i:=3) rfl;have t4:=HBL1.out.at (i:=4) rfl;have t5:=HBL1.out.at (i:=5) rfl;have t6:=HBL1.out.at (i:=6) rfl;have t7:=HBL1.out.at (i:=7) rfl;clear hY1 hF1 hS1))
    go_wp2_with (first
      | (go_at_call 66;(with_reducible refine HK2.out.mono ?_);rintro e w3 ⟨v,rfl,⟨-,parts,vs,rfl,hSl,hIp⟩,hF3⟩;obtain ⟨A3,c3,rfl,-⟩:=hSl.form;obtain ⟨n3,hn3⟩:∃ n3,vs.length=n3:=⟨_,rfl⟩;rw [hn3] at hSl ⊢;have HSl:=Lib.hid hSl;have HIp:=Lib.hid hIp;have HF3:=Lib.hid hF3;have HB3:=Lib.hid (HB1.out.far hF3 (by simp));have HL3:=Lib.hid (HBL1.out.far hF3 (by simp));have hne3:¬ w3.heap.size=w.heap.size+1:=by { have:=HB3.out.lt;omega };have hne4:¬ w3.heap.size=w.heap.size:=by { have:=HB3.out.lt;omega };clear hSl hIp hF3 hn3;have u4:=farC ((MM.Far.refl [] w3).alloc (.cells #[.int .i64 0,.int .u8 9,.int .i64 fa,.int .i64 0,.int .i64 0,.string emp,.slice none 0 0,.int .u64 0,.slice none 0 0,.slice A3 n3 c3] 100)) (HL3.out.at (i:=4) rfl);unfold snV num)
      | (go_at_call 73;(with_reducible refine (HCL.out _).mono ?_);rintro e w5 ⟨rfl,hF5⟩;have HF5:=Lib.hid (((MM.Far.refl [] w3).alloc _).trans hF5 (by simp));have HT5:Hid (MM.Row w5 w3.heap.size 100 [.int .i64 0,.int .u8 9,.int .i64 fa,.int .i64 0,.int .i64 0,.string emp,.slice none 0 0,.int .u64 0,.slice none 0 0,.slice A3 n3 c3]):=Lib.hid ((MM.Row.new w3 100 [.int .i64 0,.int .u8 9,.int .i64 fa,.int .i64 0,.int .i64 0,.string emp,.slice none 0 0,.int .u64 0,.slice none 0 0,.slice A3 n3 c3]).far hF5 (by simp));have HB5:=Lib.hid (HB3.out.far HF5.out (by simp));have fz5:=HT5.out.frozen;have s0:=HT5.out.at (i:=0) rfl;have s1:=HT5.out.at (i:=1) rfl;have s2:=HT5.out.at (i:=2) rfl;have s3:=HT5.out.at (i:=3) rfl;have s4:=HT5.out.at (i:=4) rfl;have s5:=HT5.out.at (i:=5) rfl;have s6:=HT5.out.at (i:=6) rfl;have s7:=HT5.out.at (i:=7) rfl;have s8:=HT5.out.at (i:=8) rfl;have s9:=HT5.out.at (i:=9) rfl;clear hF5;obtain ⟨v0,v1,v2,v3,v4,v5,v6,v7,v8,v9,y0,y1,y2,y3,y4,y5,y6,y7,y8,y9,hfz⟩:=HB5.out.cells))
    have F6:=Lib.hid (farNew HF5.out ((cellF w5 w3.heap.size 5 (.string fs)).trans (cellF _ w3.heap.size 3 (.int .i64 pi)) (fun b hb _=>hb)) (fun b hb=>by rw [List.mem_singleton.1 hb];exact Nat.le_refl _));exact fin_ev rfl rfl rfl HEB.out HF.out (by omega) HBW.out HY1.out (HF1.out.trans (HF3.out.trans F6.out (by simp)) (by simp)) (HS1.out.to (HF3.out.trans F6.out (by simp))) (HB3.out.far F6.out (by simp)) ⟨rfl,_,_,rfl,HSl.out.far F6.out (by simp),HIp.out.far F6.out (by simp)⟩
end
end SM
end Go.Proofs.YtodjaabcjojlkaaDoor
