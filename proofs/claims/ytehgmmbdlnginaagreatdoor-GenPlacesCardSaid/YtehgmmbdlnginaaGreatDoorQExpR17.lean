/-
  Layer 8's document: define. Conditions: form, of parts of less weight.
-/
import Derived.Test.YtehgmmbdlnginaaGreatDoorQExpR16
namespace Go.Proofs.YtehgmmbdlnginaaGreatDoor
open Go.RowKit
set_option linter.unusedVariables false
namespace EW
open LX SX RW6 EX
open RX (Nd)
section
variable {w0 w w1:World} {Z E:List Nat} {q:Nat} {b o:Nat} {n c:Nat} {ns:List Nd} {dv fv:Value} {X:Except Int (List Fm)} {B:Nat}
theorem sput_one {k:Int} {a:Int} {s:ByteArray} {R:List Fm→Except Int (List Fm × Nat)} {v:Nat} (h:Stx w0 w E q dv fv (fst' (bnd X R)) B) (hk:∀ st k,bnd X R = .ok (st,k)→v=k) (hB:B≤200000) {bk:Nat} (e:bk=w.heap.size) :
    Calls Tryz.prog 56 #[ptr q,.agg #[.int .u8 k,.int .i64 a,.int .i64 0,.int .i64 0,.string s,.slice none 0 0,.int .u64 0,.slice (some ⟨bk,0,none⟩) 1 1]]
      (w.alloc (.cells #[.int .i64 ((v:Nat):Int)] 3)) (OutQ w0 w E q dv fv (bnd X fun st=>bnd (R st) fun y=>.ok (y.1++[({ (⟨k,a,0,s,[],[]⟩:Fm) with l:=[y.2] }:Fm)],y.1.length)) (B+1)):=by
  have:=sputs_any h hB (⟨k,a,0,s,[],[v]⟩:Fm) [v] (by simp) rfl (Sl.nil _ _) e (m:=1) rfl (xs:=#[.int .i64 ((v:Nat):Int)]) rfl;have e2:=collect1 _ (⟨k,a,0,s,[],[]⟩:Fm) v hk;rw [bnd_bnd] at e2;rw [← e2];exact this
set_option maxHeartbeats 4000000 in
set_option maxRecDepth 20000 in
theorem sdefine_any {N:Nat} (HF:FormC w0 q (some ⟨b,o,none⟩) n c ns N) (D:Dta w0 (some ⟨b,o,none⟩) n ns) (h:Stx w0 w E q (.slice (some ⟨b,o,none⟩) n c) fv X B) {i:Nat} (hi:i < n) (hN:16*T ns i≤N+9) (hB:B+(16*T ns i - 8)≤200000) {x:Nat} {r:List Nat} (hl:(ndAt ns i).l=x::r) :
    Calls Tryz.prog 101 #[ptr q,num i] w (OutQ w0 w E q (.slice (some ⟨b,o,none⟩) n c) fv (bnd X (onPl (exq ns) (atL 2 (ndAt ns i).at_ r (defineP ns (ndAt ns i).at_ r true)))) (B+(16*T ns i - 8))):=by
  obtain ⟨g,oo,m,lc,kd,nd,a,sd,H⟩:=h.hd D hi hl;have HW:=Lib.hid (fun (w':World) (f:MM.Far [] w w')=>swrong_any (h.to f) D.nd D.len hi (D.at0 i));rw [H.ha] at HW ⊢;have hi0:(0:Int)≤(i:Int):=by omega
  have hi1:(i:Int) < (n:Int):=by omega
  obtain ⟨hb,d0,d1,d2,d3,d4,c0,sl,hm,ha,hT,hall,hkT,few,F0,R0,hbx⟩:=H;have HTP:=Lib.hid (T_pos ns x);have HF0:=Lib.hid F0;unfold atL;by_cases hlt:r.length < 2
  · rw [if_pos hlt];have h3:(m:Int) < 3:=by omega
    have HC:=Lib.hid (HW.out _ F0);clear HF D h hl hT hall hkT sl F0 R0 HW ha hm hlt;unfold ptr num at *;go_enter Tryz.func101,Tryz.ntmps101
    go_wp2_with (first
      | (go_at_call 59;(with_reducible refine HC.out.mono ?_);rintro e w1 hQ;have HQ:=Lib.hid (hQ.from (Fr.quiet HF0.out));obtain ⟨k,fv1,he,-⟩:=hQ;(replace he:e = .returned (.int .i64 ((k:Nat):Int)):=he);subst he))
    go_ret
    exact HQ.out.mono (by omega)
  · rw [if_neg hlt];obtain ⟨y,z,t,rfl⟩:=two (r:=r) (by omega);have hy:=hall y (by simp);have hz:=hall z (by simp);have hyT:=hkT y (by simp);have hzT:=hkT z (by simp);have hsx:sumT ns (y::z::t)=16*T ns y+sumT ns (z::t):=by simp [sumT]
    have hsz:sumT ns (z::t)=16*T ns z+sumT ns t:=by simp [sumT]
    rw [hsx] at hT;have HSL:=Lib.hid (sl.far F0 (by simp));obtain ⟨g',oo',cc,e,_,_,_,_,hs2⟩:=Sl.open_ (u:=num x) (vs:=ints (y::z::t)) sl;injection e with e1 e2 e3;injection e1 with e1;injection e1 with ea eb;subst ea;subst eb;subst e3;have hst:=hs2 (num y) (ints (z::t)) rfl;have htl:(ints (z::t)).length+2=m:=by rw [ints_len];simpa using hm
    have hsl2:=fun X'=>slice_ints2 g oo (ints (z::t)).length lc m htl X'
    generalize (if lc=2 then some (⟨g,oo,none⟩:Addr) else some ⟨g,oo+2,none⟩)=SA at hsl2 hst;generalize lc - 2=sc at hsl2 hst;rw [ints_len] at htl hst hsl2;obtain ⟨tm,htm⟩:∃ tm,(z::t).length=tm:=⟨_,rfl⟩
    rw [htm] at htl hst hsl2;have HFN:=Lib.hid (fun (w2:World) (f:MM.Far [] w w2) (NA:Option Addr) (np nc:Nat) (names:List ByteArray) (hn:Sl w2 (E++Zx q fv) (.slice NA np nc) (strs names)) =>
      sfn_any HF (h.to f) D.ok a hn (hst.far f (by simp)) htm (by omega) (fun p hp=>⟨hall p (List.mem_cons_of_mem _ hp),by have:=hkT p (List.mem_cons_of_mem _ hp);omega⟩) (by omega))
    have HNAME:=Lib.hid (fun (w':World) (f:MM.Far [] w w') (p:Nat) (hp:p < n)=>sname_any (h.to f) D hp);have HNAMES:=Lib.hid (fun (w2:World) (f:MM.Far [] w w2) (A:Option Addr) (m lc:Nat) (l:List Nat) (hl:Sl w2 (E++Zx q fv) (.slice A m lc) (ints l)) (hin:∀ p∈l,p < n)=>snames_any (h.to f) D hl (by rw [hl.len,ints_len]) hin);have HFORM:=Lib.hid (fun (w':World) (f:MM.Far [] w w')=>HF _ _ _ _ _ z false hz (by omega) (by omega) (h.to f));have HLS:=Lib.hid (slist_at (h.to F0.drew) D hy 1 1 rfl (by omega));have HBX:=Lib.hid R0;have HBZ:=Lib.hid hbx;have HOK:=Lib.hid D.ok;have HBB:=Lib.hid hB;have HTT:=Lib.hid hT;have HSZ:=Lib.hid hsz;have HTy:=Lib.hid (T_pos ns y);have HTz:=Lib.hid (T_pos ns z);have hb1:(1:Int) < (m:Int):=by omega
    have hb2:(2:Int) < (m:Int):=by simp at hm;omega
    have h3:¬ (m:Int) < 3:=by simp at hm;omega
    have hy0:(0:Int)≤(y:Int):=by omega
    have hy1:(y:Int) < (n:Int):=by omega
    obtain ⟨LB,lb,-,g0,-,-,-,g4,hSy⟩:=h.datc D hy;have x1:=HSL.out.get 1 rfl rfl;have x2:=HSL.out.get 2 rfl rfl;have v0:=far_cell F0 c0;have v1:=R0.at (i:=1) rfl;have v4:=R0.at (i:=4) rfl;have vg0:=far_cell F0 g0;have vg4:=far_cell F0 g4;have hlf:=D.leaf y;have hs3:=D.s3 y;have HDP:Hid (defineP ns a (y::z::t) true=if (ndAt ns y).l≠[] then defineF ns a (y::z::t) (ndAt ns y).l else match nameOf ns y with
      | none=>.bad a
      | some s=>if 2 < (y::z::t).length then .bad a else definition a s (.dat z)):=Lib.hid rfl
    by_cases hk3:(ndAt ns y).kind=3
    · have hl0:(ndAt ns y).l=[]:=hlf (by omega);rw [HDP.out,if_neg (fun hne=>hne hl0)];have HN1:=Lib.hid (HNAME.out _ F0.drew y hy);rw [hk3] at g0 vg0;clear HF D h hl hT hall hkT sl F0 R0 ha hlt hyT hzT hsx hsz hy hz hs2 htl htm e2 hst HDP hlf hs3 hSy hl0 hk3 HFN HNAMES HLS g4 vg4;have HNE:=Lib.hid (fun s (e:nameOf ns y=some s)=>nameOf_ne e);generalize nameOf ns y=ny at *;cases ny with
      | none =>
        simp only []
        have HN2:Hid (Calls Tryz.prog 99 #[ptr q,num y] (w.alloc (.cells #[.int .u8 kd,.int .i64 a,.int .i64 nd,.string sd,.slice (some ⟨g,oo,none⟩) m lc] 122)).drew fun e w'=>e = .returned (.string ⟨#[]⟩)∧MM.Far [] (w.alloc (.cells #[.int .u8 kd,.int .i64 a,.int .i64 nd,.string sd,.slice (some ⟨g,oo,none⟩) m lc] 122)).drew w'):=HN1;clear HN1;unfold ptr num at *;go_enter Tryz.func101,Tryz.ntmps101
        go_wp2;generalize w.alloc (.cells #[.int .u8 kd,.int .i64 a,.int .i64 nd,.string sd,.slice (some ⟨g,oo,none⟩) m lc] 122)=W at *
        go_region_held3 (fun w'=>w'.cell? ⟨q,0,none⟩=some (.slice (some ⟨b,o,none⟩) n c)∧w'.cell? ⟨w.heap.size,4,none⟩=some (.slice (some ⟨g,oo,none⟩) m lc)∧w'.cell? ⟨g,oo+1,none⟩=some (.int .i64 (y:Nat))∧w'.cell? ⟨b,o+y*5,none⟩=some (.int .u8 3)) (first | (with_reducible assumption) | go_keep) (fail)
        go_wp2_with (first
          | (go_at_call 99;(with_reducible refine HN2.out.mono ?_);rintro e w2 ⟨rfl,hF2⟩;have HF2:=Lib.hid (HF0.out.drew.trans hF2 (by simp));have HC:=Lib.hid (HW.out _ HF2.out);clear hF2)
          | (go_at_call 59;(with_reducible refine HC.out.mono ?_);rintro e w3 hQ;have HQ:=Lib.hid (hQ.from (Fr.quiet HF2.out));obtain ⟨k,fv1,he,-⟩:=hQ;(replace he:e = .returned (.int .i64 ((k:Nat):Int)):=he);subst he))
        go_ret
        exact HQ.out.mono (by omega)
      | some s =>
        simp only []
        have hb3:¬ s.toList=[]:=toList_ne (fun h=>HNE.out s rfl (size_zero h));have hb4:s.toList.isEmpty=false:=by simpa using hb3
        have HN2:Hid (Calls Tryz.prog 99 #[ptr q,num y] (w.alloc (.cells #[.int .u8 kd,.int .i64 a,.int .i64 nd,.string sd,.slice (some ⟨g,oo,none⟩) m lc] 122)).drew fun e w'=>e = .returned (.string s)∧MM.Far [] (w.alloc (.cells #[.int .u8 kd,.int .i64 a,.int .i64 nd,.string sd,.slice (some ⟨g,oo,none⟩) m lc] 122)).drew w'):=HN1;clear HN1 HNE;by_cases h4:2 < (y::z::t).length
        · rw [if_pos h4];have h5:¬ (m:Int)=3:=by omega
          have h51:((m:Int) == 3)=false:=by simpa using h5
          have h52:((m:Int) != 3)=true:=by simpa using h5
          clear h4 hm;unfold ptr num at *;go_enter Tryz.func101,Tryz.ntmps101
          go_wp2;generalize w.alloc (.cells #[.int .u8 kd,.int .i64 a,.int .i64 nd,.string sd,.slice (some ⟨g,oo,none⟩) m lc] 122)=W at *
          go_region_held3 (fun w'=>w'.cell? ⟨q,0,none⟩=some (.slice (some ⟨b,o,none⟩) n c)∧w'.cell? ⟨w.heap.size,4,none⟩=some (.slice (some ⟨g,oo,none⟩) m lc)∧w'.cell? ⟨g,oo+1,none⟩=some (.int .i64 (y:Nat))∧w'.cell? ⟨b,o+y*5,none⟩=some (.int .u8 3)) (first | (with_reducible assumption) | go_keep) (fail)
          go_wp2_with (first
            | (go_at_call 99;(with_reducible refine HN2.out.mono ?_);rintro e w2 ⟨rfl,hF2⟩;have u4:=(HBX.out.drew.far hF2 (by simp)).at (i:=4) rfl;have HF2:=Lib.hid (HF0.out.drew.trans hF2 (by simp));have HC:=Lib.hid (HW.out _ HF2.out);clear hF2)
            | (go_at_call 59;(with_reducible refine HC.out.mono ?_);rintro e w3 hQ;have HQ:=Lib.hid (hQ.from (Fr.quiet HF2.out));obtain ⟨k,fv1,he,-⟩:=hQ;(replace he:e = .returned (.int .i64 ((k:Nat):Int)):=he);subst he))
          go_ret
          exact HQ.out.mono (by omega)
        · rw [if_neg h4];have hm3:m=3:=by simp only [List.length_cons] at h4 hm;omega
          subst hm3;have HEX:Hid (onPl (exq ns) (definition a s (.dat z))=_):=Lib.hid (funext fun st=>runs1 (exq ns) (⟨9,a,0,s,[],[]⟩:Fm) (.dat z) st);rw [HEX.out];clear h4 hm HEX h3 hb1 hb2;unfold ptr num at *;go_enter Tryz.func101,Tryz.ntmps101
          go_wp2;generalize w.alloc (.cells #[.int .u8 kd,.int .i64 a,.int .i64 nd,.string sd,.slice (some ⟨g,oo,none⟩) 3 lc] 122)=W at *
          go_region_held3 (fun w'=>w'.cell? ⟨q,0,none⟩=some (.slice (some ⟨b,o,none⟩) n c)∧w'.cell? ⟨w.heap.size,4,none⟩=some (.slice (some ⟨g,oo,none⟩) 3 lc)∧w'.cell? ⟨g,oo+1,none⟩=some (.int .i64 (y:Nat))∧w'.cell? ⟨b,o+y*5,none⟩=some (.int .u8 3)) (first | (with_reducible assumption) | go_keep) (fail)
          go_wp2_with (first
            | (go_at_call 99;(with_reducible refine HN2.out.mono ?_);rintro e w2 ⟨rfl,hF2⟩;have HBX2:=Lib.hid (HBX.out.drew.far hF2 (by simp));have u4:=HBX2.out.at (i:=4) rfl;have u1:=HBX2.out.at (i:=1) rfl;have t2:=(HSL.out.far ((MM.Far.refl [] W).drew.trans hF2 (by simp)) (by simp)).get 2 rfl rfl;have HF2:=Lib.hid (HF0.out.drew.trans hF2 (by simp));have HC:=Lib.hid (HFORM.out _ HF2.out);unfold num at t2;clear hF2)
            | (go_at_call 30;(with_reducible refine HC.out.mono ?_);rintro e w3 ⟨k1,fv1,he,hF1,hS1,hk1⟩;(replace he:e = .returned (.int .i64 ((k1:Nat):Int)):=he);subst he
               have HC4:=Lib.hid (sput_one (k:=9) (a:=a) (s:=s) hS1 hk1 (by have:=HBB.out;have:=HTT.out;have:=HTP.out;have:=HTy.out;have:=HSZ.out;omega) rfl);unfold ptr at HC4;have u1:=(HBX2.out.far hF1.far HBZ.out).at (i:=1) rfl;have HF3:=Lib.hid hF1;clear hF1 hS1 hk1)
            | (go_at_call 56;(with_reducible refine HC4.out.mono ?_);rintro e w4 hQ;have HQ:=Lib.hid ((hQ.from HF3.out).from (Fr.quiet HF2.out));obtain ⟨k4,fv4,he,-⟩:=hQ;(replace he:e = .returned (.int .i64 ((k4:Nat):Int)):=he);subst he))
          go_ret
          exact HQ.out.mono (by have:=HTT.out;have:=HTP.out;have:=HTy.out;have:=HTz.out;have:=HSZ.out;omega)
    · have hk5:((ndAt ns y).kind == 3)=false:=by simp [hk3]
      by_cases hd:(ndAt ns y).kind=4∧1≤(ndAt ns y).l.length
      · rw [decide_eq_true hd] at HLS;obtain ⟨h0,hs,hhy⟩:=one (r:=(ndAt ns y).l) hd.2;have hh0:=D.kid (i:=y) (p:=h0) (by rw [hhy];exact List.mem_cons_self ..);have hhs:=fun p (hp:p∈hs)=>D.kid (i:=y) (p:=p) (by rw [hhy];exact List.mem_cons_of_mem _ hp)
        rw [HDP.out,if_pos (by rw [hhy];simp),hhy];rw [hhy] at hSy g4 vg4;obtain ⟨gy,oy,cy,e,_,_,hcy,hsy,-⟩:=Sl.open_ (u:=num h0) (vs:=ints hs) hSy;injection e with e1 e5 e3;subst e1 e3;have y0:=hcy 0 (num h0) rfl;rw [Nat.add_zero] at y0;have vy0:=far_cell F0 y0;obtain ⟨my,hmy⟩:∃ my,(h0::hs).length=my:=⟨_,rfl⟩
        obtain ⟨mh,hmh⟩:∃ mh,(ints hs).length=mh:=⟨_,rfl⟩
        rw [hmy] at g4 vg4 e5;rw [hmh] at e5 hsy;have hslh:=fun X'=>slice_ints1 gy oy mh lb my e5.symm X'
        generalize (if lb=1 then some (⟨gy,oy,none⟩:Addr) else some ⟨gy,oy+1,none⟩)=SH at hslh hsy;generalize lb - 1=sh at hslh hsy;have hmy0:(0:Int) < (my:Int):=by omega
        have hmy1:0 < my:=by omega
        have HN1:=Lib.hid (HNAME.out _ F0.drew.drew h0 hh0);have HNS:=Lib.hid (fun (w2:World) (f:MM.Far [] w w2)=>HNAMES.out w2 f _ _ _ hs (hsy.far f (by simp)) hhs);rw [hd.1] at g0 vg0;have HDF:Hid (defineF ns a (y::z::t) (h0::hs)=match nameOf ns h0,namesOf ns hs with
          | some s,some names=>definition a s (.fn a names (body a (z::t)))
          | _,_=>.bad a):=Lib.hid rfl
        rw [HDF.out];clear HF D h hl hT hall hkT sl F0 R0 ha hm hlt hyT hzT hsx hsz hy hz hs2 htl htm e2 hst HDP HDF hlf hs3 hSy hk3 HNAMES hd hcy hsy hmy hmh e5 hh0 hhs hhy hk5 y0 g4 HFORM;have HNE:=Lib.hid (fun s (e:nameOf ns h0=some s)=>nameOf_ne e);generalize namesOf ns hs=nn at *;generalize nameOf ns h0=n0 at *;cases n0 with
        | none =>
          simp only []
          have HN2:Hid (Calls Tryz.prog 99 #[ptr q,num h0] (w.alloc (.cells #[.int .u8 kd,.int .i64 a,.int .i64 nd,.string sd,.slice (some ⟨g,oo,none⟩) m lc] 122)).drew.drew fun e w'=>e = .returned (.string ⟨#[]⟩)∧MM.Far [] (w.alloc (.cells #[.int .u8 kd,.int .i64 a,.int .i64 nd,.string sd,.slice (some ⟨g,oo,none⟩) m lc] 122)).drew.drew w'):=HN1;clear HN1 HNE;cases nn with
          | none =>
            unfold ptr num at *;go_enter Tryz.func101,Tryz.ntmps101
            go_wp2;generalize w.alloc (.cells #[.int .u8 kd,.int .i64 a,.int .i64 nd,.string sd,.slice (some ⟨g,oo,none⟩) m lc] 122)=W at *
            go_region_held3 (fun w'=>w'.cell? ⟨q,0,none⟩=some (.slice (some ⟨b,o,none⟩) n c)∧w'.cell? ⟨w.heap.size,4,none⟩=some (.slice (some ⟨g,oo,none⟩) m lc)∧w'.cell? ⟨g,oo+1,none⟩=some (.int .i64 (y:Nat))∧w'.cell? ⟨b,o+y*5,none⟩=some (.int .u8 4)) (first | (with_reducible assumption) | go_keep) (fail)
            go_wp2_with (first
              | (go_at_call 129;(with_reducible refine HLS.out.mono ?_);rintro e w2 ⟨rfl,rfl⟩))
            go_region_held3 (fun w'=>w'.cell? ⟨q,0,none⟩=some (.slice (some ⟨b,o,none⟩) n c)∧w'.cell? ⟨w.heap.size,4,none⟩=some (.slice (some ⟨g,oo,none⟩) m lc)∧w'.cell? ⟨g,oo+1,none⟩=some (.int .i64 (y:Nat))∧w'.cell? ⟨b,o+y*5+4,none⟩=some (.slice (some ⟨gy,oy,none⟩) my lb)) (first | (with_reducible assumption) | go_keep) (fail)
            go_wp2_with (first
              | (go_at_call 99;(with_reducible refine HN2.out.mono ?_);rintro e w2 ⟨rfl,hF2⟩;have HF2:=Lib.hid (HF0.out.drew.drew.trans hF2 (by simp));have HC1:=Lib.hid (HNS.out _ HF2.out);clear hF2)
              | (go_at_call 130;(with_reducible refine HC1.out.mono ?_);rintro e w3 ⟨hQ,hF3⟩;obtain rfl:e = .returned (.tuple #[.slice none 0 0,.bool false]):=hQ;have HF3:=Lib.hid (HF2.out.trans hF3 (by simp));have HC:=Lib.hid (HW.out _ HF3.out);clear hF3)
              | (go_at_call 59;(with_reducible refine HC.out.mono ?_);rintro e w3 hQ;have HQ:=Lib.hid (hQ.from (Fr.quiet HF3.out));obtain ⟨k,fv1,he,-⟩:=hQ;(replace he:e = .returned (.int .i64 ((k:Nat):Int)):=he);subst he))
            go_ret
            exact HQ.out.mono (by omega)
          | some names =>
            unfold ptr num at *;go_enter Tryz.func101,Tryz.ntmps101
            go_wp2;generalize w.alloc (.cells #[.int .u8 kd,.int .i64 a,.int .i64 nd,.string sd,.slice (some ⟨g,oo,none⟩) m lc] 122)=W at *
            go_region_held3 (fun w'=>w'.cell? ⟨q,0,none⟩=some (.slice (some ⟨b,o,none⟩) n c)∧w'.cell? ⟨w.heap.size,4,none⟩=some (.slice (some ⟨g,oo,none⟩) m lc)∧w'.cell? ⟨g,oo+1,none⟩=some (.int .i64 (y:Nat))∧w'.cell? ⟨b,o+y*5,none⟩=some (.int .u8 4)) (first | (with_reducible assumption) | go_keep) (fail)
            go_wp2_with (first
              | (go_at_call 129;(with_reducible refine HLS.out.mono ?_);rintro e w2 ⟨rfl,rfl⟩))
            go_region_held3 (fun w'=>w'.cell? ⟨q,0,none⟩=some (.slice (some ⟨b,o,none⟩) n c)∧w'.cell? ⟨w.heap.size,4,none⟩=some (.slice (some ⟨g,oo,none⟩) m lc)∧w'.cell? ⟨g,oo+1,none⟩=some (.int .i64 (y:Nat))∧w'.cell? ⟨b,o+y*5+4,none⟩=some (.slice (some ⟨gy,oy,none⟩) my lb)) (first | (with_reducible assumption) | go_keep) (fail)
            go_wp2_with (first
              | (go_at_call 99;(with_reducible refine HN2.out.mono ?_);rintro e w2 ⟨rfl,hF2⟩;have HF2:=Lib.hid (HF0.out.drew.drew.trans hF2 (by simp));have HC1:=Lib.hid (HNS.out _ HF2.out);clear hF2)
              | (go_at_call 130;(with_reducible refine HC1.out.mono ?_);rintro e w3 ⟨⟨nv,rfl,hnv⟩,hF3⟩;have HF3:=Lib.hid (HF2.out.trans hF3 (by simp));have HC:=Lib.hid (HW.out _ HF3.out);clear hF3 hnv)
              | (go_at_call 59;(with_reducible refine HC.out.mono ?_);rintro e w3 hQ;have HQ:=Lib.hid (hQ.from (Fr.quiet HF3.out));obtain ⟨k,fv1,he,-⟩:=hQ;(replace he:e = .returned (.int .i64 ((k:Nat):Int)):=he);subst he))
            go_ret
            exact HQ.out.mono (by omega)
        | some s =>
          have hb3:¬ s.toList=[]:=toList_ne (fun h=>HNE.out s rfl (size_zero h));have hb4:s.toList.isEmpty=false:=by simpa using hb3
          have hb5:(s.toList == [])=false:=by rw [beq_eq_false_iff_ne];exact hb3
          have HN2:Hid (Calls Tryz.prog 99 #[ptr q,num h0] (w.alloc (.cells #[.int .u8 kd,.int .i64 a,.int .i64 nd,.string sd,.slice (some ⟨g,oo,none⟩) m lc] 122)).drew.drew fun e w'=>e = .returned (.string s)∧MM.Far [] (w.alloc (.cells #[.int .u8 kd,.int .i64 a,.int .i64 nd,.string sd,.slice (some ⟨g,oo,none⟩) m lc] 122)).drew.drew w'):=HN1;clear HN1 HNE;cases nn with
          | none =>
            simp only []
            unfold ptr num at *;go_enter Tryz.func101,Tryz.ntmps101
            go_wp2;generalize w.alloc (.cells #[.int .u8 kd,.int .i64 a,.int .i64 nd,.string sd,.slice (some ⟨g,oo,none⟩) m lc] 122)=W at *
            go_region_held3 (fun w'=>w'.cell? ⟨q,0,none⟩=some (.slice (some ⟨b,o,none⟩) n c)∧w'.cell? ⟨w.heap.size,4,none⟩=some (.slice (some ⟨g,oo,none⟩) m lc)∧w'.cell? ⟨g,oo+1,none⟩=some (.int .i64 (y:Nat))∧w'.cell? ⟨b,o+y*5,none⟩=some (.int .u8 4)) (first | (with_reducible assumption) | go_keep) (fail)
            go_wp2_with (first
              | (go_at_call 129;(with_reducible refine HLS.out.mono ?_);rintro e w2 ⟨rfl,rfl⟩))
            go_region_held3 (fun w'=>w'.cell? ⟨q,0,none⟩=some (.slice (some ⟨b,o,none⟩) n c)∧w'.cell? ⟨w.heap.size,4,none⟩=some (.slice (some ⟨g,oo,none⟩) m lc)∧w'.cell? ⟨g,oo+1,none⟩=some (.int .i64 (y:Nat))∧w'.cell? ⟨b,o+y*5+4,none⟩=some (.slice (some ⟨gy,oy,none⟩) my lb)) (first | (with_reducible assumption) | go_keep) (fail)
            go_wp2_with (first
              | (go_at_call 99;(with_reducible refine HN2.out.mono ?_);rintro e w2 ⟨rfl,hF2⟩;have HF2:=Lib.hid (HF0.out.drew.drew.trans hF2 (by simp));have HC1:=Lib.hid (HNS.out _ HF2.out);clear hF2)
              | (go_at_call 130;(with_reducible refine HC1.out.mono ?_);rintro e w3 ⟨hQ,hF3⟩;obtain rfl:e = .returned (.tuple #[.slice none 0 0,.bool false]):=hQ;have HF3:=Lib.hid (HF2.out.trans hF3 (by simp));have HC:=Lib.hid (HW.out _ HF3.out);clear hF3)
              | (go_at_call 59;(with_reducible refine HC.out.mono ?_);rintro e w3 hQ;have HQ:=Lib.hid (hQ.from (Fr.quiet HF3.out));obtain ⟨k,fv1,he,-⟩:=hQ;(replace he:e = .returned (.int .i64 ((k:Nat):Int)):=he);subst he))
            go_ret
            exact HQ.out.mono (by omega)
          | some names =>
            simp only []
            have HEX:Hid (onPl (exq ns) (definition a s (.fn a names (body a (z::t))))=_):=Lib.hid (funext fun st=>runs1 (exq ns) (⟨9,a,0,s,[],[]⟩:Fm) (.fn a names (body a (z::t))) st);rw [HEX.out];clear HEX;unfold ptr num at *;go_enter Tryz.func101,Tryz.ntmps101
            go_wp2;generalize w.alloc (.cells #[.int .u8 kd,.int .i64 a,.int .i64 nd,.string sd,.slice (some ⟨g,oo,none⟩) m lc] 122)=W at *
            go_region_held3 (fun w'=>w'.cell? ⟨q,0,none⟩=some (.slice (some ⟨b,o,none⟩) n c)∧w'.cell? ⟨w.heap.size,4,none⟩=some (.slice (some ⟨g,oo,none⟩) m lc)∧w'.cell? ⟨g,oo+1,none⟩=some (.int .i64 (y:Nat))∧w'.cell? ⟨b,o+y*5,none⟩=some (.int .u8 4)) (first | (with_reducible assumption) | go_keep) (fail)
            go_wp2_with (first
              | (go_at_call 129;(with_reducible refine HLS.out.mono ?_);rintro e w2 ⟨rfl,rfl⟩))
            go_region_held3 (fun w'=>w'.cell? ⟨q,0,none⟩=some (.slice (some ⟨b,o,none⟩) n c)∧w'.cell? ⟨w.heap.size,4,none⟩=some (.slice (some ⟨g,oo,none⟩) m lc)∧w'.cell? ⟨g,oo+1,none⟩=some (.int .i64 (y:Nat))∧w'.cell? ⟨b,o+y*5+4,none⟩=some (.slice (some ⟨gy,oy,none⟩) my lb)) (first | (with_reducible assumption) | go_keep) (fail)
            go_wp2_with (first
              | (go_at_call 99;(with_reducible refine HN2.out.mono ?_);rintro e w2 ⟨rfl,hF2⟩;have HBX1:=Lib.hid (HBX.out.drew.drew.far hF2 (by simp));have HF2:=Lib.hid (HF0.out.drew.drew.trans hF2 (by simp));have HC1:=Lib.hid (HNS.out _ HF2.out);clear hF2)
              | (go_at_call 130;(with_reducible refine HC1.out.mono ?_);rintro e w3 ⟨⟨nv,rfl,hnv⟩,hF3⟩;obtain ⟨NA,nc,rfl,-,-⟩:=hnv.form;have HBX2:=Lib.hid (HBX1.out.far hF3 (by simp));have u1:=HBX2.out.at (i:=1) rfl;have u4:=HBX2.out.at (i:=4) rfl;have HF3:=Lib.hid (HF2.out.trans hF3 (by simp));have HC:=Lib.hid (HFN.out _ HF3.out.drew _ _ _ _ (hnv.far (MM.Far.refl [] w3).drew (by simp)));clear hF3 hnv))
            go_region_held3 (fun w'=>w'.cell? ⟨w.heap.size,1,none⟩=some (.int .i64 a)∧w'.cell? ⟨w.heap.size,4,none⟩=some (.slice (some ⟨g,oo,none⟩) m lc)) (first | (with_reducible assumption) | go_keep) (first
              | (go_at_call 131;(with_reducible refine HC.out.mono ?_);rintro e w4 ⟨k1,fv1,he,hF1,hS1,hk1⟩;(replace he:e = .returned (.int .i64 ((k1:Nat):Int)):=he);subst he
                 have HC4:=Lib.hid (sput_one (k:=9) (a:=a) (s:=s) hS1 hk1 (by have:=HBB.out;have:=HTT.out;have:=HTP.out;have:=HTy.out;have:=HSZ.out;omega) rfl);unfold ptr at HC4;have hk:w4.cell? ⟨w.heap.size,1,none⟩=some (.int .i64 a)∧w4.cell? ⟨w.heap.size,4,none⟩=some (.slice (some ⟨g,oo,none⟩) m lc):=⟨(HBX2.out.drew.far hF1.far HBZ.out).at (i:=1) rfl,(HBX2.out.drew.far hF1.far HBZ.out).at (i:=4) rfl⟩
                 have u1:=hk.1;have HF4:=Lib.hid hF1;clear hF1 hS1 hk1))
            go_wp2_with (first
              | (go_at_call 56;(with_reducible refine HC4.out.mono ?_);rintro e w5 hQ;have HQ:=Lib.hid ((hQ.from HF4.out).from (Fr.quiet HF3.out.drew));obtain ⟨k4,fv4,he,-⟩:=hQ;(replace he:e = .returned (.int .i64 ((k4:Nat):Int)):=he);subst he))
            go_ret
            exact HQ.out.mono (by have:=HTT.out;have:=HTP.out;have:=HTy.out;have:=HTz.out;have:=HSZ.out;omega)
      · have hl0:(ndAt ns y).l=[]:=by
          by_cases hk4:(ndAt ns y).kind=4
          · exact List.eq_nil_of_length_eq_zero (by have:¬ 1≤(ndAt ns y).l.length:=fun h=>hd ⟨hk4,h⟩;omega)
          · exact hlf hk4
        have hnn:nameOf ns y=none:=by unfold nameOf;rw [if_pos (.inl (hs3 hk3))]
        rw [HDP.out,if_neg (fun hne=>hne hl0),hnn];rw [decide_eq_false hd] at HLS;have HC:=Lib.hid (HW.out _ F0.drew);simp only []
        clear HF D h hl hT hall hkT sl F0 R0 ha hlt hyT hzT hsx hsz hy hz hs2 htl htm e2 hst HDP hlf hs3 hSy hl0 hk3 HFN HNAMES g4 vg4 hnn hd HW;generalize (ndAt ns y).kind=ky at *;unfold ptr num at *;go_enter Tryz.func101,Tryz.ntmps101
        go_wp2;generalize w.alloc (.cells #[.int .u8 kd,.int .i64 a,.int .i64 nd,.string sd,.slice (some ⟨g,oo,none⟩) m lc] 122)=W at *
        go_region_held3 (fun w'=>w'.cell? ⟨q,0,none⟩=some (.slice (some ⟨b,o,none⟩) n c)∧w'.cell? ⟨w.heap.size,4,none⟩=some (.slice (some ⟨g,oo,none⟩) m lc)∧w'.cell? ⟨g,oo+1,none⟩=some (.int .i64 (y:Nat))∧w'.cell? ⟨b,o+y*5,none⟩=some (.int .u8 ky)) (first | (with_reducible assumption) | go_keep) (fail)
        go_wp2_with (first
          | (go_at_call 129;(with_reducible refine HLS.out.mono ?_);rintro e w2 ⟨rfl,rfl⟩)
          | (go_at_call 59;(with_reducible refine HC.out.mono ?_);rintro e w3 hQ;have HQ:=Lib.hid (hQ.from (Fr.quiet HF0.out.drew));obtain ⟨k,fv1,he,-⟩:=hQ;(replace he:e = .returned (.int .i64 ((k:Nat):Int)):=he);subst he))
        go_ret
        exact HQ.out.mono (by omega)
end
end EW
end Go.Proofs.YtehgmmbdlnginaaGreatDoor
