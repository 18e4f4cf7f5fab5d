/-
  Several texts in one: ScoBad,ScoTx,ScoS5.
-/
import Derived.Test.YtkcgbhlnkfogeaaGreatDoorQScoGd
import Derived.Test.YtkcgbhlnkfogeaaGreatDoorQScoS4
import Derived.Deep.QuietTactic
import Derived.BigQuiet
namespace Go.Proofs.YtkcgbhlnkfogeaaGreatDoor
namespace SC
open LX RX SX EX
theorem ev_bad {C:Cx} {R:Rws} {N:List ByteArray} {p:Sp} {a e:Int} (h:(evS C R N p).1 = .bad a e):(e=90∨e=91)∧∃ i,p = .form i∧a=(fmAt C.fs i).at_∧(fmAt C.fs i).kind≠0:=by
  have hql:∀ {R:Rws} {a':Int} {l:List Nat},quoL R a' l≠.bad a e:=by
    intro R a' l;cases l <;> simp [quoL]
  have hq:∀ {a':Int} {i:Nat},(quo C.ns R N a' i).1≠.bad a e:=by
    intro a' i;unfold quo;split
    · simp
    split
    · simp
    split
    · simp
    · exact hql
  have hno:∀ s,noName s=90∨noName s=91:=by
    intro s;unfold noName;split <;> simp
  cases p with
  | qd a' i=>exact absurd h hq
  | ql a' l=>exact absurd h hql
  | form i =>
    simp only [evS] at h
    obtain ⟨f,hf⟩:∃ f,fmAt C.fs i=f:=⟨_,rfl⟩
    rw [hf] at h;have goal:(e=90∨e=91)∧a=f.at_∧f.kind≠0:=by
      unfold evF at h;split at h
      · cases h
      split at h
      · cases h
      split at h
      · exact absurd h hq
      split at h
      · rename_i h4;unfold nameP at h;split at h
        · cases h
        · split at h
          · cases h
          · injection h with h1 h2;exact ⟨by rw [← h2];exact hno _,h1.symm,by omega⟩
      split at h
      · cases h
      split at h
      · rename_i h7;unfold setP' at h;split at h
        · cases h
        · split at h
          · cases h
          · injection h with h1 h2;exact ⟨by rw [← h2];exact hno _,h1.symm,by omega⟩
      split at h
      · rename_i h9;unfold defP at h;split at h
        · injection h with h1 h2;exact ⟨.inl h2.symm,h1.symm,by omega⟩
        · cases h
      split at h
      · rename_i h10;simp only [callP] at h
        split at h
        · split at h
          · injection h with h1 h2;exact ⟨.inl h2.symm,h1.symm,by omega⟩
          · cases h
        · cases h
      · cases h
    exact ⟨goal.1,i,rfl,by rw [hf];exact goal.2.1,by rw [hf];exact goal.2.2⟩
def AtF (C:Cx) (a:Int):Prop:=∃ i,a=(fmAt C.fs i).at_∧(fmAt C.fs i).kind≠0
theorem ex_bad {C:Cx} (h:Fw C):∀ (f:Nat) (p:Sp),wgt C p≤f→∀ R N row x,ex C f R p N row = .error x→(x.2.1=90∨x.2.1=91)∧AtF C x.1:=by
  intro f;induction f with
  | zero=>intro p hp;have:=wgt_pos C p;omega
  | succ f ih =>
    intro p hp R N row x hx;have hw:=ev_wg h R N p;have hb:=@ev_bad C R N p;rw [ex] at hx;generalize evS C R N p=y at hw hb hx;obtain ⟨pl,N1⟩:=y;cases pl with
    | bad a e =>
      simp only [onS] at hx
      injection hx with hx;subst hx;obtain ⟨h1,i,_,h2,h3⟩:=hb rfl;exact ⟨h1,i,h2,h3⟩
    | mk fm R1 ps =>
      simp only [wgn] at hw
      simp only [onS] at hx
      have hps:∀ (ps:List Sp),wgts C ps≤f→∀ N row l x,execs (ex C f R1) ps N row l = .error x→(x.2.1=90∨x.2.1=91)∧AtF C x.1:=by
        intro ps;induction ps with
        | nil=>intro _ N row l x hx;cases hx
        | cons q ps ihp =>
          intro h1 N row l x hx;rw [wgts_cons] at h1;unfold execs at hx;split at hx
          · rename_i e he;injection hx with hx;subst hx;exact ih q (by omega) _ _ _ _ he
          · exact ihp (by omega) _ _ _ _ hx
      split at hx
      · rename_i e he;injection hx with hx;subst hx;exact hps ps (by omega) _ _ _ _ he
      · cases hx
theorem sx_bad {C:Cx} (h:Fw C) {p:Sp} {R:Rws} {N:List ByteArray} {row:List Rf} {x:Er} (hx:sx C R p N row = .error x):(x.2.1=90∨x.2.1=91)∧AtF C x.1:=ex_bad h _ p (Nat.le_refl _) _ _ _ _ hx
end SC
end Go.Proofs.YtkcgbhlnkfogeaaGreatDoor
namespace Go.Proofs.YtkcgbhlnkfogeaaGreatDoor
namespace SC
open LX RX SX EX
theorem fms_of {s:ByteArray} {r:Rd} {fs:List Fm} {ts:List Nat} (hR:read s = .ok r) (h:expand r.row r.tops = .ok (fs,ts)):SM.Fms fs ts r.row.length:=by
  have hF:=forms_of hR h;refine ⟨fun k hk=>(hF.made k hk).1.kind,fun k hk p hp=>by have:=((hF.made k hk).2 p hp).1;simpa using this,fun k hk h3=>hF.quo _ (List.getElem_mem hk) h3,?_,fun t ht=>?_⟩
  · have hperm:(fs.flatMap (·.l)++ts).Perm (List.range fs.length):=by
      rw [List.perm_iff_count];intro a;have h1:=hF.one a;rw [List.count_append];unfold EX.cnt at h1;rw [h1,List.nodup_range.count];simp
    exact hperm.nodup_iff.2 List.nodup_range
  · have h1:=hF.one t;have h2:=List.count_pos_iff.2 ht;by_cases hl:t < fs.length
    · exact hl
    · rw [if_neg hl] at h1;omega
theorem nodup_le3:∀ (n:Nat) (l:List Nat),l.Nodup→(∀ a∈l,a < n)→l.length≤n:=by
  intro n;induction n with
  | zero=>intro l _ h;cases l with
    | nil=>exact Nat.le_refl _
    | cons a l=>have:=h a (List.mem_cons_self ..);omega
  | succ n ih =>
    intro l hn h;have h1:=ih (l.erase n) (hn.erase n) (fun a ha=>by
      have h2:=(hn.mem_erase_iff).1 ha;have:=h a h2.2;have:=h2.1;omega)
    by_cases hm:n∈l
    · rw [List.length_erase_of_mem hm] at h1;omega
    · rw [List.erase_of_not_mem hm] at h1;omega
theorem fms_small {fs:List Fm} {ts:List Nat} {D:Nat} (G:SM.Fms fs ts D):∀ x∈fs,x.l.length≤fs.length:=by
  intro x hx;obtain ⟨k,hk,rfl⟩:=List.getElem_of_mem hx;have h1:=(List.nodup_append.1 (SM.nd_front G.nd k hk)).2.1;exact Nat.le_trans (nodup_le3 k _ h1 (G.lt k hk)) (by omega)
theorem fms_nil (D:Nat):SM.Fms [] [] D:=⟨fun k hk=>absurd hk (by simp),fun k hk=>absurd hk (by simp),fun k hk=>absurd hk (by simp),by simp,fun t ht=>by cases ht⟩
theorem fm_nil (i:Nat):fmAt [] i=fm0:=by simp [fmAt]
theorem gd_nil {s:ByteArray} {r:Rd} (hR:read s = .ok r) (hs:s.size≤1000):Gd (cx r.row []) (r.row.map (·.s)):=by
  have hok:=read_ok_data hR;have hN:=read_names hR;have h3:∀ i,(ndAt r.row i).kind=3→PK (r.row.map (·.s)) (ndAt r.row i).s:=fun i hk=>by
    by_cases hi:i < r.row.length
    · rw [nd_in hi] at hk ⊢;exact ⟨(hN _ (List.getElem_mem hi)).1 hk,List.mem_map.2 ⟨_,List.getElem_mem hi,rfl⟩⟩
    · rw [nd_out hi] at hk;exact absurd hk (by decide)
  have h1:∀ i,(ndAt r.row i).kind=1→inRP (ndAt r.row i).n:=fun i hk=>by
    by_cases hi:i < r.row.length
    · rw [nd_in hi] at hk ⊢;exact (hN _ (List.getElem_mem hi)).2.1 hk
    · rw [nd_out hi] at hk;exact absurd hk (by decide)
  refine ⟨⟨hok,fun i p hp=>?_⟩,fun i hi=>absurd hi (by simp [cx]),fun i hi=>absurd hi (by simp [cx]),fun i hi=>absurd hi (by simp [cx]),fun i hk=>?_,h1,h3,?_,rfl⟩
  · rw [show fmAt (cx r.row []).fs i=fm0 from fm_nil i] at hp;cases hp
  · rw [show fmAt (cx r.row []).fs i=fm0 from fm_nil i] at hk;exact absurd hk (by decide)
  · rw [List.length_map];have:=read_len hR;omega
theorem gd_none:Gd (cx [] []) []:=by
  have hnd:∀ i,ndAt [] i=ndAt [] 0:=fun i=>by simp [ndAt]
  refine ⟨⟨⟨(fun x hx=>absurd hx (by simp [cx])),(fun x hx=>absurd hx (by simp [cx])),(fun i hi=>absurd hi (by simp [cx])),(fun i hi=>absurd hi (by simp [cx])),(fun i hi=>absurd hi (by simp [cx]))⟩,fun i p hp=>?_⟩,fun i hi=>absurd hi (by simp [cx]),fun i hi=>absurd hi (by simp [cx]),fun i hi=>absurd hi (by simp [cx]),fun i hk=>?_,fun i hk=>?_,fun i hk=>?_,by simp,rfl⟩
  · rw [show fmAt (cx [] []).fs i=fm0 from fm_nil i] at hp;cases hp
  · rw [show fmAt (cx [] []).fs i=fm0 from fm_nil i] at hk;exact absurd hk (by decide)
  · rw [show ndAt (cx [] []).ns i=ndAt [] 0 from hnd i] at hk;exact absurd hk (by decide)
  · rw [show ndAt (cx [] []).ns i=ndAt [] 0 from hnd i] at hk;exact absurd hk (by decide)
def ofS (s:ByteArray):Except Er (List ByteArray × List Rf × List Nat):=match RX.read s with
  | .error _=>.ok ([],[],[])
  | .ok r=>match EX.expand r.row r.tops with
    | .error _=>.ok ([],[],[])
    | .ok x=>scope r.row x.1 x.2
end SC
end Go.Proofs.YtkcgbhlnkfogeaaGreatDoor
namespace Go.Proofs.YtkcgbhlnkfogeaaGreatDoor
open Go.RowKit
set_option linter.unusedVariables false
namespace SM
open LX SX RW6 EX SC
open EW (Sl Bx ptr num strs NdR)
open RX (Nd)
open RM6 (Kin)
def NmAt (w w':World) (g:Nat) (N:List ByteArray):Prop:=∃ S mv sv,NW.Nm w' g S N mv sv∧∀ b∈S,b=g∨w.heap.size≤b
def ScpQ (w0 w:World) (g:Nat):Fin→Ending→World→Prop
  | .error x,e,w'=>e = .returned (.tuple #[.slice none 0 0,.slice none 0 0,num x.1,.int .i64 x.2.1])∧MM.Far [g] w w'∧NmAt w w' g x.2.2
  | .ok r,e,w'=>∃ fv tv rs,e = .returned (.tuple #[fv,tv,.int .i64 0,.int .i64 0])∧MM.Far [g] w w'∧NmAt w w' g r.1∧rs.map (·.1)=r.2.1∧w'.ownsRow w0.heap.size 57 8 fv rs.length (rfC rs)∧Kin w' w0.heap.size ((tv,r.2.2)::kinsR rs)
def ScI (w0 wS:World) (Z0:List Nat) (q g:Nat) (dv lv dm:Value) (C:Cx) (K:List ByteArray) (ts:List Nat) (X:Fin) (j:Nat) (wr:World):Prop :=
  ∃ Z Y fv tv ov rs N tps B0,MM.Far Z0 wS wr∧Yto wS Z0 Z∧Sy w0 wr Z Y q g dv lv dm (ownC C) [] N fv tv ov ov rs tps [] []∧SC.tops C (ts.drop j) N (rs.map (·.1)) tps=X∧FewS B0 (rs.map (·.1)) tps []∧Nk K N∧tps.length=j∧B0+((ts.drop j).map (F C)).sum≤900000000
theorem nm_of_sc {w0 wS w':World} {Z0 Z Y:List Nat} {q g:Nat} {h:Hd} {own:ByteArray→Nat} {R:Rws} {N:List ByteArray} (s:Sc w0 w' Y q g h own R N) (hZ:Yto wS Z0 Z) (hs:∀ b∈Y,b∈Z) {w:World} (h0:∀ b∈Z0,b=g∨w.heap.size≤b) (hw:w.heap.size≤wS.heap.size):NmAt w w' g N:=by
  obtain ⟨bv,im,mv,sv,S,s⟩:=s;refine ⟨S,mv,sv,s.nm,fun b hb=>?_⟩
  rcases hZ.new b (hs b (s.ys b hb)) with h1 | h1
  · exact h0 b h1
  · exact .inr (by omega)
theorem far_g {w w1 w2:World} {g q:Nat} (f:MM.Far [] w w1) (k:MM.Far [q,g] w1 w2) (hq:w.heap.size≤q):MM.Far [g] w w2 :=
  (f.mono (by simp)).trans k (fun b hb hl=>by simp at hb ⊢;omega)
theorem kin_end {w:World} {base:Nat} {tv:Value} {tops:List Nat} {rs:List (Rf × Value)} (h:Kin w base ((tv,tops)::(kinsR rs++(kinsZ []++[])))):Kin w base ((tv,tops)::kinsR rs):=by
  simpa [kinsZ] using h
set_option maxHeartbeats 8000000 in
set_option maxRecDepth 20000 in
theorem scope_any {w0 w:World} {DA FA T:Option Addr} {dc fc tc g n m tn:Nat} {ns:List Nd} {fs:List Fm} {ts:List Nat} {K:List ByteArray} {hd:Hd} (L:Lz w0 hd (cx ns fs) K) (hdv:hd.dv = .slice DA n dc) (hlv:hd.lv = .slice FA m fc) (hn:ns.length=n) (hm:fs.length=m) (htn:ts.length=tn)
    (hNd:NdR w0 DA ns) (hFm:FmS w0 FA fs) (hMay:RX.may (ns.map RX.toI)=true) (G:Fms fs ts n) (hT:RdC w0 [] T (ints ts)) (f:MM.Far [] w0 w) (hN:NW.Nm w g [g] [] (.map none) (.slice none 0 0)) (hg:w0.heap.size≤g)
    (hn1:n≤100000) (hm1:m≤100000) (ht1:tn≤99999) (hl:∀ x∈ns,x.l.length≤100000) (hfl:∀ x∈fs,x.l.length≤100000) (hF:(ts.map (F (cx ns fs))).sum≤900000000) :
    Calls Tryz.prog 14 #[.slice DA n dc,.slice FA m fc,.slice T tn tc,ptr g] w (ScpQ w0 w g (SC.scope ns fs ts)):=by
  obtain ⟨dv,lv,dm,fv0,tv0,hv0⟩:=hd;simp only at hdv hlv
  subst hdv hlv;have HMAY:=Lib.hid (fun (wx:World) (fx:MM.Far [] w wx)=>may_yes (ns.map RX.toI) hMay n (by rw [List.length_map,hn]) hn1 (fun x hx=>by
    obtain ⟨y,hy,rfl⟩:=List.mem_map.1 hx;have:=hl y hy;simp only [RX.toI,List.length_map];omega) DA dc wx (NiRow.of_nd ((hNd.far f).far fx).row))
  have HARE:=Lib.hid (fun (wx:World) (fx:MM.Far [] w wx)=>areForms_any (c:=fc) (tc:=tc) ((hFm.far f).far fx) hm hm1 G hfl ((hT.far f (by simp)).far fx (by simp)) htn (by omega) (by omega));have HDEF:=Lib.hid (fun (wx:World) (fx:MM.Far [] w wx)=>defined_any (c:=fc) ((hFm.far f).far fx) hm hm1 (fun x hx=>by
    obtain ⟨k,hk,rfl⟩:=List.getElem_of_mem hx;have:=(goodK_kind (G.good k hk)).1;omega))
  have HL:=Lib.hid L;have HN:=Lib.hid hN;have HG:=Lib.hid hg;have HT:=Lib.hid hT;have HTN:=Lib.hid htn;have HF:=Lib.hid hF;have HM:=Lib.hid hm;have HG2:=Lib.hid G.tlt;have HF0:=Lib.hid f;obtain ⟨X,hX⟩:∃ X,SC.scope ns fs ts=X:=⟨_,rfl⟩
  have HX:=Lib.hid hX;rw [hX];clear L hN hg hT htn hF hm G hNd hFm hMay hl hfl hn hX f;unfold num ptr at *;go_enter Tryz.func14,Tryz.ntmps14
  go_wp2_with (first
    | (go_at_call 35;(with_reducible refine (HMAY.out _ (MM.Far.refl _ _)).mono ?_);rintro e w1 ⟨rfl,hF1⟩;have HF1:=Lib.hid hF1;clear hF1)
    | (go_at_call 36;(with_reducible refine (HARE.out _ HF1.out).mono ?_);rintro e w2 ⟨rfl,hF2⟩;have HF2:=Lib.hid (HF1.out.trans hF2 (by simp));clear hF2)
    | (go_at_call 37;(with_reducible refine (HDEF.out _ HF2.out).mono ?_);rintro e w3 ⟨mb,rfl,hM3,hmb3,hF3⟩;have HF3:=Lib.hid (HF2.out.trans hF3 (by simp));have HM3:=Lib.hid hM3;have HMB3:=Lib.hid (show w.heap.size≤mb by have:=HF2.out.size;omega);clear hF3 hM3 hmb3))
  obtain ⟨q,hq⟩:∃ q,w3.heap.size=q:=⟨_,rfl⟩
  have hgl:g < w.heap.size:=HN.out.lt g (by simp);have hS0:=Sy.start (dv:=.slice DA n dc) (lv:=.slice FA m fc) (HF0.out.trans HF3.out (by simp)) (HN.out.nil HF3.out) HG.out HM3.out (by have:=HMB3.out;omega);have HFS:Hid (MM.Far [] w (w3.alloc (.cells (resL (.slice DA n dc) (.slice FA m fc) g mb).toArray 101))):=Lib.hid (HF3.out.alloc _);have HQ:Hid (w.heap.size≤q):=Lib.hid (by have:=HF3.out.size;omega);rw [hq] at hS0;rw [hq];have HSY:=Lib.hid hS0;rw [show w3.alloc (.cells #[.slice DA n dc,.slice FA m fc,.pointer (some ⟨g,0,none⟩),.map (some mb),.int .i64 0,.slice none 0 0,.map none,.slice none 0 0,.slice none 0 0,.slice none 0 0] 101)=w3.alloc (.cells (resL (.slice DA n dc) (.slice FA m fc) g mb).toArray 101) from rfl];generalize w3.alloc (.cells (resL (.slice DA n dc) (.slice FA m fc) g mb).toArray 101)=wS at *;have H0:Hid (ScI w0 wS [q,g] q g (.slice DA n dc) (.slice FA m fc) (.map (some mb)) (cx ns fs) K ts X 0 wS):=Lib.hid ⟨_,_,_,_,_,[],[],[],0,MM.Far.refl _ _,Yto.refl _ _,HSY.out,HX.out,⟨by simp,by simp,fun o ho=>absurd ho (by simp),fun o ho=>absurd ho (by simp)⟩,Nk.nil K,rfl,by rw [List.drop_zero,Nat.zero_add];exact HF.out⟩;clear HSY hS0 hq HF
  go_loopw [41] (fun s41 wr=>∃ j:Nat,j≤tn∧s41 = .int .i64 (j:Int)∧Hid (ScI w0 wS [q,g] q g (.slice DA n dc) (.slice FA m fc) (.map (some mb)) (cx ns fs) K ts X j wr)) (fun s41 _=>tn - (intOf s41).toNat)
  case atStart=>exact ⟨0,by omega,rfl,H0⟩
  case round =>
    clear H0;obtain ⟨j,hj,rfl,hI⟩:=hrel;obtain ⟨Z,Y,fv,tv,ov,rs,N,tps,B0,hFw,hZw,hSy,hTo,hFe,hNk,htl,hB⟩:=hI.out;by_cases hlt:j < tn
    · have hjl:j < ts.length:=by rw [HTN.out];exact hlt
      have hD:ts.drop j=ts[j]::ts.drop (j+1):=List.drop_eq_getElem_cons hjl;obtain ⟨b,o,rfl,_,hbl,hcell0⟩:=HT.out j (.int .i64 (ts[j]:Nat)) (by simp [ints,List.getElem?_eq_getElem hjl]);have hbn:b∉[q,g]:=by
        have h1:=HG.out;have h2:=HQ.out;have h3:=HF0.out.size;intro hm;simp at hm
        omega
      have hcell:=(hFw.cell (p:=⟨b,o+j,none⟩) (Nat.lt_of_lt_of_le hbl (HF0.out.trans HFS.out (by simp)).size) hbn).trans (((HF0.out.trans HFS.out (by simp)).cell (p:=⟨b,o+j,none⟩) hbl (by simp)).trans hcell0);have hti:=HG2.out _ (List.getElem_mem hjl);obtain ⟨i,hi⟩:∃ i,ts[j]=i:=⟨_,rfl⟩
      rw [hi] at hcell hD hti;rw [hD,tops_one] at hTo;rw [hD,List.map_cons,List.sum_cons] at hB;have hRes:=resolve_any (i:=i) (m:=F (cx ns fs) i) (X:=oneTop (cx ns fs) N (rs.map (·.1)) tps i) (B:=B0+F (cx ns fs) i) (by omega) (⟨HL.out.gd,HL.out.pt,HL.out.dat,HL.out.frm,HL.out.few,HL.out.fl⟩:Lz w0 ⟨.slice DA n dc,.slice FA m fc,.map (some mb),.nilFunc,.nilFunc,.nilFunc⟩ (cx ns fs) K) hSy hNk hti (go_top HL.out.gd.fw _ _ _ _) (Nat.le_refl _) hFe (by omega);have hhd:=hSy.head;have HTo:=Lib.hid hTo;have HB:=Lib.hid hB;have HZw:=Lib.hid hZw;have HFw:=Lib.hid hFw;have HTL:=Lib.hid htl;have HSub:Hid (∀ b∈Y,b∈Z):=Lib.hid hSy.mc.sub;obtain ⟨wo,rfl⟩:∃ wo,wo=wr:=⟨_,rfl⟩
      cases hO:oneTop (cx ns fs) N (rs.map (·.1)) tps i with
      | error x =>
        rw [hO] at hRes hTo;have HRes:=Lib.hid hRes;have hcode:=(sx_bad HL.out.gd.fw (one_top_bad HL.out.gd.fw hO)).1;have hne:(x.2.1 != 0)=true:=by rw [bne_iff_ne];omega
        have HXe:=Lib.hid hTo;clear hRes hO hTo hI hFw hZw hSy hFe hNk htl hB hD hcode hcell0 hbn hbl hhd HTo;unfold num ptr at HRes
        go_wp2_with (go_at_call 38;(with_reducible refine HRes.out.mono ?_);rintro e w5 ⟨rfl,hF5,Z5,Y5,R5,h5,hZ5,hS5,hsub5⟩;have HF5:=Lib.hid hF5;have HZ5:=Lib.hid hZ5;have HS5:=Lib.hid hS5;have HSub5:=Lib.hid hsub5;clear hF5 hZ5 hS5 hsub5)
        refine bodyPost_ret (v:=.tuple #[.slice none 0 0,.slice none 0 0,.int .i64 x.1,.int .i64 x.2.1]) (by simp [results,Tryz.results14,go_sem]) rfl ?_
        rw [← HXe.out];exact ⟨rfl,far_g HFS.out (far_y HFw.out HZw.out HF5.out (fun b hb _=>hb)) HQ.out,nm_of_sc HS5.out (HZw.out.of HZ5.out HFw.out.size) HSub5.out (fun b hb=>by
          have:=HQ.out;simp at hb
          omega) HFS.out.size⟩
      | ok r =>
        rw [hO] at hRes hTo;have HRes:=Lib.hid hRes;have HLen:=Lib.hid (one_top_len hO);have HXe:Hid (SC.tops (cx ns fs) (ts.drop (j+1)) r.1 r.2.1 r.2.2=X):=Lib.hid hTo;clear hRes hO hTo hI hFw hZw hSy hFe hNk htl hB hD hcell0 hbn hbl hhd HTo;unfold num ptr at HRes
        go_wp2_with (go_at_call 38;(with_reducible refine HRes.out.mono ?_);rintro e w5 ⟨rfl,hF5,Z5,Y5,fv5,tv5,ov5,rs5,hZ5,hS5,hr5,hFe5,hNk5⟩;have HF5:=Lib.hid hF5;have HZ5:=Lib.hid hZ5;have HS5:=Lib.hid hS5;have HR5:=Lib.hid hr5;have HFe5:=Lib.hid hFe5;have HNk5:=Lib.hid hNk5;clear hF5 hZ5 hS5 hr5 hFe5 hNk5)
        go_roundw
        case rel =>
          refine ⟨j+1,by omega,by go_num,Lib.hid ⟨Z5,Y5,fv5,tv5,ov5,rs5,r.1,r.2.2,B0+F (cx ns fs) i,far_y HFw.out HZw.out HF5.out (fun b hb _=>hb),HZw.out.of HZ5.out HFw.out.size,HS5.out,?_,?_,HNk5.out,?_,?_⟩⟩
          · rw [HR5.out];exact HXe.out
          · rw [HR5.out];exact HFe5.out
          · rw [← HTL.out];exact HLen.out
          · have h1:=HB.out;omega
        case measure=>simp [intOf];omega
    · obtain rfl:j=tn:=by omega
      rw [List.drop_eq_nil_of_le (by rw [HTN.out];exact Nat.le_refl _)] at hTo;have hTo:Except.ok (N,rs.map (·.1),tps)=X:=hTo;obtain ⟨bv,im,hh⟩:=hSy.head;have x7:=hh.at (i:=7) rfl;have x8:=hh.at (i:=8) rfl;have HSy:=Lib.hid hSy;have HZw:=Lib.hid hZw;have HFw:=Lib.hid hFw;have HTo:=Lib.hid hTo;clear hI hFw hZw hSy hTo hFe hNk htl hB hh
      go_wp2_with (fail)
      go_quiet (fail)
      go_wp2;refine bodyPost_ret (v:=.tuple #[fv,tv,.int .i64 0,.int .i64 0]) (by simp [results,Tryz.results14,go_sem]) rfl ?_
      rw [← HTo.out];refine ⟨fv,tv,rs,rfl,far_g HFS.out (HFw.out.drewN _) HQ.out,?_,rfl,(HSy.out.to ((MM.Far.refl [] wr).drewN _)).mc.row,?_⟩
      · exact nm_of_sc (HSy.out.to ((MM.Far.refl [] wr).drewN _)).sc HZw.out HSy.out.mc.sub (fun b hb=>by
          have:=HQ.out;simp at hb
          omega) HFS.out.size
      · exact kin_end (HSy.out.to ((MM.Far.refl [] wr).drewN _)).mc.kin
end SM
end Go.Proofs.YtkcgbhlnkfogeaaGreatDoor
