/-
  Several texts in one: ScoS3,ScoS4,ScoS5.
-/
import Derived.Test.YtodjaabcjojlkaaDoorQScoC8
import Derived.Test.YtodjaabcjojlkaaDoorQScoS2
import Derived.Test.YtodjaabcjojlkaaDoorQScoM5
import Derived.Test.YtodjaabcjojlkaaDoorQScoFm
import Derived.Deep.QuietTactic
import Derived.BigQuiet
namespace Go.Proofs.YtodjaabcjojlkaaDoor
open Go.RowKit
set_option linter.unusedVariables false
namespace SM
open LX RW6 EX SC
open EW (Sl Bx ptr num strs)
theorem own_take (fs:List Fm) (k:Nat) (h:k < fs.length) (s:ByteArray):(ownN (fs.take (k+1))).count s=(ownN (fs.take k)).count s+(if fs[k].kind=9∧fs[k].s=s then 1 else 0):=by
  rw [List.take_succ_eq_append_getElem h];unfold ownN;rw [List.filter_append,List.map_append,List.count_append];congr 1
  by_cases h9:fs[k].kind=9
  · rw [List.filter_cons_of_pos (by simpa using h9)];simp only [List.filter_nil,List.map_cons,List.map_nil,List.count_cons,List.count_nil,Nat.zero_add,beq_iff_eq]
    by_cases e:fs[k].s=s
    · rw [if_pos e,if_pos ⟨h9,e⟩]
    · rw [if_neg e,if_neg (fun c=>e c.2)]
  · rw [List.filter_cons_of_neg (by simpa using h9),if_neg (fun c=>h9 c.1)];rfl
set_option maxHeartbeats 4000000 in
set_option maxRecDepth 20000 in
theorem defined_any {w:World} {A:Option Addr} {n c:Nat} {fs:List Fm} (hF:FmS w A fs) (hn:fs.length=n) (hn2:n≤100000) (hk:∀ f∈fs,0≤f.kind∧f.kind≤255) :
    Calls Tryd.prog 19 #[.slice A n c] w fun e w'=>∃ mb,e = .returned (.map (some mb))∧MapN w' mb (fun s=>(ownN fs).count s)∧w.heap.size≤mb∧MM.Far [] w w':=by
  have HF:=Lib.hid hF;have HN:=Lib.hid hn;have HK:=Lib.hid hk;clear hF hn hk;have hmm:=@run_makeMap Tryd.prog;go_enter Tryd.func19,Tryd.ntmps19
  go_wp2;obtain ⟨mb,hmb⟩:∃ mb,w.heap.size=mb:=⟨_,rfl⟩
  have HMB:=Lib.hid hmb;have H0:Hid (MapN (w.alloc (.map #[] 0)) mb (fun s=>(ownN (fs.take 0)).count s)∧MM.Far [] w (w.alloc (.map #[] 0))):=Lib.hid ⟨hmb ▸ MapN.new w,(MM.Far.refl [] w).alloc _⟩;rw [hmb];clear hmb
  go_loopw [9] (fun s9 wr=>∃ k:Nat,k≤n∧s9 = .int .i64 (k:Int)∧Hid (MapN wr mb (fun s=>(ownN (fs.take k)).count s)∧MM.Far [] w wr)) (fun s9 _=>n - (intOf s9).toNat)
  case atStart=>exact ⟨0,by omega,rfl,H0⟩
  case round =>
    clear H0;obtain ⟨k,hk,rfl,hH⟩:=hrel;by_cases hlt:k < n
    · have hkl:k < fs.length:=by rw [HN.out];exact hlt
      obtain ⟨b,o,PA,pc,LA,lc,rfl,hb,c0,c1,c2,c3,c4,c5,c6,c7,hP,hI⟩:=HF.out.far hH.out.2 k hkl;have HOT:=Lib.hid (own_take fs k hkl);have hk255:=HK.out _ (List.getElem_mem hkl);have hcl:(ownN (fs.take k)).count fs[k].s≤k:=by
        refine Nat.le_trans List.count_le_length ?_
        unfold ownN;rw [List.length_map];exact Nat.le_trans (List.length_filter_le _ _) (by rw [List.length_take];omega)
      clear hP hI hb;generalize fs[k]=f at *;obtain ⟨fk,fa,fn,fS,fp,fl⟩:=f;simp only at c0 c1 c2 c3 c4 c5 c6 c7 HOT hk255 hcl
      obtain ⟨bx,hbx⟩:∃ bx,wr.heap.size=bx:=⟨_,rfl⟩
      have HBX:=Lib.hid (hbx ▸ MM.Row.new wr 33 [.int .u8 fk,.int .i64 fa,.int .i64 fn,.int .i64 0,.string fS,.slice PA fp.length pc,.int .u64 0,.slice LA fl.length lc]);have hM2:=hH.out.1.far ((MM.Far.refl [] wr).alloc (.cells #[.int .u8 fk,.int .i64 fa,.int .i64 fn,.int .i64 0,.string fS,.slice PA fp.length pc,.int .u64 0,.slice LA fl.length lc] 33)) (by simp);have HF2:=Lib.hid (hH.out.2.alloc (.cells #[.int .u8 fk,.int .i64 fa,.int .i64 fn,.int .i64 0,.string fS,.slice PA fp.length pc,.int .u64 0,.slice LA fl.length lc] 33));have HM2:=Lib.hid hM2;clear hH hM2
      go_upto_region 5 with (fail)
      rw [show wr.alloc (.cells [Value.int .u8 fk,.int .i64 fa,.int .i64 fn,.int .i64 0,.string fS,.slice PA fp.length pc,.int .u64 0,.slice LA fl.length lc].toArray 33)=wr.alloc (.cells #[.int .u8 fk,.int .i64 fa,.int .i64 fn,.int .i64 0,.string fS,.slice PA fp.length pc,.int .u64 0,.slice LA fl.length lc] 33) from rfl] at HBX;generalize wr.alloc (.cells #[.int .u8 fk,.int .i64 fa,.int .i64 fn,.int .i64 0,.string fS,.slice PA fp.length pc,.int .u64 0,.slice LA fl.length lc] 33)=W at *;clear c0 c1 c2 c3 c4 c5 c6 c7 hbx;have z0:=HBX.out.at (i:=0) rfl;have z4:=HBX.out.at (i:=4) rfl;by_cases h9:fk=9
      · subst h9;have hlook:=HM2.out.look fS;obtain ⟨w3,hup,hset,hfar⟩:=HM2.out.up fS ((ownN (fs.take k)).count fS+1);rw [show ((((ownN (fs.take k)).count fS+1:Nat)):Int)=((ownN (fs.take k)).count fS:Int)+1 by omega] at hup;have HSet:Hid (MapN w3 mb (fun s=>(ownN (fs.take (k+1))).count s)):=Lib.hid (by
          have e:(fun x=>if x=fS then (ownN (fs.take k)).count fS+1 else (ownN (fs.take k)).count x)=(fun s=>(ownN (fs.take (k+1))).count s):=by
            funext x
            rw [HOT.out x];by_cases e:x=fS
            · subst e;simp
            · rw [if_neg e,if_neg (fun c=>e c.2.symm)];rfl
          rw [← e];exact hset)
        have HFar:=Lib.hid hfar;generalize (ownN (fs.take k)).count fS=ct at *;clear hset hfar HOT;go_wp2;go_roundw
        case rel=>exact ⟨k+1,by omega,by go_num,Lib.hid ⟨HSet.out,HF2.out.trans HFar.out (fun b hb hl=>by have:=HMB.out;rw [List.mem_singleton.1 hb] at hl;omega)⟩⟩
        case measure=>simp [intOf];omega
      · have h9b:(fk == 9)=false:=by simpa using h9
        have HSet:Hid (MapN W mb (fun s=>(ownN (fs.take (k+1))).count s)):=Lib.hid (by
          have e:(fun s=>(ownN (fs.take k)).count s)=(fun s=>(ownN (fs.take (k+1))).count s):=by
            funext x
            rw [HOT.out x,if_neg (fun c=>h9 c.1)];rfl
          rw [← e];exact HM2.out)
        clear HOT;go_wp2;go_roundw
        case rel=>exact ⟨k+1,by omega,by go_num,Lib.hid ⟨HSet.out,HF2.out⟩⟩
        case measure=>simp [intOf];omega
    · obtain rfl:k=n:=by omega
      go_wp2;go_ret
      have h1:=hH.out.1;rw [List.take_of_length_le (by rw [HN.out];exact Nat.le_refl _)] at h1;exact ⟨mb,rfl,h1,by have:=HMB.out;omega,hH.out.2⟩
end SM
end Go.Proofs.YtodjaabcjojlkaaDoor
namespace Go.Proofs.YtodjaabcjojlkaaDoor
open Go.RowKit
set_option linter.unusedVariables false
namespace SM
open LX SX RW6 EX SC
open EW (Sl Bx ptr num strs)
open RM6 (Kin)
def resL (dv lv:Value) (g mb:Nat):List Value:=[dv,lv,ptr g,.map (some mb),.int .i64 0,.slice none 0 0,.map none,.slice none 0 0,.slice none 0 0,.slice none 0 0]
theorem Sy.start {w0 w:World} {g mb:Nat} {dv lv:Value} {own:ByteArray→Nat} (f:MM.Far [] w0 w) (hN:NW.Nm w g [g] [] (.map none) (.slice none 0 0)) (hg:w0.heap.size≤g) (hM:MapN w mb own) (hgm:g≠mb) :
    Sy w0 (w.alloc (.cells (resL dv lv g mb).toArray 76)) [w.heap.size,g] [w.heap.size,g] w.heap.size g dv lv (.map (some mb)) own [] [] (.slice none 0 0) (.slice none 0 0) (.slice none 0 0) (.slice none 0 0) [] [] [] []:=by
  have fa:=(MM.Far.refl [] w).alloc (.cells (resL dv lv g mb).toArray 76);have hgl:=hN.lt g (by simp);have hml:=hM.lt;have hsz:(w.alloc (.cells (resL dv lv g mb).toArray 76)).heap.size=w.heap.size+1:=by simp
  have hf0:=f.size;refine ⟨⟨.slice none 0 0,.map none,.map none,.slice none 0 0,[g],?_⟩,?_⟩
  · refine ⟨f.trans fa (by simp),MM.Row.new w _ _,MO.none_ _ _ _ _,.inl ⟨rfl,fun s=>rfl⟩,hN.nil fa,.inr ⟨mb,rfl,hM.far fa (by simp)⟩,fun b hb=>?_,fun b hb=>?_,by simp,fun b hb=>(by simp [Value.ownBlock] at hb),fun b hb=>(by cases hb),fun b hb=>(by simp at hb;simp [hb]),fun b hb=>?_,fun b hb=>?_⟩
    · simp at hb;omega
    · simp at hb;omega
    · injection hb with hb;injection hb with hb;subst hb;refine ⟨fun hm=>?_,by omega⟩
      simp at hm;omega
    · simp at hb
      subst hb;exact ⟨by omega,by simp [Value.ownBlock],by simp⟩
  · refine ⟨MO.none_ _ _ _ _,MO.none_ _ _ _ _,⟨fun k hk=>?_,?_⟩,fun b hb=>?_,fun b hb=>?_,fun b hb=>hb,fun b hb=>(by simp [Value.ownBlock] at hb),fun b hb=>(by simp [Value.ownBlock] at hb),fun k hk b hb=>?_,fun x hx=>absurd hx (by simp)⟩
    · simp [kinsR,kinsZ] at hk
      subst hk;exact MO.none_ _ _ _ _
    · simp [kinsR,kinsZ]
    · simp at hb;omega
    · simp at hb;omega
    · simp [kinsR,kinsZ] at hk
      subst hk;simp [Value.ownBlock] at hb
def oneTop (C:Cx) (N:List ByteArray) (row:List Rf) (tops:List Nat) (i:Nat):Fin:=match sx C [] (.form i) N row with
  | .error e=>.error e
  | .ok (N',row',k)=>.ok (N',row',tops++[k])
theorem go_top {C:Cx} (h:Fw C) (N:List ByteArray) (row:List Rf) (tops:List Nat) (i:Nat):goS C (F C i) N ⟨row,tops,[],[],some (.form i)⟩=some (oneTop C N row tops i):=by
  have:=machS h (wgt C (.form i)) (.form i) (Nat.le_refl _) N row tops [] [] 0 (oneTop C N row tops i) (by
    unfold oneTop;have e:ex C (wgt C (.form i)) [] (.form i) N row=sx C [] (.form i) N row:=rfl;rw [e];cases sx C [] (.form i) N row with
    | error e=>rfl
    | ok x =>
      obtain ⟨N',row',k⟩:=x;show goS C 0 N' (putS row' tops [] k [])=_
      exact goS_none _ _ _ _ _ _ _)
  rw [Nat.zero_add] at this;exact this
theorem tops_one (C:Cx) (N:List ByteArray) (row:List Rf) (t:List Nat) (i:Nat) (l:List Nat):SC.tops C (i::l) N row t=match oneTop C N row t i with
  | .error e=>.error e
  | .ok (N',row',t')=>SC.tops C l N' row' t':=by
  unfold oneTop;rw [SC.tops];cases sx C [] (.form i) N row <;> rfl
theorem one_top_len {C:Cx} {N N':List ByteArray} {row row':List Rf} {t t':List Nat} {i:Nat} (h:oneTop C N row t i = .ok (N',row',t')):t'.length=t.length+1:=by
  unfold oneTop at h;split at h
  · cases h
  · injection h with h;injection h with h1 h2;injection h2 with h2 h3;rw [← h3];simp
theorem one_top_bad {C:Cx} (h:Fw C) {N:List ByteArray} {row:List Rf} {t:List Nat} {i:Nat} {x:Er} (hx:oneTop C N row t i = .error x):sx C [] (.form i) N row = .error x:=by
  unfold oneTop at hx;split at hx
  · rename_i e he;injection hx with hx;rw [he,hx]
  · cases hx
end SM
end Go.Proofs.YtodjaabcjojlkaaDoor
namespace Go.Proofs.YtodjaabcjojlkaaDoor
open Go.RowKit
set_option linter.unusedVariables false
namespace SM
open LX SX RW6 EX SC
open EW (Sl Bx ptr num strs NdR)
open RX (Nd)
open RM6 (Kin)
def NmAt (w w':World) (g:Nat) (N:List ByteArray):Prop:=∃ S mv sv,NW.Nm w' g S N mv sv∧∀ b∈S,b=g∨w.heap.size≤b
def ScpQ (w0 w:World) (g:Nat):Fin→Ending→World→Prop
  | .error x,e,w'=>e = .returned (.tuple #[.slice none 0 0,.slice none 0 0,num x.1,.int .i64 x.2.1])∧MM.Far [g] w w'∧NmAt w w' g x.2.2
  | .ok r,e,w'=>∃ fv tv rs,e = .returned (.tuple #[fv,tv,.int .i64 0,.int .i64 0])∧MM.Far [g] w w'∧NmAt w w' g r.1∧rs.map (·.1)=r.2.1∧w'.ownsRow w0.heap.size 33 8 fv rs.length (rfC rs)∧Kin w' w0.heap.size ((tv,r.2.2)::kinsR rs)
def ScI (w0 wS:World) (Z0:List Nat) (q g:Nat) (dv lv dm:Value) (C:Cx) (K:List ByteArray) (ts:List Nat) (X:Fin) (j:Nat) (wr:World):Prop :=
  ∃ Z Y fv tv ov rs N tps B0,MM.Far Z0 wS wr∧Yto wS Z0 Z∧Sy w0 wr Z Y q g dv lv dm (ownC C) [] N fv tv ov ov rs tps [] []∧SC.tops C (ts.drop j) N (rs.map (·.1)) tps=X∧FewS B0 (rs.map (·.1)) tps []∧Nk K N∧tps.length=j∧B0+((ts.drop j).map (F C)).sum≤900000000
theorem nm_of_sc {w0 wS w':World} {Z0 Z Y:List Nat} {q g:Nat} {h:Hd} {own:ByteArray→Nat} {R:Rws} {N:List ByteArray} (s:Sc w0 w' Y q g h own R N) (hZ:Yto wS Z0 Z) (hs:∀ b∈Y,b∈Z) {w:World} (h0:∀ b∈Z0,b=g∨w.heap.size≤b) (hw:w.heap.size≤wS.heap.size):NmAt w w' g N:=by
  obtain ⟨bv,im,mv,sv,S,s⟩:=s;refine ⟨S,mv,sv,s.nm,fun b hb=>?_⟩
  rcases hZ.new b (hs b (s.ys b hb)) with h1 | h1
  · exact h0 b h1
  · exact .inr (by omega)
theorem far_g {w w1 w2:World} {g q:Nat} (f:MM.Far [] w w1) (k:MM.Far [q,g] w1 w2) (hq:w.heap.size≤q):MM.Far [g] w w2 :=
  (f.mono (by simp)).trans k (fun b hb hl=>by simp at hb ⊢;omega)
theorem kin_end {w:World} {base:Nat} {tv:Value} {tops:List Nat} {rs:List (Rf × Value)} (h:Kin w base ((tv,tops)::(kinsR rs++(kinsZ []++[])))):Kin w base ((tv,tops)::kinsR rs):=by
  simpa [kinsZ] using h
set_option maxHeartbeats 8000000 in
set_option maxRecDepth 20000 in
theorem scope_any {w0 w:World} {DA FA T:Option Addr} {dc fc tc g n m tn:Nat} {ns:List Nd} {fs:List Fm} {ts:List Nat} {K:List ByteArray} {hd:Hd} (L:Lz w0 hd (cx ns fs) K) (hdv:hd.dv = .slice DA n dc) (hlv:hd.lv = .slice FA m fc) (hn:ns.length=n) (hm:fs.length=m) (htn:ts.length=tn)
    (hNd:NdR w0 DA ns) (hFm:FmS w0 FA fs) (hMay:RX.may (ns.map RX.toI)=true) (G:Fms fs ts n) (hT:RdC w0 [] T (ints ts)) (f:MM.Far [] w0 w) (hN:NW.Nm w g [g] [] (.map none) (.slice none 0 0)) (hg:w0.heap.size≤g)
    (hn1:n≤100000) (hm1:m≤100000) (ht1:tn≤99999) (hl:∀ x∈ns,x.l.length≤100000) (hfl:∀ x∈fs,x.l.length≤100000) (hF:(ts.map (F (cx ns fs))).sum≤900000000) :
    Calls Tryd.prog 12 #[.slice DA n dc,.slice FA m fc,.slice T tn tc,ptr g] w (ScpQ w0 w g (SC.scope ns fs ts)):=by
  obtain ⟨dv,lv,dm,fv0,tv0,hv0⟩:=hd;simp only at hdv hlv
  subst hdv hlv;have HMAY:=Lib.hid (fun (wx:World) (fx:MM.Far [] w wx)=>may_yes (ns.map RX.toI) hMay n (by rw [List.length_map,hn]) hn1 (fun x hx=>by
    obtain ⟨y,hy,rfl⟩:=List.mem_map.1 hx;have:=hl y hy;simp only [RX.toI,List.length_map];omega) DA dc wx (NiRow.of_nd ((hNd.far f).far fx).row))
  have HARE:=Lib.hid (fun (wx:World) (fx:MM.Far [] w wx)=>areForms_any (c:=fc) (tc:=tc) ((hFm.far f).far fx) hm hm1 G hfl ((hT.far f (by simp)).far fx (by simp)) htn (by omega) (by omega));have HDEF:=Lib.hid (fun (wx:World) (fx:MM.Far [] w wx)=>defined_any (c:=fc) ((hFm.far f).far fx) hm hm1 (fun x hx=>by
    obtain ⟨k,hk,rfl⟩:=List.getElem_of_mem hx;have:=(goodK_kind (G.good k hk)).1;omega))
  have HL:=Lib.hid L;have HN:=Lib.hid hN;have HG:=Lib.hid hg;have HT:=Lib.hid hT;have HTN:=Lib.hid htn;have HF:=Lib.hid hF;have HM:=Lib.hid hm;have HG2:=Lib.hid G.tlt;have HF0:=Lib.hid f;obtain ⟨X,hX⟩:∃ X,SC.scope ns fs ts=X:=⟨_,rfl⟩
  have HX:=Lib.hid hX;rw [hX];clear L hN hg hT htn hF hm G hNd hFm hMay hl hfl hn hX f;unfold num ptr at *;go_enter Tryd.func12,Tryd.ntmps12
  go_wp2_with (first
    | (go_at_call 17;(with_reducible refine (HMAY.out _ (MM.Far.refl _ _)).mono ?_);rintro e w1 ⟨rfl,hF1⟩;have HF1:=Lib.hid hF1;clear hF1)
    | (go_at_call 18;(with_reducible refine (HARE.out _ HF1.out).mono ?_);rintro e w2 ⟨rfl,hF2⟩;have HF2:=Lib.hid (HF1.out.trans hF2 (by simp));clear hF2)
    | (go_at_call 19;(with_reducible refine (HDEF.out _ HF2.out).mono ?_);rintro e w3 ⟨mb,rfl,hM3,hmb3,hF3⟩;have HF3:=Lib.hid (HF2.out.trans hF3 (by simp));have HM3:=Lib.hid hM3;have HMB3:=Lib.hid (show w.heap.size≤mb by have:=HF2.out.size;omega);clear hF3 hM3 hmb3))
  obtain ⟨q,hq⟩:∃ q,w3.heap.size=q:=⟨_,rfl⟩
  have hgl:g < w.heap.size:=HN.out.lt g (by simp);have hS0:=Sy.start (dv:=.slice DA n dc) (lv:=.slice FA m fc) (HF0.out.trans HF3.out (by simp)) (HN.out.nil HF3.out) HG.out HM3.out (by have:=HMB3.out;omega);have HFS:Hid (MM.Far [] w (w3.alloc (.cells (resL (.slice DA n dc) (.slice FA m fc) g mb).toArray 76))):=Lib.hid (HF3.out.alloc _);have HQ:Hid (w.heap.size≤q):=Lib.hid (by have:=HF3.out.size;omega);rw [hq] at hS0;rw [hq];have HSY:=Lib.hid hS0;rw [show w3.alloc (.cells #[.slice DA n dc,.slice FA m fc,.pointer (some ⟨g,0,none⟩),.map (some mb),.int .i64 0,.slice none 0 0,.map none,.slice none 0 0,.slice none 0 0,.slice none 0 0] 76)=w3.alloc (.cells (resL (.slice DA n dc) (.slice FA m fc) g mb).toArray 76) from rfl];generalize w3.alloc (.cells (resL (.slice DA n dc) (.slice FA m fc) g mb).toArray 76)=wS at *;have H0:Hid (ScI w0 wS [q,g] q g (.slice DA n dc) (.slice FA m fc) (.map (some mb)) (cx ns fs) K ts X 0 wS):=Lib.hid ⟨_,_,_,_,_,[],[],[],0,MM.Far.refl _ _,Yto.refl _ _,HSY.out,HX.out,⟨by simp,by simp,fun o ho=>absurd ho (by simp),fun o ho=>absurd ho (by simp)⟩,Nk.nil K,rfl,by rw [List.drop_zero,Nat.zero_add];exact HF.out⟩;clear HSY hS0 hq HF
  go_loopw [41] (fun s41 wr=>∃ j:Nat,j≤tn∧s41 = .int .i64 (j:Int)∧Hid (ScI w0 wS [q,g] q g (.slice DA n dc) (.slice FA m fc) (.map (some mb)) (cx ns fs) K ts X j wr)) (fun s41 _=>tn - (intOf s41).toNat)
  case atStart=>exact ⟨0,by omega,rfl,H0⟩
  case round =>
    clear H0;obtain ⟨j,hj,rfl,hI⟩:=hrel;obtain ⟨Z,Y,fv,tv,ov,rs,N,tps,B0,hFw,hZw,hSy,hTo,hFe,hNk,htl,hB⟩:=hI.out;by_cases hlt:j < tn
    · have hjl:j < ts.length:=by rw [HTN.out];exact hlt
      have hD:ts.drop j=ts[j]::ts.drop (j+1):=List.drop_eq_getElem_cons hjl;obtain ⟨b,o,rfl,_,hbl,hcell0⟩:=HT.out j (.int .i64 (ts[j]:Nat)) (by simp [ints,List.getElem?_eq_getElem hjl]);have hbn:b∉[q,g]:=by
        have h1:=HG.out;have h2:=HQ.out;have h3:=HF0.out.size;intro hm;simp at hm
        omega
      have hcell:=(hFw.cell (p:=⟨b,o+j,none⟩) (Nat.lt_of_lt_of_le hbl (HF0.out.trans HFS.out (by simp)).size) hbn).trans (((HF0.out.trans HFS.out (by simp)).cell (p:=⟨b,o+j,none⟩) hbl (by simp)).trans hcell0);have hti:=HG2.out _ (List.getElem_mem hjl);obtain ⟨i,hi⟩:∃ i,ts[j]=i:=⟨_,rfl⟩
      rw [hi] at hcell hD hti;rw [hD,tops_one] at hTo;rw [hD,List.map_cons,List.sum_cons] at hB;have hRes:=resolve_any (i:=i) (m:=F (cx ns fs) i) (X:=oneTop (cx ns fs) N (rs.map (·.1)) tps i) (B:=B0+F (cx ns fs) i) (by omega) (⟨HL.out.gd,HL.out.pt,HL.out.dat,HL.out.frm,HL.out.few,HL.out.fl⟩:Lz w0 ⟨.slice DA n dc,.slice FA m fc,.map (some mb),.nilFunc,.nilFunc,.nilFunc⟩ (cx ns fs) K) hSy hNk hti (go_top HL.out.gd.fw _ _ _ _) (Nat.le_refl _) hFe (by omega);have hhd:=hSy.head;have HTo:=Lib.hid hTo;have HB:=Lib.hid hB;have HZw:=Lib.hid hZw;have HFw:=Lib.hid hFw;have HTL:=Lib.hid htl;have HSub:Hid (∀ b∈Y,b∈Z):=Lib.hid hSy.mc.sub;obtain ⟨wo,rfl⟩:∃ wo,wo=wr:=⟨_,rfl⟩
      cases hO:oneTop (cx ns fs) N (rs.map (·.1)) tps i with
      | error x =>
        rw [hO] at hRes hTo;have HRes:=Lib.hid hRes;have hcode:=(sx_bad HL.out.gd.fw (one_top_bad HL.out.gd.fw hO)).1;have hne:(x.2.1 != 0)=true:=by rw [bne_iff_ne];omega
        have HXe:=Lib.hid hTo;clear hRes hO hTo hI hFw hZw hSy hFe hNk htl hB hD hcode hcell0 hbn hbl hhd HTo;unfold num ptr at HRes
        go_wp2_with (go_at_call 20;(with_reducible refine HRes.out.mono ?_);rintro e w5 ⟨rfl,hF5,Z5,Y5,R5,h5,hZ5,hS5,hsub5⟩;have HF5:=Lib.hid hF5;have HZ5:=Lib.hid hZ5;have HS5:=Lib.hid hS5;have HSub5:=Lib.hid hsub5;clear hF5 hZ5 hS5 hsub5)
        refine bodyPost_ret (v:=.tuple #[.slice none 0 0,.slice none 0 0,.int .i64 x.1,.int .i64 x.2.1]) (by simp [results,Tryd.results12,go_sem]) rfl ?_
        rw [← HXe.out];exact ⟨rfl,far_g HFS.out (far_y HFw.out HZw.out HF5.out (fun b hb _=>hb)) HQ.out,nm_of_sc HS5.out (HZw.out.of HZ5.out HFw.out.size) HSub5.out (fun b hb=>by
          have:=HQ.out;simp at hb
          omega) HFS.out.size⟩
      | ok r =>
        rw [hO] at hRes hTo;have HRes:=Lib.hid hRes;have HLen:=Lib.hid (one_top_len hO);have HXe:Hid (SC.tops (cx ns fs) (ts.drop (j+1)) r.1 r.2.1 r.2.2=X):=Lib.hid hTo;clear hRes hO hTo hI hFw hZw hSy hFe hNk htl hB hD hcell0 hbn hbl hhd HTo;unfold num ptr at HRes
        go_wp2_with (go_at_call 20;(with_reducible refine HRes.out.mono ?_);rintro e w5 ⟨rfl,hF5,Z5,Y5,fv5,tv5,ov5,rs5,hZ5,hS5,hr5,hFe5,hNk5⟩;have HF5:=Lib.hid hF5;have HZ5:=Lib.hid hZ5;have HS5:=Lib.hid hS5;have HR5:=Lib.hid hr5;have HFe5:=Lib.hid hFe5;have HNk5:=Lib.hid hNk5;clear hF5 hZ5 hS5 hr5 hFe5 hNk5)
        go_roundw
        case rel =>
          refine ⟨j+1,by omega,by go_num,Lib.hid ⟨Z5,Y5,fv5,tv5,ov5,rs5,r.1,r.2.2,B0+F (cx ns fs) i,far_y HFw.out HZw.out HF5.out (fun b hb _=>hb),HZw.out.of HZ5.out HFw.out.size,HS5.out,?_,?_,HNk5.out,?_,?_⟩⟩
          · rw [HR5.out];exact HXe.out
          · rw [HR5.out];exact HFe5.out
          · rw [← HTL.out];exact HLen.out
          · have h1:=HB.out;omega
        case measure=>simp [intOf];omega
    · obtain rfl:j=tn:=by omega
      rw [List.drop_eq_nil_of_le (by rw [HTN.out];exact Nat.le_refl _)] at hTo;have hTo:Except.ok (N,rs.map (·.1),tps)=X:=hTo;obtain ⟨bv,im,hh⟩:=hSy.head;have x7:=hh.at (i:=7) rfl;have x8:=hh.at (i:=8) rfl;have HSy:=Lib.hid hSy;have HZw:=Lib.hid hZw;have HFw:=Lib.hid hFw;have HTo:=Lib.hid hTo;clear hI hFw hZw hSy hTo hFe hNk htl hB hh
      go_wp2_with (fail)
      go_quiet (fail)
      go_wp2;refine bodyPost_ret (v:=.tuple #[fv,tv,.int .i64 0,.int .i64 0]) (by simp [results,Tryd.results12,go_sem]) rfl ?_
      rw [← HTo.out];refine ⟨fv,tv,rs,rfl,far_g HFS.out (HFw.out.drewN _) HQ.out,?_,rfl,(HSy.out.to ((MM.Far.refl [] wr).drewN _)).mc.row,?_⟩
      · exact nm_of_sc (HSy.out.to ((MM.Far.refl [] wr).drewN _)).sc HZw.out HSy.out.mc.sub (fun b hb=>by
          have:=HQ.out;simp at hb
          omega) HFS.out.size
      · exact kin_end (HSy.out.to ((MM.Far.refl [] wr).drewN _)).mc.kin
end SM
end Go.Proofs.YtodjaabcjojlkaaDoor
