/-
  Several texts in one: ScoR10,ScoR11.
-/
import Derived.Test.YtehgmmbdlnginaaGreatDoorQScoR9
import Derived.Test.YtehgmmbdlnginaaGreatDoorQScoKd
namespace Go.Proofs.YtehgmmbdlnginaaGreatDoor
open Go.RowKit
set_option linter.unusedVariables false
namespace SR
open LX SX RW6 EX SC SM
open EW (Sl Zx Fr ptr num strs sz_alloc strs_len ints_len NdR)
open RX (Nd)
theorem least_any (k:Int) (hk:k=1∨k=2∨k=3∨k=4∨k=5∨k=6∨k=7∨k=8∨k=9∨k=10) (w:World):Calls Tryz.prog 61 #[.int .u8 k] w fun e w'=>e = .returned (.int .i64 (lst k))∧w=w':=by
  rcases hk with rfl | rfl | rfl | rfl | rfl | rfl | rfl | rfl | rfl | rfl
  all_goals
    go_enter Tryz.func61,Tryz.ntmps61
    go_wp2;go_ret
    exact ⟨rfl,rfl⟩
theorem flag_at {w:World} {g n:Nat} {u:List Nat} {x:Nat} (hr:MM.Row w g 4 (bools (tkU n u))) (hx:x < n) (hxu:x∉u):w.cell? ⟨g,x,none⟩=some (.bool false):=hr.at (by
  unfold bools;rw [List.getElem?_map,tkU_at n _ hx];simp [hxu])
theorem flag_set {w:World} {g n:Nat} {u:List Nat} {x:Nat} (hr:MM.Row w g 4 (bools (tkU n u))) (hx:x < n):MM.Row (w.setCell ⟨g,x,none⟩ (.bool true)) g 4 (bools (tkU n (u++[x]))):=by
  have:=hr.put x (.bool true);rw [← tkU_set n _ hx];unfold bools at this ⊢;rw [List.map_set];exact this
theorem nd_head {u l:List Nat} (h:(u++l).Nodup) {j:Nat} (hj:j < l.length):l[j]∉u++l.take j:=by
  have e4:u++l=(u++l.take j)++(l[j]::l.drop (j+1)):=by
    rw [List.append_assoc,← List.drop_eq_getElem_cons hj,List.take_append_drop]
  rw [e4] at h;have:=(List.nodup_append.1 h).2.2;intro hm;exact this _ hm _ (List.mem_cons_self ..) rfl
def TkI (w:World) (g n:Nat) (u:List Nat) (wr:World):Prop:=MM.Row wr g 4 (bools (tkU n u))∧MM.Far [] w wr
theorem TkI.to {w w1 w2:World} {g n:Nat} {u:List Nat} (h:TkI w g n u w1) (f:MM.Far [] w1 w2):TkI w g n u w2:=⟨h.1.far f (by simp),h.2.trans f (by simp)⟩
theorem TkI.set {w w1:World} {g n:Nat} {u l:List Nat} {j x:Nat} (h:TkI w g n (u++l.take j) w1) (hj:j < l.length) (hx:l[j]=x) (hn:x < n) (hg:w.heap.size≤g):TkI w g n (u++l.take (j+1)) (w1.setCell ⟨g,x,none⟩ (.bool true)):=by
  refine ⟨?_,h.2.setCell (fun hl=>by simp only at hl;omega) _⟩
  rw [List.take_succ_eq_append_getElem hj,hx,← List.append_assoc];exact flag_set h.1 hn
set_option maxHeartbeats 8000000 in
set_option maxRecDepth 20000 in
theorem right_any {w:World} {DA A T:Option Addr} {D dc n c tn tc:Nat} {ns:List Nd} {fs:List Fm} {ts:List Nat} (hMay:Calls Tryz.prog 29 #[.slice DA D dc] w fun e w'=>e = .returned (.bool true)∧MM.Far [] w w') (hF:FmS w A fs) (hn:fs.length=n) (hn2:n≤100000) (G:Fms fs ts D) (hl:∀ f∈fs,f.l.length≤100000) (hT:RdC w [] T (ints ts)) (htn:ts.length=tn) (htl:ts.length≤100000) (hD:D≤1000000) :
    Calls Tryz.prog 31 #[.slice DA D dc,.slice A n c,.slice T tn tc] w fun e w'=>e = .returned (.bool true)∧MM.Far [] w w':=by
  have HMAY:=Lib.hid hMay;have HF:=Lib.hid hF;have HN:=Lib.hid hn;have HG:=Lib.hid G;have HL:=Lib.hid hl;have HT:=Lib.hid hT;have HTN:=Lib.hid htn;have HTL:=Lib.hid htl;rw [htn] at htl;clear hF hn G hl hT htn hMay;have hmk:=run_make_row' (P:=Tryz.prog) 94 4 (.bool false) 1 bools_slice bool_info rfl .i64 .i64 n (by omega) (by omega);rw [bool_row] at hmk;go_enter Tryz.func31,Tryz.ntmps31
  go_wp2_with (go_at_call 29;(with_reducible refine HMAY.out.mono ?_);rintro e w1 ⟨rfl,hF1⟩;have HF1:=Lib.hid hF1;clear hF1)
  obtain ⟨g,hg⟩:∃ g,w1.heap.size=g:=⟨_,rfl⟩
  have HG0:Hid (w.heap.size≤g):=Lib.hid (by have:=HF1.out.size;omega);have H0:Hid (TkI w g n ((fs.take 0).flatMap (·.l)) (w1.alloc (.cells (bools (tkU n [])).toArray 4))):=Lib.hid ⟨hg ▸ MM.Row.new w1 4 (bools (tkU n [])),HF1.out.alloc _⟩;rw [hg];clear hmk hg
  go_loopw [9] (fun s9 wr=>∃ k:Nat,k≤n∧s9 = .int .i64 (k:Int)∧Hid (TkI w g n ((fs.take k).flatMap (·.l)) wr)) (fun s9 _=>n - (intOf s9).toNat)
  case atStart=>exact ⟨0,by omega,rfl,H0⟩
  case round =>
    clear H0;obtain ⟨k,hk,rfl,hH⟩:=hrel;by_cases hlt:k < n
    · have hkl:k < fs.length:=by rw [HN.out];exact hlt
      obtain ⟨b,o,PA,pc,LA,lc,rfl,hb,d0,d1,d2,d3,d4,d5,d6,d7,hP,hI⟩:=HF.out k hkl;have HGC:Hid (∀ (wx:World),MM.Far [] w wx→wx.cell? ⟨b,o+k*8,none⟩=some (.int .u8 fs[k].kind)∧wx.cell? ⟨b,o+k*8+2,none⟩=some (.int .i64 fs[k].n)∧wx.cell? ⟨b,o+k*8+7,none⟩=some (.slice LA fs[k].l.length lc)):=Lib.hid (fun wx f=>⟨(f.cell (p:=⟨b,_,none⟩) hb (by simp)).trans d0,(f.cell (p:=⟨b,_,none⟩) hb (by simp)).trans d2,(f.cell (p:=⟨b,_,none⟩) hb (by simp)).trans d7⟩);have HSL:=Lib.hid (hI.more (Z':=[g]) (fun b hb=>.inr (by have:=HG0.out;rw [List.mem_singleton.1 hb];omega)));clear d0 d1 d2 d3 d4 d5 d6 d7 hb hP hI;obtain ⟨hgk,hl1,hl2⟩:=goodK_kind (HG.out.good k hkl);have hquo:=HG.out.quo k hkl;have HFW:=Lib.hid (fun W=>least_any fs[k].kind hgk W);have hnd:=nd_front HG.out.nd k hkl;have hllk:fs[k].l.length≤100000:=HL.out _ (List.getElem_mem hkl);have hltk:=HG.out.lt k hkl;have hkk:=Lib.hid (flat_take fs k hkl);have HFin:=Lib.hid (And.intro hnd hltk);clear hnd hltk hgk;generalize fs[k]=f at *;obtain ⟨fk,fa,fn,fS,fp,fl⟩:=f;simp only at hl1 hl2 hllk hquo HFW HSL HFin hkk HGC
      generalize lst fk=le at *;obtain ⟨m,hm⟩:∃ m,fl.length=m:=⟨_,rfl⟩
      rw [hm] at hl1 hllk HSL HGC;have HM:=Lib.hid hm;have HU:=Lib.hid hH.out;obtain ⟨c0,c2,c7⟩:=HGC.out wr hH.out.2;have hle:¬ (m:Int) < le:=by omega
      have hleb:decide ((m:Int) < le)=false:=by rw [decide_eq_false_iff_not];exact hle
      have hk0:(0:Int)≤(k:Int):=by omega
      have hk1:(k:Int) < (n:Int):=by omega
      have H1:Hid (∀ x,TkI w g n ((fs.take k).flatMap (·.l)++fl.take 0) (wr.drewN x)):=Lib.hid (fun x=>by
        rw [List.take_zero,List.append_nil];exact hH.out.to ((MM.Far.refl [] wr).drewN x))
      have H1':Hid (TkI w g n ((fs.take k).flatMap (·.l)++fl.take 0) wr.drew):=Lib.hid (by
        rw [List.take_zero,List.append_nil];exact hH.out.to (MM.Far.refl [] wr).drew)
      clear hH hm;go_wp2
      go_region_held3 (fun w'=>w'.cell? ⟨b,o+k*8,none⟩=some (.int .u8 fk)∧w'.cell? ⟨b,o+k*8+7,none⟩=some (.slice LA m lc)) (first | (with_reducible assumption) | go_keep) (first
        | (go_at_call 61;(with_reducible refine (HFW.out _).mono ?_);rintro e w' ⟨rfl,rfl⟩;have hk:wr.drew.cell? ⟨b,o+k*8,none⟩=some (.int .u8 fk)∧wr.drew.cell? ⟨b,o+k*8+7,none⟩=some (.slice LA m lc):=⟨c0,c7⟩))
      go_wp2
      go_loopw [10] (fun s10 wx=>∃ j:Nat,j≤m∧s10 = .int .i64 (j:Int)∧Hid (TkI w g n ((fs.take k).flatMap (·.l)++fl.take j) wx)) (fun s10 _=>m - (intOf s10).toNat)
      case atStart=>exact ⟨0,by omega,rfl,H1'⟩
      case round =>
        clear H1 H1' c0 c2 c7;obtain ⟨j,hj,rfl,hJ⟩:=hrel;obtain ⟨wx,rfl⟩:∃ wx,wx=wr:=⟨_,rfl⟩
        obtain ⟨c0,c2,c7⟩:=HGC.out wx hJ.out.2;by_cases hlt2:j < m
        · have hjl:j < fl.length:=by rw [HM.out];exact hlt2
          obtain ⟨g2,o2,rfl,hz,hg2,cc⟩:=rd_sl (HSL.out.far (Z:=[g]) (S:=[]) hJ.out.2 (by simp)) j (.int .i64 ((fl[j]:Nat):Int)) (by unfold ints;rw [List.getElem?_map,List.getElem?_eq_getElem hjl];rfl);have hxk:fl[j] < k:=HFin.out.2 _ (List.getElem_mem hjl);have hxu:=nd_head HFin.out.1 hjl;obtain ⟨x,hx⟩:∃ x,fl[j]=x:=⟨_,rfl⟩
          rw [hx] at cc hxk hxu;have hxn:x < n:=by omega
          have hcell:=flag_at hJ.out.1 hxn hxu;have hfz:=hJ.out.1.frozen x;have HS:=Lib.hid (hJ.out.set hjl hx hxn HG0.out);have hj0:(0:Int)≤(j:Int):=by omega
          have hj1:(j:Int) < (m:Int):=by omega
          have hx0:¬ (x:Int) < 0:=by omega
          have hx1:¬ (k:Int)≤(x:Int):=by omega
          have hx0b:decide ((x:Int) < 0)=false:=by rw [decide_eq_false_iff_not];exact hx0
          have hx1b:decide ((k:Int)≤(x:Int))=false:=by rw [decide_eq_false_iff_not];exact hx1
          have hx2:(0:Int)≤(x:Int):=by omega
          have hx3:(x:Int) < (n:Int):=by omega
          clear hJ hxu hx hz hg2 hjl;go_wp2;go_roundw
          case rel=>exact ⟨j+1,by omega,by go_num,Lib.hid HS.out⟩
          case measure=>simp [intOf];omega
        · obtain rfl:j=m:=by omega
          have HE:Hid (TkI w g n ((fs.take (k+1)).flatMap (·.l)) wx):=Lib.hid (by
            have:=hJ.out;rw [show fl.take j=fl from List.take_of_length_le (by rw [HM.out];exact Nat.le_refl _)] at this;rw [hkk.out];exact this)
          clear hJ;by_cases h3:fk=3
          · obtain ⟨q1,q2⟩:=hquo h3;subst h3;have q3:decide (fn < 0)=false:=by rw [decide_eq_false_iff_not];omega
            have q4:decide ((D:Int)≤fn)=false:=by rw [decide_eq_false_iff_not];omega
            go_wp2;go_roundw
            case rel=>exact ⟨k+1,by omega,by go_num,Lib.hid HE.out⟩
            case measure=>simp [intOf];omega
          · have q3:(fk == 3)=false:=by simpa using h3
            go_wp2;go_roundw
            case rel=>exact ⟨k+1,by omega,by go_num,Lib.hid HE.out⟩
            case measure=>simp [intOf];omega
    · obtain rfl:k=n:=by omega
      have H1:Hid (TkI w g k (fs.flatMap (·.l)++ts.take 0) wr):=Lib.hid (by
        have:=hH.out;rw [List.take_of_length_le (by rw [HN.out];exact Nat.le_refl _)] at this;rw [List.take_zero,List.append_nil];exact this)
      have HTR:=Lib.hid (HT.out.more (Z':=[g]) (fun b hb=>.inr (by have:=HG0.out;rw [List.mem_singleton.1 hb];omega)));clear hH;go_wp2
      go_loopw [12] (fun s12 wx=>∃ j:Nat,j≤tn∧s12 = .int .i64 (j:Int)∧Hid (TkI w g k (fs.flatMap (·.l)++ts.take j) wx)) (fun s12 _=>tn - (intOf s12).toNat)
      case atStart=>exact ⟨0,by omega,rfl,H1⟩
      case round =>
        clear H1;obtain ⟨j,hj,rfl,hJ⟩:=hrel;obtain ⟨wx,rfl⟩:∃ wx,wx=wr:=⟨_,rfl⟩
        by_cases hlt2:j < tn
        · have hjl:j < ts.length:=by rw [HTN.out];exact hlt2
          obtain ⟨g2,o2,rfl,hz,hg2,cc⟩:=(HTR.out.far (S:=[]) hJ.out.2 (by simp)) j (.int .i64 ((ts[j]:Nat):Int)) (by unfold ints;rw [List.getElem?_map,List.getElem?_eq_getElem hjl];rfl);have hxk:ts[j] < k:=by have:=HG.out.tlt _ (List.getElem_mem hjl);have:=HN.out;omega
          have hxu:=nd_head HG.out.nd hjl;obtain ⟨x,hx⟩:∃ x,ts[j]=x:=⟨_,rfl⟩
          rw [hx] at cc hxk hxu;have hcell:=flag_at hJ.out.1 hxk hxu;have hfz:=hJ.out.1.frozen x;have HS:=Lib.hid (hJ.out.set hjl hx hxk HG0.out);have hj0:(0:Int)≤(j:Int):=by omega
          have hj1:(j:Int) < (tn:Int):=by omega
          have hx0:¬ (x:Int) < 0:=by omega
          have hx1:¬ (k:Int)≤(x:Int):=by omega
          have hx0b:decide ((x:Int) < 0)=false:=by rw [decide_eq_false_iff_not];exact hx0
          have hx1b:decide ((k:Int)≤(x:Int))=false:=by rw [decide_eq_false_iff_not];exact hx1
          have hx2:(0:Int)≤(x:Int):=by omega
          have hx3:(x:Int) < (k:Int):=by omega
          clear hJ hxu hx hz hg2 hjl;go_wp2;go_roundw
          case rel=>exact ⟨j+1,by omega,by go_num,Lib.hid HS.out⟩
          case measure=>simp [intOf];omega
        · obtain rfl:j=tn:=by omega
          go_wp2;go_ret
          exact ⟨rfl,hJ.out.2⟩
end SR
end Go.Proofs.YtehgmmbdlnginaaGreatDoor
namespace Go.Proofs.YtehgmmbdlnginaaGreatDoor
open Go.RowKit
set_option linter.unusedVariables false
namespace SR
open LX SX RW6 EX SC SM
open EW (Sl Zx Fr ptr num strs sz_alloc strs_len ints_len NdR own_form cell_far rplace_push)
open RX (Nd)
theorem strs_slice:Tryz.prog.underlying 35=some (.slice 9):=by kernel_rfl
theorem str_info:(Tryz.prog.info? 9).map (fun i=>(i.zero,i.size,i.bytes))=some (some (.string ⟨#[]⟩),1,16):=by kernel_rfl
def OwI (w:World) (q:Nat) (dv lv:Value) (fs:List Fm) (k:Nat) (wr:World):Prop:=∃ ov,MM.Row wr q 92 [dv,lv,ov,.slice none 0 0,.slice none 0 0,.int .i64 (-1),.int .i64 0]∧wr.ownsRow w.heap.size 9 1 ov (ownN (fs.take k)).length (strs (ownN (fs.take k)))∧MM.Far [] w wr
theorem own_take (fs:List Fm) {k:Nat} (h:k < fs.length):ownN (fs.take (k+1))=if fs[k].kind=9 then ownN (fs.take k)++[fs[k].s] else ownN (fs.take k):=by
  unfold ownN;rw [List.take_succ_eq_append_getElem h,List.filter_append,List.map_append];by_cases e:fs[k].kind=9
  · rw [if_pos e];simp [e]
  · rw [if_neg e];simp [e]
theorem own_le (fs:List Fm):(ownN fs).length≤fs.length:=by unfold ownN;rw [List.length_map];exact List.length_filter_le _ _
def DsQ (w0:World):Fin→Ending→World→Prop
  | .error x,e,w=>∃ NA nc,e = .returned (.tuple #[.slice none 0 0,.slice none 0 0,.slice NA x.2.2.length nc,.int .i64 x.1,.int .i64 x.2.1])∧MM.Far [] w0 w∧Sl w [] (.slice NA x.2.2.length nc) (strs x.2.2)
  | .ok r,e,w=>∃ RA rc TA tc NA nc,e = .returned (.tuple #[.slice RA r.2.1.length rc,.slice TA r.2.2.length tc,.slice NA r.1.length nc,.int .i64 0,.int .i64 0])∧MM.Far [] w0 w∧RfS w RA r.2.1∧(r.2.1.length≤rc∧rc≤maxLen)∧Sl w [] (.slice TA r.2.2.length tc) (ints r.2.2)∧Sl w [] (.slice NA r.1.length nc) (strs r.1)
theorem Rs.rows {w0 w:World} {E:List Nat} {q:Nat} {h:Dh} {nv rv:Value} {bad er:Int} {N:List ByteArray} {rs:List (Rf × Value)} (s:Rs w0 w E q h nv rv bad er N rs):∃ A c,rv = .slice A rs.length c∧rs.length≤c∧c≤maxLen∧RfS w A (rs.map (·.1)):=by
  obtain ⟨A,c,rfl,k0,k1,k2,k3,hh⟩:=MO.form s.row;refine ⟨A,c,rfl,k1,k2,fun k hk=>?_⟩
  have hk2:k < rs.length:=by simpa using hk
  rcases hh with ⟨_,hz,_⟩ | ⟨g,rfl,_,hlt⟩
  · omega
  have hl:=s.rd rs[k] (List.getElem_mem hk2);obtain ⟨LA,lc,el,_⟩:=hl.form;have c (j:Nat) (hj:j < 8) (u:Value) (hu:(rfL rs[k])[j]? = some u):w.cell? ⟨g,0+k*8+j,none⟩=some u:=by
    have:=@World.ownsRow.cells w _ _ _ _ _ _ s.row g rfl (k*8+j) u ((rfC_at rs k hk2 j hj).trans hu);rw [MM.head_add] at this;rw [Nat.zero_add];exact this
  have em:(rs.map (·.1))[k]=rs[k].1:=by simp
  rw [em];rw [ints_len] at el;rw [el] at hl;exact ⟨g,0,LA,lc,rfl,hlt,c 0 (by omega) _ rfl,c 1 (by omega) _ rfl,c 2 (by omega) _ rfl,c 3 (by omega) _ rfl,c 4 (by omega) _ rfl,c 5 (by omega) _ rfl,c 6 (by omega) _ rfl,(c 7 (by omega) _ rfl).trans (congrArg some el),hl.more (fun b hb=>by cases hb)⟩
theorem Rs.names {w0 w:World} {E:List Nat} {q:Nat} {h:Dh} {nv rv:Value} {bad er:Int} {N:List ByteArray} {rs:List (Rf × Value)} (s:Rs w0 w E q h nv rv bad er N rs):∃ A c,nv = .slice A N.length c∧Sl w [] (.slice A N.length c) (strs N):=by
  obtain ⟨A,c,e,_⟩:=MO.form s.nam;have:=Sl.own (Z:=[]) s.nam (by simp);rw [e] at this;exact ⟨A,c,e,this⟩
set_option maxHeartbeats 8000000 in
set_option maxRecDepth 20000 in
theorem dscope_any {w:World} {DA A T:Option Addr} {D dc n c tn tc:Nat} {ns:List Nd} {fs:List Fm} {ts:List Nat} {K:List ByteArray} (hgd:Gd (cx ns fs) K) (hN:NdR w DA ns) (hD:ns.length=D) (hfew:∀ x∈ns,x.l.length≤100000) (hMay:Calls Tryz.prog 29 #[.slice DA D dc] w fun e w'=>e = .returned (.bool true)∧MM.Far [] w w') (hF:FmS w A fs) (hn:fs.length=n) (hn2:n≤100000) (G:Fms fs ts D) (hl:∀ f∈fs,f.l.length≤100000)
    (hT:RdC w [] T (ints ts)) (htn:ts.length=tn) (htl:tn≤100000) (hD2:D≤1000000) (hW:(ts.map (F (cx ns fs))).sum≤500000000) :
    Calls Tryz.prog 19 #[.slice DA D dc,.slice A n c,.slice T tn tc,.slice none 0 0] w (DsQ w (SC.scope ns fs ts)):=by
  have HRT:=Lib.hid (right_any (ns:=ns) (c:=c) (tc:=tc) hMay hF hn hn2 G hl hT htn (by omega) hD2);have HFS:=Lib.hid hF;have HN:=Lib.hid hn;have HG:=Lib.hid G;have HT:=Lib.hid hT;have HTN:=Lib.hid htn;have HW:=Lib.hid hW;obtain ⟨X,hX⟩:∃ X,runsS (sq (cx ns fs) []) (ts.map .form) ([],[]) []=X:=⟨_,rfl⟩
  have hS:SC.scope ns fs ts=thn X fun y=>.ok (y.1.1,y.1.2,y.2):=by
    rw [← hX];exact tops_runs _ _ _ _ _
  rw [hS];have HLR:=Lib.hid (fun (ov:Value)=>(⟨hgd,⟨DA,dc,by rw [show (cx ns fs).ns.length=D from hD],hN⟩,⟨A,c,by rw [show (cx ns fs).fs.length=n from hn],hF⟩,fun i=>by
    show (ndAt ns i).l.length≤100000
    by_cases hi:i < ns.length
    · rw [nd_in hi];exact hfew _ (List.getElem_mem hi)
    · rw [nd_out hi];exact Nat.zero_le _,fun i=>by
    show (fmAt fs i).l.length≤100000
    by_cases hi:i < fs.length
    · rw [fm_in hi];exact hl _ (List.getElem_mem hi)
    · rw [fm_out hi];exact Nat.zero_le _,rfl⟩:Lr w ⟨.slice DA D dc,.slice A n c,ov,ownN fs,K⟩ (cx ns fs)))
  have HX:=Lib.hid hX;clear hF hn G hl hT htn hMay hN hgd hX hS hW hfew hD;go_enter Tryz.func19,Tryz.ntmps19
  go_wp2_with (go_at_call 31;(with_reducible refine HRT.out.mono ?_);rintro e w1 ⟨rfl,hF1⟩;have HF1:=Lib.hid hF1;clear hF1)
  obtain ⟨q,hq⟩:∃ q,w1.heap.size=q:=⟨_,rfl⟩
  have HQ0:Hid (w.heap.size≤q):=Lib.hid (by have:=HF1.out.size;omega);have H0:Hid (OwI w q (.slice DA D dc) (.slice A n c) fs 0 (w1.alloc (.cells #[.slice DA D dc,.slice A n c,.slice none 0 0,.slice none 0 0,.slice none 0 0,.int .i64 (-1),.int .i64 0] 92))):=Lib.hid ⟨.slice none 0 0,hq ▸ MM.Row.new w1 92 [.slice DA D dc,.slice A n c,.slice none 0 0,.slice none 0 0,.slice none 0 0,.int .i64 (-1),.int .i64 0],MO.none_ _ _ _ _,HF1.out.alloc _⟩;rw [hq];clear hq
  go_loopw [15] (fun s15 wr=>∃ k:Nat,k≤n∧s15 = .int .i64 (k:Int)∧Hid (OwI w q (.slice DA D dc) (.slice A n c) fs k wr)) (fun s15 _=>n - (intOf s15).toNat)
  case atStart=>exact ⟨0,by omega,rfl,H0⟩
  case round =>
    clear H0;obtain ⟨k,hk,rfl,hH⟩:=hrel;obtain ⟨wo,rfl⟩:∃ wo,wo=wr:=⟨_,rfl⟩
    obtain ⟨ov,hr,ho,hfar⟩:=hH.out;by_cases hlt:k < n
    · have hkl:k < fs.length:=by rw [HN.out];exact hlt
      obtain ⟨b,o,PA,pc,LA,lc,rfl,hb,d0,d1,d2,d3,d4,d5,d6,d7,hP,hI⟩:=HFS.out k hkl;have c0:=(hfar.cell (p:=⟨b,o+k*8,none⟩) hb (by simp)).trans d0;have c4:=(hfar.cell (p:=⟨b,o+k*8+4,none⟩) hb (by simp)).trans d4;have hot:=own_take fs hkl;have HOL:Hid ((ownN (fs.take k)).length≤100000):=Lib.hid (by have:=own_le (fs.take k);rw [List.length_take] at this;omega);have hk0:(0:Int)≤(k:Int):=by omega
      have hk1:(k:Int) < (n:Int):=by omega
      clear d0 d1 d2 d3 d4 d5 d6 d7 hb hP hI;generalize fs[k]=f at *;obtain ⟨fk,fa,fn,fS,fp,fl⟩:=f;simp only at c0 c4 hot
      by_cases h9:fk=9
      · subst h9;rw [if_pos rfl] at hot;obtain ⟨oA,oc,rfl⟩:=own_form w ho;have x2:=hr.at (i:=2) rfl;have f2:=hr.frozen 2;have F1:=(MM.Far.refl [] wo).alloc (.cells #[.string fS] 9);have x2a:=(hr.far F1 (by simp)).at (i:=2) rfl;have f2a:=(hr.far F1 (by simp)).frozen 2;have c4a:=EW.far_cell F1 c4;have HR:=Lib.hid hr;have HO:=Lib.hid ho;have HFA:=Lib.hid hfar;have HOT:=Lib.hid hot;clear F1 hr ho hfar hot hH;generalize ownN (fs.take k)=on at *;go_wp2
        go_region_law (
            refine MO.step_append ?_ (.tmp 47) (.tmp 53) 35 ?_ w.heap.size 9 _ 1 16 strs_slice str_info rfl (by omega) (.slice oA on.length oc) on.length (strs on) ?_ ?_ (some ⟨wo.heap.size,0,none⟩) 1 1 [.string fS] ?_ rfl (fun h=>by cases h) [] ?_ (by intro u hu;rw [List.mem_singleton.1 hu];rfl) ?_ ?_ ?_ ?_
            · rfl
            · rfl
            · rfl
            · exact HO.out.alloc _
            · rfl
            · exact (MM.Src.row (MM.Row.new wo 9 [.string fS]) (by simp) _ (fun j u hu=>hu))
            · have:=HOL.out;simp only [maxLen];omega
            · have:=HOL.out;omega
            · have:=HFA.out.size;simp;omega
            intro v2 w2 hv2 hg2 hat2;obtain ⟨A2,c2x,rfl⟩:=own_form w hv2;have F2:MM.Far (Value.slice oA on.length oc).ownBlock.toList wo w2:=RC6.far_app hg2;have hR2:=HR.out.far F2 (fun hm=>MM.own_row_ne HO.out HR.out (by decide) (by simpa using hm));have d1W:=hR2.at (i:=2) rfl;have e1W:=hR2.frozen 2;have HN2:Hid (OwI w q (.slice DA D dc) (.slice (some ⟨b,o,none⟩) n c) fs (k+1) (w2.setCell ⟨q,2,none⟩ (.slice A2 (on.length+1) c2x))):=Lib.hid (by
              refine ⟨.slice A2 (on.length+1) c2x,hR2.put 2 _,?_,?_⟩
              · rw [HOT.out,List.length_append];have e:strs (on++[fS])=strs on++[.string fS]:=by unfold strs;rw [List.map_append];rfl
                rw [e];exact MM.own_far hv2 (cell_far w2 q 2 _) (off_q hR2 hv2 (by decide))
              · refine ((HFA.out.trans F2 (fun b hb hl=>?_)).trans (cell_far w2 q 2 _) (fun b hb hl=>?_))
                · have:=(MM.own_lt HO.out b (by simpa using hb)).2;omega
                · have:=HQ0.out;have:b=q:=by simpa using hb
                  omega)
            clear hg2 hv2 hat2 F2 hR2)
        all_goals
          go_wp2_with fail
          go_roundw
          case rel=>exact ⟨k+1,by omega,by go_num,Lib.hid HN2.out⟩
          case measure=>simp [intOf];omega
      · rw [if_neg h9] at hot;have h9b:(fk == 9)=false:=by simp [h9]
        have HE:Hid (OwI w q (.slice DA D dc) (.slice (some ⟨b,o,none⟩) n c) fs (k+1) wo):=Lib.hid ⟨ov,hr,by rw [hot];exact ho,hfar⟩;clear hr ho hfar hot hH;go_wp2;go_roundw
        case rel=>exact ⟨k+1,by omega,by go_num,Lib.hid HE.out⟩
        case measure=>simp [intOf];omega
    · obtain rfl:k=n:=by omega
      rw [List.take_of_length_le (by rw [HN.out];exact Nat.le_refl _)] at ho;have HL:=Lib.hid (HLR.out ov);obtain ⟨h,hh⟩:∃ h:Dh,(⟨.slice DA D dc,.slice A k c,ov,ownN fs,K⟩:Dh)=h:=⟨_,rfl⟩
      have HS0:Hid (Sst w wo [] q h (.slice none 0 0) (.ok ([],[])) 0):=Lib.hid (by
        subst hh;exact ⟨.slice none 0 0,-1,0,[],[],⟨hfar,HQ0.out,hr,MO.none_ _ _ _ _,MO.none_ _ _ _ _,ho,(fun x hx=>by cases hx),(fun b hb=>by cases hb)⟩,Nat.le_refl _,Nk.nil _,rfl,rfl,rfl⟩)
      rw [hh] at HL;have HFC:=Lib.hid (fun M=>form_all (w0:=w) (q:=q) (h:=h) HL.out M);have HWO:Hid (w.heap.size≤wo.heap.size):=Lib.hid hfar.size;have HFO:=Lib.hid hfar;clear hr ho hfar hH hh HLR HL;have H0:Hid (∃ st ks,runsS (sq (cx ns fs) []) ((ts.drop 0).map .form) st ks=X∧Col w wo wo [] q h (.slice none 0 0) (.ok (st,ks)) (sumF (cx ns fs) (ts.take 0)) (.slice none 0 0) 0):=Lib.hid ⟨([],[]),[],HX.out,Col.start (X:=.ok ([],[])) HS0.out⟩;clear HS0 HX;go_wp2
      go_loopw [16,17] (fun s16 s17 wx=>∃ (j:Nat) (OA:Option Addr) (oc:Nat),j≤tn∧s16 = .slice OA j oc∧s17 = .int .i64 (j:Int)∧Hid (∃ st ks,runsS (sq (cx ns fs) []) ((ts.drop j).map .form) st ks=X∧Col w wo wx [] q h (.slice none 0 0) (.ok (st,ks)) (sumF (cx ns fs) (ts.take j)) (.slice OA j oc) j)) (fun _ s17 _=>tn - (intOf s17).toNat)
      case atStart=>exact ⟨0,none,0,by omega,rfl,rfl,H0⟩
      case round =>
        clear H0;obtain ⟨j,OA,oc,hj,rfl,rfl,hC0⟩:=hrel;obtain ⟨wx,rfl⟩:∃ wx,wx=wr:=⟨_,rfl⟩
        obtain ⟨st,ks0,hRun,hC⟩:=hC0.out;have HRun:=Lib.hid hRun;have HC:=Lib.hid hC;obtain ⟨rv0,ks1,hks1,ho1,hS1,hF1',hY1⟩:=hC;have hks:ks0=ks1:=hY1 st ks0 rfl;have HFq:=Lib.hid hS1.low.1;have HS1:=Lib.hid hS1;have HO1:=Lib.hid ho1;have HKS1:=Lib.hid hks;have HKL:=Lib.hid hks1;clear hC0 hRun hY1 hks ho1 hks1 hF1' hS1;by_cases hlt2:j < tn
        · have hj3:j < ts.length:=by rw [HTN.out];exact hlt2
          obtain ⟨g,o,rfl,hz,hg,cc⟩:=(HT.out.far (S:=[]) HFq.out (by simp)) j (.int .i64 ((ts[j]:Nat):Int)) (by unfold ints;rw [List.getElem?_map,List.getElem?_eq_getElem hj3];rfl);have hin:ts[j] < fs.length:=HG.out.tlt _ (List.getElem_mem hj3);have hstk:=sumF_take (C:=cx ns fs) hj3;have hsl:=sumF_le (C:=cx ns fs) ts (j+1);have hWs:sumF (cx ns fs) ts≤500000000:=HW.out;have hrun:=HRun.out;rw [List.drop_eq_getElem_cons hj3,List.map_cons,runsS_cons] at hrun;have HCL:=Lib.hid (HC.out.call (R:=sq (cx ns fs) [] (.form ts[j])) (B':=sumF (cx ns fs) (ts.take (j+1))) (f:=32) (args:=#[.pointer (some ⟨q,0,none⟩),.int .i64 ((ts[j]:Nat):Int),.slice none 0 0]) (fun rv1 hFr1 hS=>by
            have h2:=HFC.out (F (cx ns fs) ts[j]) _ _ _ _ _ ts[j] [] (.slice none 0 0) hin (Nat.le_refl _) (by omega) (by simp;omega) hS (Env.nil _ _);refine h2.mono fun e w1 hQ=>hQ.mono (by omega)))
          have hxe:(thn (fstsS (.ok (st,ks0))) (sq (cx ns fs) [] (.form ts[j])))=sq (cx ns fs) [] (.form ts[j]) st:=rfl;generalize ts[j]=i at *;clear hj3 hz hg hin hstk hsl hWs;cases hx:sq (cx ns fs) [] (.form i) st with
          | error a =>
            rw [hx] at hrun;have HRE:Hid (X = .error a):=Lib.hid hrun.symm;have HXX:=Lib.hid hx;clear hrun hx hxe
            go_wp2_with (first
              | (go_at_call 32;(with_reducible refine HCL.out.mono ?_);rintro e w4 ⟨rv2,ks,kk,he,hks,ho,hS,hF4,hsz,hY⟩;(replace he:e = .returned (.int .i64 ((kk:Nat):Int)):=he);subst he
                 have hS':Sst w w4 ((Value.slice OA j oc).ownBlock.toList++[]) q h rv2 (fstS (sq (cx ns fs) [] (.form i) st)) (sumF (cx ns fs) (ts.take (j+1))):=hS;rw [HXX.out] at hS';obtain ⟨nv,bad,er,N,rs,h1,h2,h3,h4,h5,h6,h7⟩:=hS';obtain ⟨NA,nc,rfl,hnm⟩:=h1.names;subst h4 h6 h7;have x3:=h1.head.at (i:=3) rfl;have x5:=h1.head.at (i:=5) rfl;have x6:=h1.head.at (i:=6) rfl;have hb0:(0:Int)≤a.1:=h5;have HF5:=Lib.hid h1.far;have HNM:=Lib.hid hnm;clear hks ho hS hF4 hsz hY h1 h2 h3 h5 hnm))
            obtain ⟨a1,a2,a3⟩:=a;simp only at x3 x5 x6 hb0 HNM
            go_quiet (fail)
            go_wp2;refine bodyPost_ret (v:=.tuple #[.slice none 0 0,.slice none 0 0,.slice NA a3.length nc,.int .i64 a1,.int .i64 a2]) (by simp [results,Tryz.results19,go_sem]) rfl ?_
            rw [HRE.out];exact ⟨NA,nc,rfl,HF5.out.drewN _,HNM.out.far ((MM.Far.refl [] w4).drewN _) (by simp)⟩
          | ok y =>
            obtain ⟨st',k'⟩:=y;rw [hx] at hrun;have HRE:Hid (runsS (sq (cx ns fs) []) ((ts.drop (j+1)).map .form) st' (ks0++[k'])=X):=Lib.hid hrun;have HXX:=Lib.hid hx;clear hrun hx hxe
            go_wp2_with (first
              | (go_at_call 32;(with_reducible refine HCL.out.mono ?_);rintro e w4 ⟨rv2,ks,kk,he,hks,ho,hS,hF4,hsz,hY⟩;(replace he:e = .returned (.int .i64 ((kk:Nat):Int)):=he);subst he
                 have hS':Sst w w4 ((Value.slice OA j oc).ownBlock.toList++[]) q h rv2 (fstS (sq (cx ns fs) [] (.form i) st)) (sumF (cx ns fs) (ts.take (j+1))):=hS;rw [HXX.out] at hS';obtain ⟨nv,er,hh⟩:=Sst.headc hS';have x5:=hh.at (i:=5) rfl;have HKS:=Lib.hid hks;have HOK2:=Lib.hid ho;have HS:=Lib.hid hS;have HF4:=Lib.hid hF4;have HSZ:=Lib.hid hsz;have HY:=Lib.hid hY;clear hks ho hS hF4 hsz hY hh hS')
              | (at_builtin;refine rplace_push (l:=ks) (n:=kk) rfl HOK2.out HSZ.out (by have:=HKS.out;omega) rfl (.tmp 86) (.tmp 88) rfl rfl rfl ?_;intro A3 c3 w5 hO3 hF3 hA3;have HNx:=Lib.hid (Col.next HWO.out HS.out HF4.out HOK2.out HY.out hO3 hF3 hA3);clear hO3 hF3 hA3))
            go_roundw
            case rel =>
              have h:=HNx.out;have e:(thn (Except.ok (st,ks0)) fun y=>thn (sq (cx ns fs) [] (.form i) y.1) fun z=>Except.ok (z.1,y.2++[z.2])) = .ok (st',ks0++[k']):=by
                show (thn (sq (cx ns fs) [] (.form i) st) fun z=>Except.ok (z.1,ks0++[z.2]))=_
                rw [HXX.out];rfl
              rw [HKS.out,e] at h;exact ⟨j+1,A3,c3,by omega,by rw [HKS.out],by go_num,Lib.hid ⟨st',ks0++[k'],HRE.out,h⟩⟩
            case measure=>simp [intOf];omega
        · obtain rfl:j=tn:=by omega
          have hrun:=HRun.out;rw [List.drop_eq_nil_of_le (by rw [HTN.out];exact Nat.le_refl _)] at hrun;have HRE:Hid (.ok (st,ks0)=X):=Lib.hid hrun;have hS1:Sst w wx ((Value.slice OA j oc).ownBlock.toList++[]) q h rv0 (.ok st) (sumF (cx ns fs) (ts.take j)):=HS1.out;obtain ⟨nv,bad,er,N,rs,h1,h2,h3,h4,h5,h6⟩:=hS1;obtain ⟨RA,rc,rfl,hr1,hr2,hr3⟩:=h1.rows;obtain ⟨NA,nc,rfl,hnm⟩:=h1.names;have x3:=h1.head.at (i:=3) rfl;have x4:=h1.head.at (i:=4) rfl;have HTS:=Lib.hid (Sl.own (Z:=[]) HO1.out (by simp));have HR3:=Lib.hid hr3;have HNM:=Lib.hid hnm;have HRC:=Lib.hid (And.intro hr1 hr2);have H5:=Lib.hid h5;have H6:=Lib.hid h6;have HF5:=Lib.hid h1.far;clear hrun h1 h2 h3 h4 h5 h6 hnm hr1 hr2 hr3
          go_wp2_with (fail)
          go_quiet (fail)
          go_wp2;refine bodyPost_ret (v:=.tuple #[.slice RA rs.length rc,.slice OA j oc,.slice NA N.length nc,.int .i64 0,.int .i64 0]) (by simp [results,Tryz.results19,go_sem]) rfl ?_
          rw [← HRE.out];have hk2:j=ks0.length:=by rw [HKS1.out,HKL.out]
          have hN2:N=st.1:=H5.out;have hR2:rs.map (·.1)=st.2:=H6.out;refine ⟨RA,rc,OA,oc,NA,nc,?_,HF5.out.drewN _,?_,?_,?_,?_⟩
          · show _=Ending.returned (.tuple #[.slice RA st.2.length rc,.slice OA ks0.length oc,.slice NA st.1.length nc,.int .i64 0,.int .i64 0])
            rw [← hR2,List.length_map,← hk2,← hN2]
          · show RfS _ RA st.2
            rw [← hR2];exact HR3.out.far ((MM.Far.refl [] wx).drewN _)
          · show st.2.length≤rc∧rc≤maxLen
            rw [← hR2,List.length_map];exact HRC.out
          · show Sl _ [] (.slice OA ks0.length oc) (ints ks0)
            rw [HKS1.out,HKL.out];exact HTS.out.far ((MM.Far.refl [] wx).drewN _) (by simp)
          · show Sl _ [] (.slice NA st.1.length nc) (strs st.1)
            rw [← hN2];exact HNM.out.far ((MM.Far.refl [] wx).drewN _) (by simp)
end SR
end Go.Proofs.YtehgmmbdlnginaaGreatDoor
