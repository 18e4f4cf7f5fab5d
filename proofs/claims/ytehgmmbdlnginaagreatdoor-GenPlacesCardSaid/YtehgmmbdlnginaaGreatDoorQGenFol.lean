/-
  Contract of layer 12's code: follow,the loop over steps. Conditions: sizes;forms that may be.
-/
import Derived.Test.YtehgmmbdlnginaaGreatDoorQGenFol1
namespace Go.Proofs.YtehgmmbdlnginaaGreatDoor
open Go.RowKit Go.Shelf
set_option linter.unusedVariables false
attribute [local go_sem] Oper.semAt_some
namespace GW
open LX SX RW6 EX KP SC GP
open EW (Sl Bx)
section
variable {base:Nat} {w:World} {q:Nat} {fv bv:Value} {ks:List Value} {ad:List Nat} {s:Gs}
theorem Mg.not_row (h:Mg base w q fv bv ks ad s) {b:Nat} {t:TypeId} {l:List Value} (hr:MM.Row w b t l) (h1:99≠t) (h2:42≠t) (h3:44≠t) (h4:3≠t):b∉Zof q bv ks ad:=by
  intro hm
  rcases mem_Z.1 hm with rfl | hb | ⟨k,hk,hb⟩ | hb
  · exact MM.Row.ne h.head hr h1 rfl
  · exact MM.own_row_ne h.main hr h2 hb
  · obtain ⟨i,hi⟩:=List.getElem?_of_mem hk;have hl:i < s.bs.length:=by rw [← h.klen];exact (List.getElem?_eq_some_iff.1 hi).1
    exact MM.own_row_ne (h.kid i k _ hi (List.getElem?_eq_getElem hl)) hr h3 hb
  · obtain ⟨i,hi⟩:=List.getElem?_of_mem hb;have hl:i < s.bx.length:=by rw [← h.alen];exact (List.getElem?_eq_some_iff.1 hi).1
    exact MM.Row.ne (h.box i b _ hi (List.getElem?_eq_getElem hl)) hr h4 rfl
theorem Mg.not_own (h:Mg base w q fv bv ks ad s) {b2 size n:Nat} {u:Value} {zs:List Value} (ho:w.ownsRow b2 141 size u n zs) {b:Nat} (hu:u.ownBlock=some b):b∉Zof q bv ks ad:=by
  intro hm
  rcases mem_Z.1 hm with rfl | hb2 | ⟨k,hk,hb2⟩ | hb2
  · exact MM.own_row_ne ho h.head (by decide) hu
  · exact MM.own_own_ne ho h.main (by decide) b hu hb2
  · obtain ⟨i,hi⟩:=List.getElem?_of_mem hk;have hl2:i < s.bs.length:=by rw [← h.klen];exact (List.getElem?_eq_some_iff.1 hi).1
    exact MM.own_own_ne ho (h.kid i k _ hi (List.getElem?_eq_getElem hl2)) (by decide) b hu hb2
  · obtain ⟨i,hi⟩:=List.getElem?_of_mem hb2;have hl2:i < s.bx.length:=by rw [← h.alen];exact (List.getElem?_eq_some_iff.1 hi).1
    exact MM.own_row_ne ho (h.box i b _ hi (List.getElem?_eq_getElem hl2)) (by decide) hu
end
theorem IsS.kept {w w':World} {Z:List Nat} {q:Nat} {ad:List Nat} {v:Value} {x:Stp} (h:IsS w Z q ad v x) (hB:∀ b t u,Bx w Z b t u→141≠t→101≠t→Bx w' Z b t u) (hR:∀ b l,MM.Row w b 44 l→b∉Z→MM.Row w' b 44 l∧b∉Z):IsS w' Z q ad v x:=by
  cases x with
  | put b x =>
    obtain ⟨bg,bb,bx,e,h1,h2,h3,h4⟩:=h;exact ⟨bg,bb,bx,e,hB _ _ _ h1 (by decide) (by decide),hB _ _ _ h2 (by decide) (by decide),(hR _ _ h3 h4).1,(hR _ _ h3 h4).2⟩
  | leap b op k =>
    obtain ⟨bg,bb,ba,bo,a,e,h1,h2,h3,h4,h5⟩:=h;exact ⟨bg,bb,ba,bo,a,e,hB _ _ _ h1 (by decide) (by decide),hB _ _ _ h2 (by decide) (by decide),hB _ _ _ h3 (by decide) (by decide),h4,hB _ _ _ h5 (by decide) (by decide)⟩
  | land b k =>
    obtain ⟨bg,bb,ba,a,e,h1,h2,h3,h4⟩:=h;exact ⟨bg,bb,ba,a,e,hB _ _ _ h1 (by decide) (by decide),hB _ _ _ h2 (by decide) (by decide),hB _ _ _ h3 (by decide) (by decide),h4⟩
  | val b i =>
    obtain ⟨bg,bi,bb,e,h1,h2,h3⟩:=h;exact ⟨bg,bi,bb,e,hB _ _ _ h1 (by decide) (by decide),hB _ _ _ h2 (by decide) (by decide),hB _ _ _ h3 (by decide) (by decide)⟩
  | last b i =>
    obtain ⟨bg,bi,bb,e,h1,h2,h3⟩:=h;exact ⟨bg,bi,bb,e,hB _ _ _ h1 (by decide) (by decide),hB _ _ _ h2 (by decide) (by decide),hB _ _ _ h3 (by decide) (by decide)⟩
theorem Iss.turn {w w':World} {Z:List Nat} {q:Nat} {ad:List Nat} {vs:List Value} {xs:List Stp} (h:Iss w Z q ad vs xs) {B b2 size n:Nat} {u u0:Value} {zs:List Value} (ho:w.ownsRow b2 141 size u n zs) (hb:MM.Row w B 101 [u0]) (f:MM.Far (B::u.ownBlock.toList) w w'):Iss w' Z q ad vs xs:=by
  refine ⟨h.1,fun k v x h1 h2=>(h.2 k v x h1 h2).kept (fun b t u hx ht ht2=>⟨hx.row.far f (fun hm=>?_),hx.out⟩) (fun b l hr hx=>⟨hr.far f (fun hm=>?_),hx⟩)⟩
  · rcases List.mem_cons.1 hm with e | hm
    · exact MM.Row.ne hb hx.row ht2 e.symm
    · exact MM.own_row_ne ho hx.row ht (by simpa using hm)
  · rcases List.mem_cons.1 hm with e | hm
    · exact MM.Row.ne hb hr (by decide) e.symm
    · exact MM.own_row_ne ho hr (by decide) (by simpa using hm)
theorem Iss.take {w:World} {Z:List Nat} {q:Nat} {ad:List Nat} {vs:List Value} {xs:List Stp} (h:Iss w Z q ad vs xs) (k:Nat):Iss w Z q ad (vs.take k) (xs.take k):=by
  refine ⟨by simp [h.1],fun j v x h1 h2=>?_⟩
  rw [List.getElem?_take] at h1 h2;split at h1
  · rename_i hj;rw [if_pos hj] at h2;exact h.2 j v x h1 h2
  · cases h1
structure FolS (wS:World) (base q:Nat) (fv:Value) (row:List Rf) (Fin:Gs) (K B k:Nat) (nv:Value) (Ds:List Nat) (W:World) (bv:Value) (ks:List Value) (ad:List Nat) (s:Gs) (vn:List Value) (xsn:List Stp) (wv:Value) (vw:List Value) (ws:List Stp) (d:Nat):Prop where
  mrk:Marks base W Ds
  mg:Mg base W q fv bv ks ad s
  box:MM.Row W B 101 [wv]
  bb:base≤B
  no:W.ownsRow base 141 1 nv vn.length vn
  ni:Iss W (Zof q bv ks ad) q ad vn xsn
  wo:W.ownsRow base 141 1 wv vw.length vw
  wi:Iss W (Zof q bv ks ad) q ad vw ws.reverse
  apart:∀ g,nv.ownBlock=some g→wv.ownBlock≠some g
  far:MM.Far [] wS W
  go:Go row k (xsn++ws) s Fin
  dk:d+k=K
  bs:s.bs.length≤d+1
  ls:∀ b,lenB s.bs b≤d
def FolI (wS:World) (base q:Nat) (fv:Value) (row:List Rf) (Fin:Gs) (K B k:Nat) (nv:Value) (ds:List Deferred) (W:World):Prop :=
  ∃ Ds bv ks ad s vn xsn wv vw ws d,ds=Ds.map mark∧FolS wS base q fv row Fin K B k nv Ds W bv ks ad s vn xsn wv vw ws d
def FolQ (wS:World) (base q:Nat) (fv:Value) (Fin:Gs) (e:Ending) (w':World):Prop:=(∃ v,e = .returned v)∧∃ bv ks ad,Mg base w' q fv bv ks ad Fin∧MM.Far [] wS w'
theorem fas {w:World} {Z:List Nat} {q:Nat} {ad:List Nat} {vs:List Value} {xs:List Stp} (h:Iss w Z q ad vs xs):∃ fs:List Fa,vs=fs.map fvV:=by
  have:∀ (vs:List Value),(∀ v∈vs,∃ f l,v = .func (.func f) #[] l)→∃ fs:List Fa,vs=fs.map fvV:=by
    intro vs;induction vs with
    | nil=>intro _;exact ⟨[],rfl⟩
    | cons v vs ih =>
      intro hv;obtain ⟨f,l,rfl⟩:=hv v (List.mem_cons_self ..);obtain ⟨fs,rfl⟩:=ih (fun x hx=>hv x (List.mem_cons_of_mem _ hx));exact ⟨(f,l)::fs,rfl⟩
  refine this vs (fun v hv=>?_)
  obtain ⟨k,hk⟩:=List.getElem?_of_mem hv;have hl:k < xs.length:=by rw [← h.1];exact (List.getElem?_eq_some_iff.1 hk).1
  exact (h.2 k v _ hk (List.getElem?_eq_getElem hl)).func
theorem own_cut {w:World} {B k c g:Nat} {t:TypeId} {xs:List Value} (h:w.ownsRow B t 1 (.slice (some ⟨g,0,none⟩) (k+1) c) (k+1) xs):w.ownsRow B t 1 (.slice (some ⟨g,0,none⟩) k c) k (xs.take k):=by
  obtain ⟨h1,h2⟩:=h
  rcases h2 with ⟨e,_⟩ | ⟨g',cap,cur,e,hb,hg,hn,hm,hs,ht⟩
  · cases e
  · injection e with e1 e2 e3;injection e1 with e1;injection e1 with e1;subst e1 e3;refine ⟨by rw [List.length_take];omega,.inr ⟨g,c,cur,rfl,hb,hg,by omega,hm,hs,?_⟩⟩
    rw [← ht,List.take_take];congr 1
    omega
set_option maxRecDepth 100000 in
set_option maxHeartbeats 8000000 in
theorem follow_any (wS:World) {base q:Nat} {fv:Value} {row:List Rf} {Fin:Gs} {K:Nat} (hbase:base=wS.heap.size) (hFr:Fr wS [] fv row) (hl:∀ i,(rfAt row i).l.length≤100000) (hK:K≤10000000000) {w:World} {bv:Value} {ks:List Value} {ad:List Nat} {s:Gs} {A:Option Addr} {m c:Nat} {vn:List Value} {xsn:List Stp}
    (hM:Mg base w q fv bv ks ad s) (hO:w.ownsRow base 141 1 (.slice A m c) m vn) (hI:Iss w (Zof q bv ks ad) q ad vn xsn) (hF:MM.Far [] wS w) (hG:Go row K xsn s Fin) (hb:s.bs.length≤1) (hls:∀ b,lenB s.bs b≤0) :
    Calls Tryz.prog 36 #[.slice A m c] w (FolQ wS base q fv Fin):=by
  have hmv:vn.length=m:=by have:=hO.1;omega
  have F1:=(MM.Far.refl [] w).alloc (.cells #[.slice none 0 0] 101);have hsz:=hF.size;have HI0:Hid (FolI wS base q fv row Fin K w.heap.size K (.slice A m c) [] (w.alloc (.cells #[.slice none 0 0] 101))):=Lib.hid
    ⟨[],bv,ks,ad,s,vn,xsn,.slice none 0 0,[],[],0,rfl,⟨List.nodup_nil,(fun D hD=>by cases hD),(fun D hD=>by cases hD)⟩,hM.far F1 (by simp),MM.Row.new w _ [.slice none 0 0],by omega,by rw [hmv];exact MM.own_far hO F1 (by simp),hI.far F1 (by simp),MO.none_ _ _ _ _,Iss.nil _ _ _ _,(fun g hg hc=>by simp [Value.ownBlock] at hc),hF.trans F1 (by simp),by rw [List.append_nil];exact hG,by omega,hb,hls⟩
  have HFR:=Lib.hid hFr;have HL:=Lib.hid hl;have HBASE:=Lib.hid hbase;clear hM hO hI hF hG hb hls hmv F1 hFr hl hbase hsz;refine (callsIn_wide (n:=3)).1 ?_
  refine callsIn_of_wp_marks Tryz.func36 rfl trivial ?_ rfl
  simp only [Tryz.ntmps36,List.size_toArray,List.length_cons,List.length_nil,Nat.reduceAdd,Nat.reduceSub,Array.replicate_succ,Array.replicate_zero,List.push_toArray,List.append_toArray,List.nil_append,List.cons_append]
  gi_wp2
  obtain ⟨B,hB⟩:∃ B,w.heap.size=B:=⟨_,rfl⟩
  rw [hB] at HI0 ⊢;clear hB;refine wpIn_loop_ghost (fun k a W=>∃ u4 u5 u6 u7 u8 u9 u10 u11 u12 u13 u14 u15 u16 u17 u18 u19 u20 u21 u22 u23 u24 u25 u26 u27 u28 u29 nv ds,a={ tmps:=#[nv,undef,ptr B,undef,u4,u5,u6,u7,u8,u9,u10,u11,u12,u13,u14,u15,u16,u17,u18,u19,u20,u21,u22,u23,u24,u25,u26,u27,u28,u29],defers:=ds }∧FolI wS base q fv row Fin K B k nv ds W) K ?start ?round
  case start=>exact ⟨_,_,_,_,_,_,_,_,_,_,_,_,_,_,_,_,_,_,_,_,_,_,_,_,_,_,_,_,rfl,HI0.out⟩
  case round =>
    rintro k _ wr ⟨u4,u5,u6,u7,u8,u9,u10,u11,u12,u13,u14,u15,u16,u17,u18,u19,u20,u21,u22,u23,u24,u25,u26,u27,u28,u29,nv,ds,rfl,hFol⟩;obtain ⟨Ds,bv,ks,ad,s,vn,xsn,wv,vw,ws,d,rfl,h⟩:=hFol;clear HI0;obtain ⟨fs,rfl⟩:=fas h.ni;obtain ⟨n,hn⟩:∃ n,fs.length=n:=⟨_,rfl⟩
    have hno:=h.no;rw [List.length_map,hn] at hno;obtain ⟨nA,nc,rfl,-,-,-,-,hnn⟩:=MO.form hno;obtain ⟨wA,wc,rfl,-,-,-,-,hwn⟩:=MO.form h.wo;obtain ⟨wn,hwl⟩:∃ wn,vw.length=wn:=⟨_,rfl⟩
    have hwo:=h.wo;rw [hwl] at hwo;have hk1:=h.go.len;rw [List.length_append,← h.ni.1,List.length_map,hn] at hk1;have hwx:vw.length=ws.length:=by rw [h.wi.1,List.length_reverse]
    have hk2:k≤K:=by have:=h.dk;omega
    have hsum:n+wn≤10000000000:=by omega
    have F1:=(MM.Far.refl [] wr).alloc (.cells #[.slice nA n nc] 101);have hbs:=(row_new (w:=wr) 101 [.slice nA n nc] rfl)
    have HH:=Lib.hid h;have HN:=Lib.hid hn;have HWL:=Lib.hid hwl;have HNN:=Lib.hid hnn;have HNO:=Lib.hid hno;have HWO:=Lib.hid hwo;rw [hwl] at HH;clear hnn hwn hno hwo hn hwl hk1 hwx h
    gi_wp2_with (refine ⟨trivial,?_⟩;gi_at_call 73;refine (bk_in Fence.wide _ trivial rfl _ _ _ _).mono ?_;rintro e w' ⟨rfl,rfl⟩)
    have hL:∀ b∈wr.heap.size::(Value.slice nA n nc).ownBlock.toList,b < (wr.alloc (.cells #[.slice nA n nc] 101)).heap.size:=by
      intro b hb;rw [sz_alloc]
      rcases List.mem_cons.1 hb with rfl | hb
      · omega
      · have:=(MM.own_lt HNO.out b (by simpa using hb)).1;omega
    have hLne:∀ b∈wr.heap.size::(Value.slice nA n nc).ownBlock.toList,b≠B∧(Value.slice wA wn wc).ownBlock≠some b:=by
      intro b hb
      rcases List.mem_cons.1 hb with rfl | hb
      · exact ⟨fun e=>by have:=HH.out.box.lt;omega,fun e=>by have:=(MM.own_lt HWO.out _ e).1;omega⟩
      · have hb2:(Value.slice nA n nc).ownBlock=some b:=by simpa using hb
        exact ⟨fun e=>MM.own_row_ne HNO.out HH.out.box (by decide) (e ▸ hb2),HH.out.apart b hb2⟩
    have hxs:∀ k u,fs[k]? = some u→∃ g,nA=some ⟨g,0,none⟩∧g∈wr.heap.size::(Value.slice nA n nc).ownBlock.toList∧(wr.alloc (.cells #[.slice nA n nc] 101)).cell? ⟨g,k,none⟩=some (fvV u):=by
      intro k u hu
      rcases HNN.out with ⟨_,h0,_⟩ | ⟨g,rfl,h3,h4⟩
      · have:=(List.getElem?_eq_some_iff.1 hu).1;have:=HN.out;omega
      · exact ⟨g,rfl,List.mem_cons_of_mem _ (by simp [Value.ownBlock]),far_cell F1 (own_cell HNO.out (by rw [List.getElem?_map,hu];rfl)) h4⟩
    have hw0:WaI (wr.alloc (.cells #[.slice nA n nc] 101)) base B (.slice wA wn wc) wn vw [] (wr.alloc (.cells #[.slice nA n nc] 101)) :=
      ⟨_,HH.out.box.far F1 (by simp),by simpa using MM.own_far HWO.out F1 (by simp),MM.Far.refl _ _,.inl rfl⟩
    refine wpIn_rangeFunc_ownG rfl (by decide) (gf:=115) (lb:=#[ptr wr.heap.size]) rfl trivial (enters_of Tryz.func115 (by kernel_rfl) rfl)
      (bk_stops Fence.wide _ trivial rfl (by decide) wr.heap.size (wr.heap.size::(Value.slice nA n nc).ownBlock.toList) (List.mem_cons_self ..) (wr.alloc (.cells #[.slice nA n nc] 101)) hL nA n nc (by omega) fs HN.out (hbs.at (i:=0) rfl) hxs)
      (fun h k=>h.trans k) (keepB_b hL) (Below.refl _ _) (fun _=>rfl)
      (WaI (wr.alloc (.cells #[.slice nA n nc] 101)) base B (.slice wA wn wc) wn vw) (fun _ _ _=>False) (wa_own _ _ _ _ _ _) (fun _ _ _ _ _ hs _ _=>hs) hw0
      (fun x=>{ tmps:=#[.slice nA n nc,undef,ptr B,undef,fvV x.2,u5,u6,.slice nA n nc,.func (.func 115) #[] #[ptr wr.heap.size],num x.1,fvV x.2,u11,u12,u13,u14,u15,u16,u17,u18,u19,u20,u21,u22,u23,u24,u25,u26,u27,u28,u29],defers:=[] }) ?assign ?body ?done ?stop
    case assign =>
      intro l x W K hK
      gi_wp2
      exact hK
    case stop =>
      rintro D c pre W _ _ h _;exact h.elim
    case body =>
      rintro l pre ⟨xi,xf,xl⟩ W ⟨v,g1,g2,g3,g4⟩ hpl;obtain ⟨vA,vc,rfl,-⟩:=MO.form g2;have c1:=g1.at (i:=0) rfl;have hnb:B∉(Value.slice vA (wn+pre.length) vc).ownBlock.toList:=fun hm=>MM.own_row_ne g2 g1 (by decide) (by simpa using hm)
      have hwW:=g3.size;rw [sz_alloc] at hwW;have hbW:base≤W.heap.size:=by have:=HH.out.far.size;rw [HBASE.out];omega
      have G1:=Lib.hid g1;have G2:=Lib.hid g2;have G3:=Lib.hid g3;have G4:=Lib.hid g4;have HNB:=Lib.hid hnb;have HLN:=Lib.hid hLne;have HLL:=Lib.hid hL;have HW0:=Lib.hid hw0;have hpl2:pre.length≤10000000000:=by omega
      clear g1 g2 g3 g4 hnb hLne hL hw0 hxs hbs F1
      gi_wp2_with (gi_at_builtin
                   refine wpListIn_append _ rfl (.tmp 11) (.tmp 13) 101 rfl base 141 .nilFunc 1 8 steps_slice step_info rfl (by decide) (.slice vA (wn+pre.length) vc) (wn+pre.length) _ rfl (G2.out.alloc _) ⟨W.heap.size,0,none⟩ 1 1 [.func (.func xf) #[] xl] rfl rfl (cell_one_new _ _ _) (by intro u hu;rw [List.mem_singleton] at hu;subst hu;rfl) (by simp only [maxLen];omega) (by omega) (by rw [sz_alloc];omega) ?_
                   intro v2 w2 hv2 hg2 hat2;obtain ⟨A2,k2,rfl,-⟩:=MO.form hv2;have F2:MM.Far (Value.slice vA (wn+pre.length) vc).ownBlock.toList W w2:=far_app0 hg2;have r2:=G1.out.far F2 HNB.out;have e1:=r2.at (i:=0) rfl;have e2:=r2.frozen 0;have R2:=Lib.hid r2;have HV2:=Lib.hid hv2;have HF2:=Lib.hid F2;have HAT2:=Lib.hid hat2;clear hv2 hg2 hat2 F2 r2)
      have hS:=HF2.out.mono (S':=B::(Value.slice vA (wn+pre.length) vc).ownBlock.toList) (fun b hb _=>List.mem_cons_of_mem _ hb);have FS:=hS.setCell (p:=⟨B,0,none⟩) (fun _=>List.mem_cons_self ..) (.slice A2 (wn+pre.length+1) k2);have hcelS:Cel W (B::(Value.slice vA (wn+pre.length) vc).ownBlock.toList):=fun b hb _=>by
        rcases List.mem_cons.1 hb with rfl | hb
        · exact Cel.row G1.out
        · exact Cel.own G2.out (by simpa using hb)
      have hWsz:=FS.size;refine ⟨keepsFrom_far FS hcelS,keepB_far FS (fun b hb=>?_) (fun b hb hm=>?_),.slice A2 (wn+pre.length+1) k2,?_,?_,?_,?_⟩
      · exact Nat.lt_of_lt_of_le (HLL.out b hb) G3.out.size
      · rcases List.mem_cons.1 hm with e | hm
        · exact (HLN.out b hb).1 e
        · have hm2:(Value.slice vA (wn+pre.length) vc).ownBlock=some b:=by simpa using hm
          rcases G4.out with e | ⟨g,e,hg⟩
          · exact (HLN.out b hb).2 (e ▸ hm2)
          · rw [e] at hm2;injection hm2 with hm2;subst hm2;have:=HLL.out g hb;omega
      · exact R2.out.put 0 _
      · have g0:MM.Far [B] w2 (w2.setCell ⟨B,0,none⟩ (.slice A2 (wn+pre.length+1) k2)):=(MM.Far.refl [B] w2).setCell (by simp) _;have:=MM.own_far HV2.out g0 (fun b hb hm=>by rw [List.mem_singleton] at hm;subst hm;exact MM.own_row_ne HV2.out R2.out (by decide) hb);rw [List.length_append,List.length_singleton,List.map_append,← List.append_assoc,← Nat.add_assoc];exact this
      · refine G3.out.trans FS (fun b hb hl2=>?_)
        rcases List.mem_cons.1 hb with e | hb
        · exact e ▸ List.mem_cons_self ..
        · have hm2:(Value.slice vA (wn+pre.length) vc).ownBlock=some b:=by simpa using hb
          rcases G4.out with e | ⟨g,e,hg⟩
          · exact List.mem_cons_of_mem _ (by rw [← e,hm2];simp)
          · rw [e] at hm2;injection hm2 with hm2;omega
      · rcases HAT2.out with e | e
        · rcases G4.out with e2 | ⟨g,e2,hg⟩
          · exact .inl (e.trans e2)
          · exact .inr ⟨g,e.trans e2,hg⟩
        · exact .inr ⟨_,e,Nat.le_trans G3.out.size ((MM.Far.refl [] W).alloc _).size⟩
    case done =>
      rintro D ys W hD rfl ⟨v,g1,g2,g3,g4⟩ hDef;have hWs:∀ b∈B::(Value.slice wA wn wc).ownBlock.toList,b < (wr.alloc (.cells #[.slice nA n nc] 101)).heap.size→b∈B::(Value.slice wA wn wc).ownBlock.toList:=fun b hb _=>hb
      have hcel0:Cel wr (B::(Value.slice wA wn wc).ownBlock.toList):=fun b hb _=>by
        rcases List.mem_cons.1 hb with rfl | hb
        · exact Cel.row HH.out.box
        · exact Cel.own HWO.out (by simpa using hb)
      have FW:MM.Far (B::(Value.slice wA wn wc).ownBlock.toList) wr W:=(F1.mono (fun b hb _=>by cases hb)).trans g3 (fun b hb _=>hb);have hnz:∀ b∈B::(Value.slice wA wn wc).ownBlock.toList,b < wr.heap.size→b∉Zof q bv ks ad:=fun b hb _=>by
        rcases List.mem_cons.1 hb with rfl | hb
        · exact HH.out.mg.not_row HH.out.box (by decide) (by decide) (by decide) (by decide)
        · exact HH.out.mg.not_own HWO.out (by simpa using hb)
      have hlow:∀ b∈B::(Value.slice wA wn wc).ownBlock.toList,base≤b:=fun b hb=>by
        rcases List.mem_cons.1 hb with rfl | hb
        · exact HH.out.bb
        · exact (MM.own_lt HWO.out b (by simpa using hb)).2
      have hWF:MM.Far [] wS W:=HH.out.far.trans FW (fun b hb hl2=>by have:=hlow b hb;rw [HBASE.out] at this;omega);have hni:Iss W (Zof q bv ks ad) q ad (fs.map fvV) xsn:=HH.out.ni.turn HWO.out HH.out.box FW;have hwi:Iss W (Zof q bv ks ad) q ad vw ws.reverse:=HH.out.wi.turn HWO.out HH.out.box FW;have hall:Iss W (Zof q bv ks ad) q ad (vw++(bk fs n).map fun x=>fvV x.2) (xsn++ws).reverse:=by
        have e:((bk fs n).map fun x=>fvV x.2)=(fs.map fvV).reverse:=by
          rw [← HN.out,← List.map_reverse,← bk_all,List.map_map];rfl
        rw [e,List.reverse_append];refine hwi.app ⟨by simp [hni.1],fun k v x h1 h2=>?_⟩
        rw [List.getElem?_reverse' (j:=(fs.map fvV).length - 1 - k) (by have:=(List.getElem?_eq_some_iff.1 h1).1;rw [List.length_reverse] at this;omega)] at h1;rw [List.getElem?_reverse' (j:=xsn.length - 1 - k) (by have:=(List.getElem?_eq_some_iff.1 h2).1;rw [List.length_reverse] at this;omega)] at h2;rw [hni.1] at h1;exact hni.2 _ v x h1 h2
      rw [bk_len] at g2;have hM:=HH.out.mg.far FW hnz;have hmarks:Marks base W (D::Ds):=by
        have h1:=HH.out.mrk.far FW hcel0;rw [sz_alloc] at hD;refine ⟨List.nodup_cons.2 ⟨fun hm=>?_,h1.nd⟩,fun D' hD'=>?_,fun D' hD'=>?_⟩
        · have h2:=HH.out.mrk.at_ D hm;have:=(Array.getElem?_eq_some_iff.1 h2).1;omega
        · rcases List.mem_cons.1 hD' with rfl | hD'
          · have:=HH.out.far.size;rw [HBASE.out];omega
          · exact h1.low D' hD'
        · rcases List.mem_cons.1 hD' with rfl | hD'
          · exact hDef
          · exact h1.at_ D' hD'
      have hgo:=HH.out.go;have hbb:base≤wr.heap.size:=by have:=HH.out.far.size;rw [HBASE.out];exact this
      obtain ⟨T,hT⟩:∃ T,xsn++ws=T:=⟨_,rfl⟩
      rw [hT] at hall hgo;have hTl:wn+n=T.length:=by
        have:=hall.1;rw [List.length_append,List.length_map,bk_len,HWL.out,List.length_reverse] at this;exact this
      clear hT hwi hni FW hnz hlow hWs F1 hbs hL hLne hxs hw0;obtain ⟨tn,htn⟩:∃ tn,wn+n=tn:=⟨_,rfl⟩
      rw [htn] at g2 hTl;obtain ⟨vA,vc,rfl,-,hvc,hvc2,-,hvv⟩:=MO.form g2;have c1:=g1.at (i:=0) rfl;have c2:=g1.frozen 0;have HALL:=Lib.hid hall;have HMARK:=Lib.hid hmarks;have HMW:=Lib.hid hM;have HWF:=Lib.hid hWF;have G1:=Lib.hid g1;have G2:=Lib.hid g2;have HVV:=Lib.hid hvv;have HTL:=Lib.hid hTl;have HGO:=Lib.hid hgo;have HBB:=Lib.hid hbb;have htn2:tn≤10000000000:=by omega
      clear hall hmarks hM hWF g1 g2 hvv hTl hgo hbb htn g3 g4 hDef hcel0
      dsimp only
      cases T with
      | nil =>
        obtain rfl:tn=0:=HTL.out;obtain ⟨rfl,rfl⟩:k=0∧s=Fin:=by
          have:=HGO.out;cases this
          exact ⟨rfl,rfl⟩
        gi_wp2
        have hcel:=HMW.out.cel;show LeavesInM Fence.wide 3 Tryz.prog Tryz.f36 _ (FolQ wS base q fv s) ((D::Ds).map mark) .returning W
        refine leaves_marks (fun w=>results_none rfl _ _ _) (D::Ds) W HMARK.out.nd HMARK.out.at_ (fun w' f=>⟨⟨_,rfl⟩,bv,ks,ad,HMW.out.far f (fun b hb hl2 hm=>?_),HWF.out.trans f (fun b hb hl2=>?_)⟩)
        · obtain ⟨c,t,z,e⟩:=hcel b hm hl2;have:=HMARK.out.at_ b hb;rw [e] at this;cases this
        · have:=HMARK.out.low b hb;rw [HBASE.out] at this;omega
      | cons x r =>
        obtain ⟨k',rfl,hok,hgo2⟩:∃ k',k=k'+1∧okS row x s∧Go row k' ((stp row x s).1++r) (stp row x s).2 Fin:=by
          have:=HGO.out;cases this with
          | step h k=>exact ⟨_,rfl,h,k⟩
        obtain ⟨t',ht'⟩:∃ t',r.length=t':=⟨_,rfl⟩
        have htn:tn=t'+1:=by rw [← ht'];exact HTL.out
        obtain ⟨g,rfl,hgb,hgl⟩:∃ g,vA=some ⟨g,0,none⟩∧base≤g∧g < W.heap.size:=by
          rcases HVV.out with ⟨_,h0,_⟩ | h
          · omega
          · exact h
        obtain ⟨VL,hVL⟩:∃ VL,vw++List.map (fun x=>fvV x.2) (bk fs n)=VL:=⟨_,rfl⟩
        have hG2:=G2.out;have hAL:=HALL.out;rw [hVL] at hG2 hAL;have hVn:VL.length=tn:=by have:=hG2.1;omega
        obtain ⟨lv,hlv⟩:∃ lv,VL[t']? = some lv:=⟨_,List.getElem?_eq_getElem (by omega)⟩
        have hIx:IsS W (Zof q bv ks ad) q ad lv x:=hAL.2 t' lv x hlv (by
          rw [List.reverse_cons,List.getElem?_append_right (by rw [List.length_reverse];omega),List.length_reverse,ht',Nat.sub_self];rfl)
        have c3:=own_cell hG2 hlv;have hIr:Iss W (Zof q bv ks ad) q ad (VL.take t') r.reverse:=by
          have:=hAL.take t';have e:(x::r).reverse.take t'=r.reverse:=by
            rw [List.reverse_cons,List.take_append_of_le_length (by rw [List.length_reverse];omega),List.take_of_length_le (by rw [List.length_reverse];omega)]
          rw [e] at this;exact this
        have hcut:W.ownsRow base 141 1 (.slice (some ⟨g,0,none⟩) t' vc) t' (VL.take t'):=by
          have:=hG2;rw [htn] at this;exact own_cut this
        obtain ⟨W3,hW3⟩:∃ W3,W.setCell ⟨B,0,none⟩ (.slice (some ⟨g,0,none⟩) t' vc)=W3:=⟨_,rfl⟩
        have F3:MM.Far [B] W W3:=by rw [← hW3];exact (MM.Far.refl [B] W).setCell (by simp) _
        have r3:MM.Row W3 B 101 [.slice (some ⟨g,0,none⟩) t' vc]:=by rw [← hW3];exact G1.out.put 0 _
        have hBz:B∉Zof q bv ks ad:=HMW.out.not_row G1.out (by decide) (by decide) (by decide) (by decide);have hM3:Mg base W3 q fv bv ks ad s:=HMW.out.far F3 (fun b hb _=>by rw [List.mem_singleton] at hb;rw [hb];exact hBz);have F3':MM.Far (B::(Value.slice none 0 0).ownBlock.toList) W W3:=F3.mono (fun b hb _=>by rw [List.mem_singleton] at hb;rw [hb];exact List.mem_cons_self ..);have hIr3:=hIr.turn (MO.none_ W base 141 1) G1.out F3';have hIx3:=((Iss.one hIx).turn (MO.none_ W base 141 1) G1.out F3').2 0 lv x rfl rfl;have hcut3:W3.ownsRow base 141 1 (.slice (some ⟨g,0,none⟩) t' vc) t' (VL.take t'):=MM.own_far hcut F3 (fun b hb hm=>by rw [List.mem_singleton] at hm;rw [hm] at hb;exact MM.own_row_ne hcut G1.out (by decide) hb);have hWF3:MM.Far [] wS W3:=HWF.out.trans F3 (fun b hb hl2=>by rw [List.mem_singleton] at hb;have:=HH.out.bb;rw [HBASE.out] at this;omega);have hFr3:Fr W3 (Zof q bv ks ad) fv row:=(HFR.out.more (fun b hb=>.inr (by have:=(hM3.z b hb).2;rw [HBASE.out] at this;exact this))).far hWF3 (by simp);have hb3:base≤W3.heap.size:=by have:=hWF3.size;rw [HBASE.out];exact this
        have hdk:=HH.out.dk;obtain ⟨f,cs,rfl,hcf,hC⟩:=step_call (row:=row) hM3 hb3 hIx3 hFr3 hok (by have:=HH.out.bs;omega) (fun b=>by have:=HH.out.ls b;omega) HL.out;have hsm:=stp_small row x s d HH.out.bs HH.out.ls;have hmk3:=HMARK.out.far F3 (fun b hb _=>by rw [List.mem_singleton] at hb;rw [hb];exact Cel.row G1.out);have hgl3:=Nat.lt_of_lt_of_le hgl F3.size;have i0:(0:Int)≤(t':Int):=by omega
        have i1:(t':Int) < (tn:Int):=by omega
        have i2:(tn:Int) - 1=(t':Int):=by omega
        have i3:((tn:Int) == 0)=false:=by simp;omega
        have i4:(t':Int)≤(vc:Int):=by omega
        have i5:¬ vc=0:=by omega
        unfold maxLen at hvc2;have HC:=Lib.hid hC;have HM3:=Lib.hid hM3;have HR3:=Lib.hid r3;have HIR3:=Lib.hid hIr3;have HCUT3:=Lib.hid hcut3;have HWF3:=Lib.hid hWF3;have HMK3:=Lib.hid hmk3;have HSM:=Lib.hid hsm;have HGO2:=Lib.hid hgo2;have HB3:=Lib.hid hb3;have HGL3:=Lib.hid hgl3;have HVT:Hid ((VL.take t').length=t'):=Lib.hid (by rw [List.length_take];omega);have HW3:=Lib.hid hW3;have HTN:=Lib.hid htn;clear hC hM3 r3 hIr3 hIx3 hcut3 hWF3 hmk3 hsm hgo2 hb3 hgl3 F3 F3' hBz hFr3 hcut hIr hIx hlv hVn hAL hG2 hVL HALL HMARK HMW HWF G1 G2 HVV HTL HGO HBB hok htn ht' hW3 hgl hgb hdk HNO HWO HNN
        gi_wp2_with (fail)
        rw [HW3.out];refine ⟨trivial,(callsIn_wide.2 HC.out).mono ?_⟩
        rintro e w4 ⟨bv',ks',t,v,vs,rfl,h1,h2,h3,h4,h5⟩;have H1:=Lib.hid h1;have H2:=Lib.hid h2;have H3:=Lib.hid h3;have H4:=Lib.hid h4;have H5:=Lib.hid h5;clear h1 h2 h3 h4 h5 HC c1 c2 c3 i0 i1 i2 i3 i4 i5 hcf
        gi_wp2
        have F4:=H4.out;have M3:=HM3.out;have hWF4:MM.Far [] wS w4:=HWF3.out.trans F4 (fun b hb hl2=>by have:=(M3.z b hb).2;rw [HBASE.out] at this;omega);have hb3:=HB3.out;have hr3:=HR3.out;have hvt:=HVT.out;have hsm:=HSM.out;have hdk:=HH.out.dk;refine ⟨k',by omega,_,_,_,_,_,_,_,_,_,_,_,_,_,_,_,_,_,_,_,_,_,_,_,_,_,_,v,(D::Ds).map mark,rfl,D::Ds,bv',ks',ad++t,(stp row x s).2,vs,(stp row x s).1,.slice (some ⟨g,0,none⟩) t' vc,VL.take t',r,d+1,rfl,?_⟩
        refine ⟨HMK3.out.far F4 M3.cel,H1.out,hr3.far F4 (M3.not_row hr3 (by decide) (by decide) (by decide) (by decide)),HH.out.bb,own_mono H2.out hb3,H3.out,?_,?_,?_,hWF4,HGO2.out,by omega,hsm.1,hsm.2⟩
        · rw [hvt];exact MM.own_far HCUT3.out F4 (fun b hb=>M3.not_own HCUT3.out hb)
        · refine (Iss.ads (w:=w4) (Z:=Zof q bv' ks' (ad++t)) (ad:=ad) ?_ t)
          have h0:=HIR3.out;refine ⟨h0.1,fun j a b h1 h2=>(h0.2 j a b h1 h2).keep (fun b t u hb _=>⟨hb.row.far F4 hb.out,fun hm=>?_⟩) (fun b l hr hb=>⟨hr.far F4 hb,fun hm=>?_⟩)⟩
          · rcases H5.out b hm with h | h
            · exact hb.out h
            · have:=hb.row.lt;omega
          · rcases H5.out b hm with h | h
            · exact hb h
            · have:=hr.lt;omega
        · intro g' hg' hc;have h1:=(MM.own_lt H2.out g' hg').2;have h2:=HGL3.out;simp [Value.ownBlock] at hc
          omega
end GW
end Go.Proofs.YtehgmmbdlnginaaGreatDoor
