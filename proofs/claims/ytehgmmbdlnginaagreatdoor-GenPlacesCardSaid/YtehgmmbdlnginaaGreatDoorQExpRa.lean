/-
  Several texts in one: ExpR1,ExpR2,ExpR3,ExpR4,ExpR5,ExpR6,ExpR7. Each one's own head tells its conditions.
-/
import Derived.Test.YtehgmmbdlnginaaGreatDoorQExpBase
import Derived.Test.YtehgmmbdlnginaaGreatDoorQExpRel
import Derived.Deep.RegionLaw
import Derived.Deep.DeepCutAuto
import Derived.Deep.QuietTactic
import Derived.BigQuiet
import Derived.Deep.LoopGhost
namespace Go.Proofs.YtehgmmbdlnginaaGreatDoor
open Go.RowKit
namespace EW
open LX SX RW6 EX
open RX (Nd)
def Zx (q:Nat) (fv:Value):List Nat:=q::fv.ownBlock.toList
structure Fr (w w':World) (q:Nat) (fv fv':Value):Prop where
  far:MM.Far (Zx q fv) w w'
  new:∀ b∈Zx q fv',b∈Zx q fv∨w.heap.size≤b
structure Rx (w0 w:World) (E:List Nat) (q:Nat) (dv fv:Value) (bad:Int) (rs:List (Fm × Value × Value)):Prop where
  far:MM.Far [] w0 w
  qb:w0.heap.size≤q
  head:MM.Row w q 87 [dv,fv,.int .i64 bad]
  row:w.ownsRow w0.heap.size 39 8 fv rs.length (fmC rs)
  rd:∀ x∈rs,Sl w (E++Zx q fv) x.2.1 (strs x.1.p)∧Sl w (E++Zx q fv) x.2.2 (ints x.1.l)
  ez:∀ b∈E,b < w.heap.size∧w0.heap.size≤b∧b∉Zx q fv
section
variable {w0 w w1 w2:World} {E:List Nat} {q:Nat} {dv fv fv1 fv2:Value} {bad:Int} {rs:List (Fm × Value × Value)}
theorem Fr.refl (w:World) (q:Nat) (fv:Value):Fr w w q fv fv:=⟨MM.Far.refl _ _,fun _ h=>.inl h⟩
theorem Fr.quiet (f:MM.Far [] w w1):Fr w w1 q fv fv:=⟨f.mono (fun b hb _=>by cases hb),fun _ h=>.inl h⟩
theorem Fr.trans (h:Fr w w1 q fv fv1) (k:Fr w1 w2 q fv1 fv2):Fr w w2 q fv fv2 :=
  ⟨h.far.trans k.far (fun b hb hl=>by
    rcases h.new b hb with h1 | h1
    · exact h1
    · omega),fun b hb=>by
    rcases k.new b hb with h1 | h1
    · exact h.new b h1
    · exact .inr (Nat.le_trans h.far.size h1)⟩
theorem Fr.sl {v:Value} {vs:List Value} (h:Fr w w1 q fv fv1) (hs:Sl w (E++Zx q fv) v vs):Sl w1 (E++Zx q fv1) v vs:=by
  have h1:Sl w (Zx q fv++(E++Zx q fv1)) v vs:=hs.more (fun b hb=>by
    rcases List.mem_append.1 hb with h2 | h2
    · exact .inl (List.mem_append_right _ h2)
    · rcases List.mem_append.1 h2 with h2 | h2
      · exact .inl (List.mem_append_left _ h2)
      · exact (h.new b h2).imp (List.mem_append_right _) id)
  exact (h1.far h.far (fun b hb _=>List.mem_append_left _ hb)).more (fun b hb=>.inl (List.mem_append_right _ hb))
theorem Fr.ez (h:Fr w w1 q fv fv1) (he:∀ b∈E,b < w.heap.size∧w0.heap.size≤b∧b∉Zx q fv):∀ b∈E,b < w1.heap.size∧w0.heap.size≤b∧b∉Zx q fv1:=fun b hb=>by
  obtain ⟨h1,h2,h3⟩:=he b hb;have:=h.far.size;refine ⟨by omega,h2,fun hm=>?_⟩
  rcases h.new b hm with h4 | h4
  · exact h3 h4
  · omega
theorem Rx.to (h:Rx w0 w E q dv fv bad rs) (f:MM.Far [] w w1):Rx w0 w1 E q dv fv bad rs :=
  ⟨h.far.trans f (by simp),h.qb,h.head.far f (by simp),MM.own_far h.row f (by simp),fun x hx=>⟨(h.rd x hx).1.far f (by simp),(h.rd x hx).2.far f (by simp)⟩,(Fr.quiet f).ez h.ez⟩
theorem Rx.low (h:Rx w0 w E q dv fv bad rs):∀ b∈Zx q fv,w0.heap.size≤b:=fun b hb=>by
  rcases List.mem_cons.1 hb with rfl | hb
  · exact h.qb
  · exact (MM.own_lt h.row b (by simpa using hb)).2
theorem Rx.z (h:Rx w0 w E q dv fv bad rs):∀ b∈Zx q fv,b < w.heap.size:=fun b hb=>by
  rcases List.mem_cons.1 hb with rfl | hb
  · exact h.head.lt
  · exact (MM.own_lt h.row b (by simpa using hb)).1
theorem off_qr {e:TypeId} {size n base:Nat} {v:Value} {xs vs:List Value} (hH:MM.Row w q 87 vs) (ho:w.ownsRow base e size v n xs) (ht:e≠87):∀ b,v.ownBlock=some b→b∉[q]:=by
  intro b hb hm;have:b=q:=by simpa using hm
  subst this;exact MM.own_row_ne ho hH ht hb
theorem Rx.put {fv':Value} (x:Fm) (pv hx:Value) (h:Rx w0 w E q dv fv bad rs) (hp:Sl w (E++Zx q fv) pv (strs x.p)) (hl:Sl w (E++Zx q fv) hx (ints x.l))
    (hr:w1.ownsRow w0.heap.size 39 8 fv' (rs.length+1) (fmC rs++fmL (x,pv,hx))) (f:MM.Far fv.ownBlock.toList w w1) (hat:fv'.ownBlock=fv.ownBlock∨∃ b,fv'.ownBlock=some b∧w.heap.size≤b) :
    Rx w0 (w1.setCell ⟨q,1,none⟩ fv') E q dv fv' bad (rs++[(x,pv,hx)])∧Fr w (w1.setCell ⟨q,1,none⟩ fv') q fv fv':=by
  have hH:MM.Row w1 q 87 [dv,fv,.int .i64 bad]:=h.head.far f (fun hm=>MM.own_row_ne h.row h.head (by decide) (by simpa using hm));have g:=cell_far w1 q 1 fv';have f2:MM.Far (Zx q fv) w (w1.setCell ⟨q,1,none⟩ fv'):=(f.mono (fun b hb _=>List.mem_cons_of_mem _ hb)).trans g (fun b hb _=>by simp at hb;simp [hb]);have hF:Fr w (w1.setCell ⟨q,1,none⟩ fv') q fv fv':=⟨f2,fun b hb=>by
    rcases List.mem_cons.1 hb with rfl | hb
    · exact .inl (List.mem_cons_self ..)
    · have hb:fv'.ownBlock=some b:=by simpa using hb
      rcases hat with e | ⟨g,e,hg⟩
      · exact .inl (List.mem_cons_of_mem _ (by rw [← e];simpa using hb))
      · rw [e] at hb;injection hb with hb;exact .inr (by omega)⟩
  refine ⟨⟨h.far.trans f2 (fun b hb hl=>by have:=h.low b hb;omega),h.qb,hH.put 1 fv',?_,fun y hy=>?_,hF.ez h.ez⟩,hF⟩
  · rw [List.length_append,fmC_snoc];exact MM.own_far hr g (off_qr hH hr (by decide))
  · rcases List.mem_append.1 hy with hy | hy
    · exact ⟨hF.sl (h.rd y hy).1,hF.sl (h.rd y hy).2⟩
    · have:y=(x,pv,hx):=by simpa using hy
      subst this;exact ⟨hF.sl hp,hF.sl hl⟩
theorem Rx.bad_ (h:Rx w0 w E q dv fv bad rs) (a:Int):Rx w0 (w.setCell ⟨q,2,none⟩ (.int .i64 a)) E q dv fv a rs∧Fr w (w.setCell ⟨q,2,none⟩ (.int .i64 a)) q fv fv:=by
  have g:=cell_far w q 2 (.int .i64 a);have f2:MM.Far (Zx q fv) w (w.setCell ⟨q,2,none⟩ (.int .i64 a)):=g.mono (fun b hb _=>by simp at hb;simp [hb,Zx]);have hF:Fr w (w.setCell ⟨q,2,none⟩ (.int .i64 a)) q fv fv:=⟨f2,fun _ h=>.inl h⟩
  exact ⟨⟨h.far.trans f2 (fun b hb hl=>by have:=h.low b hb;omega),h.qb,h.head.put 2 _,MM.own_far h.row g (off_qr h.head h.row (by decide)),fun y hy=>⟨hF.sl (h.rd y hy).1,hF.sl (h.rd y hy).2⟩,hF.ez h.ez⟩,hF⟩
def PutQ (w0 w:World) (E:List Nat) (q:Nat) (dv fv:Value) (bad:Int) (rs:List (Fm × Value × Value)) (f:Fm) (e:Ending) (w':World):Prop :=
  e = .returned (.int .i64 ((rs.length:Nat):Int))∧∃ fv' x,x.1=f∧Rx w0 w' E q dv fv' bad (rs++[x])∧Fr w w' q fv fv'
set_option maxHeartbeats 4000000 in
set_option maxRecDepth 20000 in
theorem put_any (h:Rx w0 w E q dv fv bad rs) (hn:rs.length≤200000) (f:Fm) {A B:Option Addr} {np c nl d:Nat} (hp:Sl w (E++Zx q fv) (.slice A np c) (strs f.p)) (hl:Sl w (E++Zx q fv) (.slice B nl d) (ints f.l)) :
    Calls Tryz.prog 56 #[ptr q,.agg #[.int .u8 f.kind,.int .i64 f.at_,.int .i64 f.n,.int .i64 0,.string f.s,.slice A np c,.int .u64 0,.slice B nl d]] w (PutQ w0 w E q dv fv bad rs f):=by
  obtain ⟨rA,rc,rfl⟩:=own_form w0 h.row;have hone:=fm_one f A B np c nl d;obtain ⟨OB,hOB⟩:∃ o:Obj,.cells #[.int .u8 f.kind,.int .i64 f.at_,.int .i64 f.n,.int .i64 0,.string f.s,.slice A np c,.int .u64 0,.slice B nl d] 39=o:=⟨_,rfl⟩
  have F0:=(MM.Far.refl [] w).alloc OB;have hD0:=h.to F0;have hp0:=hp.far F0 (by simp);have hl0:=hl.far F0 (by simp);have c1:=hD0.head.at (i:=1) rfl;have f1:=hD0.head.frozen 1;have hB:MM.Row (w.alloc OB) w.heap.size 39 [.int .u8 f.kind,.int .i64 f.at_,.int .i64 f.n,.int .i64 0,.string f.s,.slice A np c,.int .u64 0,.slice B nl d]:=by
    rw [← hOB];exact MM.Row.new w 39 [.int .u8 f.kind,.int .i64 f.at_,.int .i64 f.n,.int .i64 0,.string f.s,.slice A np c,.int .u64 0,.slice B nl d]
  have z0:=hB.at (i:=0) rfl;have z1:=hB.at (i:=1) rfl;have z2:=hB.at (i:=2) rfl;have z3:=hB.at (i:=3) rfl;have z4:=hB.at (i:=4) rfl;have z5:=hB.at (i:=5) rfl;have z6:=hB.at (i:=6) rfl;have z7:=hB.at (i:=7) rfl;have HD:=Lib.hid hD0;have HP:=Lib.hid hp0;have HLL:=Lib.hid hl0;have HF0:=Lib.hid F0;have HONE:=Lib.hid hone;have hbW:=HD.out.far.size;clear h hp hl hB F0 hD0 hp0 hl0 hone;unfold ptr;subst hOB;go_enter Tryz.func56,Tryz.ntmps56
  go_wp2;generalize hWE:w.alloc (.cells #[.int .u8 f.kind,.int .i64 f.at_,.int .i64 f.n,.int .i64 0,.string f.s,.slice A np c,.int .u64 0,.slice B nl d] 39)=W at *;have c1a:=(HD.out.to ((MM.Far.refl [] W).alloc (.cells #[.int .u8 f.kind,.int .i64 f.at_,.int .i64 f.n,.int .i64 0,.string f.s,.slice A np c,.int .u64 0,.slice B nl d] 39))).head.at (i:=1) rfl
  go_cut [] (fun wx=>∃ fv' x,x.1=f∧Rx w0 wx E q dv fv' bad (rs++[x])∧Fr w wx q (.slice rA rs.length rc) fv')
  case first =>
    go_region_law (
      refine MO.step_append ?_ (.tmp 9) (.tmp 11) 23 ?_ w0.heap.size 39 _ 8 104 forms_slice form_info rfl (by omega) (.slice rA rs.length rc) rs.length (fmC rs) ?_ ?_ (some ⟨W.heap.size,0,none⟩) 1 1 (fmL (f,.slice A np c,.slice B nl d)) ?_ rfl (fun h=>by cases h) [] ?_ HONE.out ?_ ?_ ?_ ?_
      · rfl
      · rfl
      · rfl
      · exact HD.out.row.alloc _
      · rfl
      · exact (MM.Src.row (MM.Row.new W 39 (fmL (f,.slice A np c,.slice B nl d))) (by simp) _ (fun j u hu=>hu))
      · simp only [maxLen];omega
      · omega
      · simp;omega
      intro v2 w2 hv2 hg2 hat2;obtain ⟨A2,c2x,rfl⟩:=own_form w0 hv2;have hat3:(Value.slice A2 (rs.length+1) c2x).ownBlock=(Value.slice rA rs.length rc).ownBlock∨∃ b,(Value.slice A2 (rs.length+1) c2x).ownBlock=some b∧W.heap.size≤b:=hat2.imp id (fun e=>⟨_,e,((MM.Far.refl [] W).alloc _).drew.size⟩);have F2:MM.Far (Value.slice rA rs.length rc).ownBlock.toList W w2:=RC6.far_app hg2;have HH2:Hid (MM.Row w2 q 87 _):=Lib.hid (HD.out.head.far F2 (fun hm=>MM.own_row_ne HD.out.row HD.out.head (by decide) (by simpa using hm)));have d1W:=HH2.out.at (i:=1) rfl;have e1W:=HH2.out.frozen 1;have HN:=Lib.hid (HD.out.put (w1:=w2) f (.slice A np c) (.slice B nl d) HP.out HLL.out hv2 F2 hat3);clear hg2 hv2 hat2 hat3 F2)
    all_goals
      go_wp2_with fail
      go_meet
      exact ⟨_,_,rfl,HN.out.1,(Fr.quiet HF0.out).trans HN.out.2⟩
  case rest =>
    obtain ⟨fv',x,hx,hR,hFr⟩:=hcut;obtain ⟨A3,c3,rfl⟩:=own_form w0 hR.row;have HR:=Lib.hid hR;have HFr:=Lib.hid hFr;have HX:=Lib.hid hx;have k1:=hR.head.at (i:=1) rfl;have hlen:(rs++[x]).length=rs.length+1:=by simp
    rw [hlen] at k1;have hw1:IntKind.i64.wrap (rs.length:Int)=(rs.length:Int):=IntWalk.i64_in _ (by omega);have hw2:IntKind.i64.wrap ((rs.length:Int)+1 - 1)=(rs.length:Int):=by rw [Int.add_sub_cancel];exact hw1
    clear hR hFr hx z0 z1 z2 z3 z4 z5 z6 z7 c1 f1 c1a HD HP HLL HF0 HONE hWE hlen;go_wp2;go_ret
    exact ⟨rfl,_,x,HX.out,HR.out,HFr.out⟩
theorem bit_any (h:Rx w0 w E q dv fv bad rs) (hn:rs.length≤200000) (a n:Int) :
    Calls Tryz.prog 57 #[ptr q,num a,num n] w (PutQ w0 w E q dv fv bad rs (frm 2 a n)):=by
  have HC:=Lib.hid (put_any h hn (frm 2 a n) (Sl.nil _ _) (Sl.nil _ _));clear h;unfold frm at HC;simp only at HC
  unfold num ptr at *;go_enter Tryz.func57,Tryz.ntmps57
  go_wp2_with (first
    | (go_at_call 56;(refine HC.out.mono ?_);rintro e w1 ⟨rfl,hQ⟩;have HQ:=Lib.hid hQ;clear hQ))
  go_ret
  exact ⟨rfl,HQ.out⟩
end
end EW
end Go.Proofs.YtehgmmbdlnginaaGreatDoor
namespace Go.Proofs.YtehgmmbdlnginaaGreatDoor
open Go.RowKit
namespace EW
open LX SX RW6 EX
open RX (Nd)
section
variable {w0 w w1:World} {E:List Nat} {q:Nat} {DA:Option Addr} {n c:Nat} {ns:List Nd} {dv fv:Value} {bad:Int} {rs:List (Fm × Value × Value)}
theorem Rx.dat (h:Rx w0 w E q (.slice DA n c) fv bad rs) (hN:NdR w0 DA ns) {i:Nat} (hi:i < ns.length):∃ b o LA lc,DA=some ⟨b,o,none⟩∧b < w0.heap.size∧w.cell? ⟨b,o+i*5,none⟩=some (.int .u8 (ndAt ns i).kind) ∧
    w.cell? ⟨b,o+i*5+1,none⟩=some (.int .i64 (ndAt ns i).at_)∧w.cell? ⟨b,o+i*5+2,none⟩=some (.int .i64 (ndAt ns i).n)∧w.cell? ⟨b,o+i*5+3,none⟩=some (.string (ndAt ns i).s) ∧
    w.cell? ⟨b,o+i*5+4,none⟩=some (.slice LA (ndAt ns i).l.length lc)∧Sl w (E++Zx q fv) (.slice LA (ndAt ns i).l.length lc) (ints (ndAt ns i).l):=by
  have e:ndAt ns i=ns[i]:=by
    unfold ndAt;rw [List.getD_eq_getElem?_getD,List.getElem?_eq_getElem hi];rfl
  rw [e];obtain ⟨b,o,LA,lc,ea,hb,c0,c1,c2,c3,c4,k1,k2,hI⟩:=hN i hi;have g (x:Nat):w.cell? ⟨b,x,none⟩=w0.cell? ⟨b,x,none⟩:=h.far.cell (p:=⟨b,x,none⟩) hb (by simp);refine ⟨b,o,LA,lc,ea,hb,(g _).trans c0,(g _).trans c1,(g _).trans c2,(g _).trans c3,(g _).trans c4,?_⟩
  have hlen:(ints ns[i].l).length=ns[i].l.length:=by unfold ints;rw [List.length_map]
  refine ⟨LA,lc,by rw [hlen],by rw [hlen];exact k1,⟨k2,fun _ _ _ _ _ _ _ u hu=>by unfold ints at hu;obtain ⟨x,_,rfl⟩:=List.mem_map.1 hu;exact ⟨_,rfl⟩⟩,fun k u hu=>?_⟩
  have hk:k < ns[i].l.length:=by have:=(List.getElem?_eq_some_iff.1 hu).1;omega
  obtain ⟨b',o',e',hb',hc'⟩:=hI k hk;refine ⟨b',o',e',fun hm=>?_,Nat.lt_of_lt_of_le hb' h.far.size,?_⟩
  · rcases List.mem_append.1 hm with hm | hm
    · have:=(h.ez b' hm).2.1;omega
    · have:=h.low b' hm;omega
  · rw [h.far.cell (p:=⟨b',o'+k,none⟩) hb' (by simp),hc'];unfold ints at hu;rw [List.getElem?_map,List.getElem?_eq_getElem hk] at hu;exact hu
def WrQ (w0 w:World) (E:List Nat) (q:Nat) (dv fv:Value) (bad:Int) (rs:List (Fm × Value × Value)) (e:Ending) (w':World):Prop :=
  e = .returned (.int .i64 0)∧Rx w0 w' E q dv fv bad rs∧Fr w w' q fv fv
theorem wrong_neg (h:Rx w0 w E q (.slice DA n c) fv (-1) rs) (hN:NdR w0 DA ns) (hn:ns.length=n) {i:Nat} (hi:i < n) :
    Calls Tryz.prog 59 #[ptr q,num i] w (WrQ w0 w E q (.slice DA n c) fv (ndAt ns i).at_ rs):=by
  obtain ⟨b,o,LA,lc,rfl,_,z0,z1,z2,z3,z4,hS⟩:=h.dat hN (i:=i) (by omega);have x0:=h.head.at (i:=0) rfl;have x2:=h.head.at (i:=2) rfl;have f2:=h.head.frozen 2;have HB:=Lib.hid (h.bad_ (ndAt ns i).at_);have hx0:(0:Int)≤(i:Int):=by omega
  have hx1:(i:Int) < (n:Int):=by omega
  clear h hN hn hS;generalize ndAt ns i=d at *;unfold ptr num;go_enter Tryz.func59,Tryz.ntmps59
  go_wp2;go_ret
  exact ⟨rfl,HB.out.1,HB.out.2⟩
theorem wrong_pos (h:Rx w0 w E q dv fv bad rs) (hb:0≤bad) (i:Int) :
    Calls Tryz.prog 59 #[ptr q,num i] w (WrQ w0 w E q dv fv bad rs):=by
  have x2:=h.head.at (i:=2) rfl;have hb2:¬ bad < 0:=by omega
  have HH:=Lib.hid h;clear h;unfold ptr num;go_enter Tryz.func59,Tryz.ntmps59
  go_wp2;go_ret
  exact ⟨rfl,HH.out,Fr.refl _ _ _⟩
end
def resV:List Value:=resN.map .string
set_option maxRecDepth 20000 in
set_option maxHeartbeats 4000000 in
theorem rreserved_any (w:World) (s:ByteArray):Calls Tryz.prog 58 #[.string s] w fun e w'=>e = .returned (.bool (reserved s))∧MM.Far [] w w':=by
  obtain ⟨W,hW⟩:∃ W,w.alloc (.cells #[.string ⟨#[113,117,111,116,101]⟩,.string ⟨#[105,102]⟩,.string ⟨#[108,97,109,98,100,97]⟩,.string ⟨#[115,101,116,33]⟩,.string ⟨#[98,101,103,105,110]⟩,.string ⟨#[100,101,102,105,110,101]⟩,.string ⟨#[108,101,116]⟩,.string ⟨#[108,101,116,42]⟩,.string ⟨#[99,111,110,100]⟩,.string ⟨#[101,108,115,101]⟩,.string ⟨#[97,110,100]⟩,.string ⟨#[111,114]⟩,.string ⟨#[119,104,101,110]⟩,.string ⟨#[117,110,108,101,115,115]⟩] 9)=W:=⟨_,rfl⟩
  have hR:MM.Row W w.heap.size 9 resV:=by rw [← hW];exact MM.Row.new w 9 resV
  have HF:Hid (MM.Far [] w W):=Lib.hid (by rw [← hW];exact (MM.Far.refl [] w).alloc _);have HR:=Lib.hid hR;clear hR;go_enter Tryz.func58,Tryz.ntmps58
  go_wp2;clear hW
  go_loopw [4] (fun i wr=>∃ k:Nat,k≤14∧i = .int .i64 (k:Int)∧Hid ((∀ j,j < k→resN[j]?≠some s)∧wr=W)) (fun i _=>14 - (intOf i).toNat)
  case atStart=>exact ⟨0,by omega,rfl,Lib.hid ⟨fun j hj=>by omega,rfl⟩⟩
  case round =>
    obtain ⟨k,hk,rfl,hH⟩:=hrel;have hno:=hH.out.1;have hwr:=hH.out.2;subst hwr;have HNO:=Lib.hid hno;clear hH hno;by_cases hlt:k < 14
    · have hk2:k < resN.length:=hlt;have cc:wr.cell? ⟨w.heap.size,k,none⟩=some (.string resN[k]):=HR.out.at (by unfold resV;rw [List.getElem?_map,List.getElem?_eq_getElem hk2];rfl);have HL:Hid (resN[k]? = some resN[k]):=Lib.hid (List.getElem?_eq_getElem hk2);generalize resN[k]=x at *;have hk0:(0:Int)≤(k:Int):=by omega
      have hk1:(k:Int) < 14:=by omega
      clear hk2;by_cases hx:x=s
      · subst hx;have HEQ:Hid (reserved x=true):=Lib.hid (decide_eq_true (List.mem_of_getElem? HL.out));go_wp2;go_ret
        exact ⟨by rw [HEQ.out];rfl,HF.out⟩
      · have hx1:=beq_list hx;go_wp2;go_roundw
        case rel=>exact ⟨k+1,by omega,by go_num,Lib.hid ⟨fun j hj=>by
          by_cases hjk:j=k
          · subst hjk;rw [HL.out];simp only [ne_eq,Option.some.injEq];exact hx
          · exact HNO.out j (by omega),trivial⟩⟩
        case measure=>simp [intOf];omega
    · obtain rfl:k=14:=by omega
      have HEQ:Hid (reserved s=false):=Lib.hid (decide_eq_false (fun hm=>by
        obtain ⟨j,hj,e⟩:=List.getElem_of_mem hm;exact HNO.out j hj (by rw [List.getElem?_eq_getElem hj,e])))
      go_wp2;go_ret
      exact ⟨by rw [HEQ.out];rfl,HF.out⟩
end EW
end Go.Proofs.YtehgmmbdlnginaaGreatDoor
namespace Go.Proofs.YtehgmmbdlnginaaGreatDoor
open Go.RowKit
set_option linter.unusedVariables false
namespace EW
open LX SX RW6 EX
open RX (Nd)
section
variable {w0 w w1:World} {E:List Nat} {q:Nat} {DA:Option Addr} {n c:Nat} {ns:List Nd} {dv fv:Value} {bad:Int} {rs:List (Fm × Value × Value)}
set_option maxRecDepth 20000 in
set_option maxHeartbeats 4000000 in
theorem rname_any (h:Rx w0 w E q (.slice DA n c) fv bad rs) (hN:NdR w0 DA ns) (hn:ns.length=n) {i:Nat} (hi:i < n) (hs3:(ndAt ns i).kind≠3→(ndAt ns i).s=emp) :
    Calls Tryz.prog 99 #[ptr q,num i] w fun e w'=>e = .returned (.string ((nameOf ns i).getD emp))∧MM.Far [] w w':=by
  obtain ⟨b,o,LA,lc,rfl,_,z0,z1,z2,z3,z4,hS⟩:=h.dat hN (i:=i) (by omega);have x0:=h.head.at (i:=0) rfl;have hx0:(0:Int)≤(i:Int):=by omega
  have hx1:(i:Int) < (n:Int):=by omega
  obtain ⟨R,hR⟩:∃ R,(nameOf ns i).getD emp=R:=⟨_,rfl⟩
  rw [hR];unfold nameOf at hR;clear h hN hn hS;generalize ndAt ns i=d at *;obtain ⟨kd,at_,nn,s,l⟩:=d;simp only at z0 z1 z2 z3 z4 hR hs3
  obtain ⟨m,hm⟩:∃ m,l.length=m:=⟨_,rfl⟩
  rw [hm] at z4;clear hm;have HRV:=Lib.hid (fun (w':World)=>rreserved_any w' s);unfold ptr num;by_cases k3:kd=3
  · subst k3;cases hr:reserved s with
    | true =>
      have HE:Hid (R=emp):=Lib.hid (by rw [if_pos (.inr hr)] at hR;exact hR.symm);rw [hr] at HRV;clear hR hr hs3;go_enter Tryz.func99,Tryz.ntmps99
      go_wp2_with (first
        | (go_at_call 58;(with_reducible refine (HRV.out _).mono ?_);rintro e w3 ⟨rfl,hF3⟩;have HF3:=Lib.hid (((MM.Far.refl [] w).alloc _).trans hF3 (by simp));clear hF3))
      go_ret
      exact ⟨by rw [HE.out];rfl,HF3.out⟩
    | false =>
      have HE:Hid (R=s):=Lib.hid (by
        rw [← hR];by_cases he:s=emp
        · rw [if_pos (.inl he),he];rfl
        · rw [if_neg (by rintro (h | h);exact he h;rw [hr] at h;cases h)];rfl)
      rw [hr] at HRV;clear hR hr hs3;go_enter Tryz.func99,Tryz.ntmps99
      go_wp2_with (first
        | (go_at_call 58;(with_reducible refine (HRV.out _).mono ?_);rintro e w3 ⟨rfl,hF3⟩;have hB3:=(MM.Row.new w 122 [.int .u8 3,.int .i64 at_,.int .i64 nn,.string s,.slice LA m lc]).far hF3 (by simp);have y3:=hB3.at (i:=3) rfl;have HF3:=Lib.hid (((MM.Far.refl [] w).alloc _).trans hF3 (by simp));clear hF3 hB3))
      go_ret
      exact ⟨by rw [HE.out];rfl,HF3.out⟩
  · have h5:(kd == 3)=false:=by simp [k3]
    have h6:(kd != 3)=true:=by simp [k3]
    have HE:Hid (R=emp):=Lib.hid (by rw [if_pos (.inl (hs3 k3))] at hR;exact hR.symm);clear hR hs3;go_enter Tryz.func99,Tryz.ntmps99
    go_wp2;go_ret
    exact ⟨by rw [HE.out];rfl,(MM.Far.refl [] w).alloc _⟩
theorem rlist_any (h:Rx w0 w E q (.slice DA n c) fv bad rs) (hN:NdR w0 DA ns) (hn:ns.length=n) {i:Nat} (hi:i < n) (least:Nat) (hl:least≤10) :
    Calls Tryz.prog 129 #[ptr q,num i,num least] w fun e w'=>e = .returned (.bool (decide ((ndAt ns i).kind=4∧least≤(ndAt ns i).l.length)))∧w=w':=by
  obtain ⟨b,o,LA,lc,rfl,_,z0,z1,z2,z3,z4,hS⟩:=h.dat hN (i:=i) (by omega);have x0:=h.head.at (i:=0) rfl;have hx0:(0:Int)≤(i:Int):=by omega
  have hx1:(i:Int) < (n:Int):=by omega
  clear h hN hn hS;generalize ndAt ns i=d at *;obtain ⟨kd,at_,nn,s,l⟩:=d;simp only at z0 z1 z2 z3 z4 ⊢
  obtain ⟨m,hm⟩:∃ m,l.length=m:=⟨_,rfl⟩
  rw [hm] at z4 ⊢;clear hm;unfold ptr num;by_cases k4:kd=4
  · subst k4;by_cases hlm:least≤m
    · have HE:Hid (decide ((4:Int)=4∧least≤m)=true):=Lib.hid (decide_eq_true ⟨rfl,hlm⟩);have h7:(least:Int)≤(m:Int):=by omega
      rw [HE.out];clear HE;go_enter Tryz.func129,Tryz.ntmps129
      go_wp2;go_ret
      exact ⟨rfl,rfl⟩
    · have HE:Hid (decide ((4:Int)=4∧least≤m)=false):=Lib.hid (decide_eq_false (fun h=>hlm h.2));have h7:¬ (least:Int)≤(m:Int):=by omega
      rw [HE.out];clear HE;go_enter Tryz.func129,Tryz.ntmps129
      go_wp2;go_ret
      exact ⟨rfl,rfl⟩
  · have HE:Hid (decide (kd=4∧least≤m)=false):=Lib.hid (decide_eq_false (fun h=>k4 h.1));have h5:(kd == 4)=false:=by simp [k4]
    rw [HE.out];clear HE;go_enter Tryz.func129,Tryz.ntmps129
    go_wp2;go_ret
    exact ⟨rfl,rfl⟩
end
end EW
end Go.Proofs.YtehgmmbdlnginaaGreatDoor
namespace Go.Proofs.YtehgmmbdlnginaaGreatDoor
open Go.RowKit
set_option linter.unusedVariables false
namespace EX
open LX RX SX
def exq (ns:List Nd) (p:Pt) (st:List Fm):Except Int (List Fm × Nat):=run ns (wt ns p) p st
theorem exq_run {ns:List Nd} (h:Ok ns) {f:Nat} {p:Pt} (hf:wt ns p≤f) (st:List Fm):run ns f p st=exq ns p st:=run_same h f _ p hf (Nat.le_refl _) st
theorem runs_same {F G:Pt→List Fm→Except Int (List Fm × Nat)}:∀ (ps:List Pt),(∀ p∈ps,∀ st,F p st=G p st)→∀ st l,runs F ps st l=runs G ps st l:=by
  intro ps;induction ps with
  | nil=>intro _ st l;rfl
  | cons p ps ih =>
    intro h st l;unfold runs;rw [h p (List.mem_cons_self ..)];split
    · rfl
    · exact ih (fun q hq=>h q (List.mem_cons_of_mem _ hq)) _ _
theorem exq_eq {ns:List Nd} (h:Ok ns) (p:Pt) (st:List Fm):exq ns p st=onPl (exq ns) (ev ns p) st:=by
  have hw:=ev_w h p;have hp:=wt_pos ns p;obtain ⟨f,hf⟩:∃ f,wt ns p=f+1:=⟨wt ns p - 1,by omega⟩
  unfold exq;rw [hf,run];rw [hf] at hw;generalize ev ns p=pl at hw;cases pl with
  | bad a=>rfl
  | ins q=>simp only [wpl] at hw;exact exq_run h (by omega) st
  | mk fm ps =>
    simp only [wpl] at hw
    simp only [onPl]
    rw [runs_same (F:=run ns f) (G:=exq ns) ps (fun q hq st=>exq_run h (by have:=wps_mem (ns:=ns) hq;omega) st)];rfl
def bnd {α β:Type} (X:Except Int α) (R:α→Except Int β):Except Int β:=match X with
  | .error a=>.error a
  | .ok x=>R x
def fst' (Y:Except Int (List Fm × Nat)):Except Int (List Fm):=bnd Y fun y=>.ok y.1
def fsts (Y:Except Int (List Fm × List Nat)):Except Int (List Fm):=bnd Y fun y=>.ok y.1
theorem runs_cons (F:Pt→List Fm→Except Int (List Fm × Nat)) (p:Pt) (ps:List Pt) (st:List Fm) (l:List Nat):runs F (p::ps) st l=match F p st with
    | .error e=>.error e
    | .ok (st',i)=>runs F ps st' (l++[i]):=rfl
theorem runs_app (F:Pt→List Fm→Except Int (List Fm × Nat)) (qs:List Pt):∀ (ps:List Pt) (st:List Fm) (l:List Nat),runs F (ps++qs) st l=bnd (runs F ps st l) fun y=>runs F qs y.1 y.2:=by
  intro ps;induction ps with
  | nil=>intro st l;rfl
  | cons p ps ih =>
    intro st l;rw [List.cons_append,runs_cons,runs_cons];cases F p st with
    | error a=>rfl
    | ok y=>obtain ⟨s1,k⟩:=y;exact ih s1 _
theorem runs_one (F:Pt→List Fm→Except Int (List Fm × Nat)) (p:Pt) (st:List Fm) (l:List Nat):runs F [p] st l=bnd (F p st) fun y=>.ok (y.1,l++[y.2]):=by
  unfold runs;cases F p st with
  | error a=>rfl
  | ok y=>obtain ⟨s1,k⟩:=y;rfl
end EX
namespace EW
open LX SX RW6 EX
open RX (Nd)
def Stx (w0 w:World) (E:List Nat) (q:Nat) (dv fv:Value) (X:Except Int (List Fm)) (B:Nat):Prop :=
  ∃ rs bad,Rx w0 w E q dv fv bad rs∧rs.length≤B∧match X with
    | .ok st=>bad = -1∧rs.map (·.1)=st
    | .error a=>bad=a∧0≤a
def OutQ (w0 w:World) (E:List Nat) (q:Nat) (dv fv:Value) (Y:Except Int (List Fm × Nat)) (B:Nat) (e:Ending) (w':World):Prop :=
  ∃ (v:Nat) (fv':Value),e = .returned (num ((v:Nat):Int))∧Fr w w' q fv fv'∧Stx w0 w' E q dv fv' (fst' Y) B∧∀ st k,Y = .ok (st,k)→v=k
section
variable {w0 w w1 w2:World} {E:List Nat} {q:Nat} {dv fv fv1:Value} {X:Except Int (List Fm)} {Y:Except Int (List Fm × Nat)} {B B':Nat} {e:Ending}
theorem Stx.mono (h:Stx w0 w E q dv fv X B) (hB:B≤B'):Stx w0 w E q dv fv X B':=by
  obtain ⟨rs,bad,h1,h2,h3⟩:=h;exact ⟨rs,bad,h1,by omega,h3⟩
theorem Stx.to (h:Stx w0 w E q dv fv X B) (f:MM.Far [] w w1):Stx w0 w1 E q dv fv X B:=by
  obtain ⟨rs,bad,h1,h2,h3⟩:=h;exact ⟨rs,bad,h1.to f,h2,h3⟩
theorem OutQ.mono (h:OutQ w0 w E q dv fv Y B e w1) (hB:B≤B'):OutQ w0 w E q dv fv Y B' e w1:=by
  obtain ⟨v,fv',h1,h2,h3,h4⟩:=h;exact ⟨v,fv',h1,h2,h3.mono hB,h4⟩
theorem OutQ.from (h:OutQ w0 w1 E q dv fv1 Y B e w2) (f:Fr w w1 q fv fv1):OutQ w0 w E q dv fv Y B e w2:=by
  obtain ⟨v,fv',h1,h2,h3,h4⟩:=h;exact ⟨v,fv',h1,f.trans h2,h3,h4⟩
theorem Stx.low (h:Stx w0 w E q dv fv X B):MM.Far [] w0 w∧(∀ b∈Zx q fv,b < w.heap.size)∧w0.heap.size≤q:=by
  obtain ⟨rs,bad,h1,_⟩:=h;exact ⟨h1.far,h1.z,h1.qb⟩
theorem sput_any (h:Stx w0 w E q dv fv X B) (hB:B≤200000) (f:Fm) {A C:Option Addr} {np c nl d:Nat} (hp:Sl w (E++Zx q fv) (.slice A np c) (strs f.p)) (hl:Sl w (E++Zx q fv) (.slice C nl d) (ints f.l)) :
    Calls Tryz.prog 56 #[ptr q,.agg #[.int .u8 f.kind,.int .i64 f.at_,.int .i64 f.n,.int .i64 0,.string f.s,.slice A np c,.int .u64 0,.slice C nl d]] w (OutQ w0 w E q dv fv (bnd X fun st=>.ok (st++[f],st.length)) (B+1)):=by
  obtain ⟨rs,bad,h1,h2,h3⟩:=h;refine (put_any h1 (by omega) f hp hl).mono fun e w' ⟨he,fv',x,hx,hR,hF⟩=>?_
  refine ⟨rs.length,fv',he,hF,⟨rs++[x],bad,hR,by rw [List.length_append];simp;omega,?_⟩,?_⟩
  · cases X with
    | error a=>exact h3
    | ok st=>exact ⟨h3.1,by rw [List.map_append,h3.2];simp [hx]⟩
  · cases X with
    | error a=>intro st k e;cases e
    | ok st =>
      intro st' k e;injection e with e;injection e with _ e;rw [← e,← h3.2,List.length_map]
theorem sbit_any (h:Stx w0 w E q dv fv X B) (hB:B≤200000) (a n:Int) :
    Calls Tryz.prog 57 #[ptr q,num a,num n] w (OutQ w0 w E q dv fv (bnd X fun st=>.ok (st++[frm 2 a n],st.length)) (B+1)):=by
  obtain ⟨rs,bad,h1,h2,h3⟩:=h;refine (bit_any h1 (by omega) a n).mono fun e w' ⟨he,fv',x,hx,hR,hF⟩=>?_
  refine ⟨rs.length,fv',he,hF,⟨rs++[x],bad,hR,by rw [List.length_append];simp;omega,?_⟩,?_⟩
  · cases X with
    | error a=>exact h3
    | ok st=>exact ⟨h3.1,by rw [List.map_append,h3.2];simp [hx]⟩
  · cases X with
    | error a=>intro st k e;cases e
    | ok st =>
      intro st' k e;injection e with e;injection e with _ e;rw [← e,← h3.2,List.length_map]
theorem swrong_any {DA:Option Addr} {n c:Nat} {ns:List Nd} (h:Stx w0 w E q (.slice DA n c) fv X B) (hN:NdR w0 DA ns) (hn:ns.length=n) {i:Nat} (hi:i < n) (ha:0≤(ndAt ns i).at_) :
    Calls Tryz.prog 59 #[ptr q,num i] w (OutQ w0 w E q (.slice DA n c) fv (bnd X fun _=>.error (ndAt ns i).at_) B):=by
  obtain ⟨rs,bad,h1,h2,h3⟩:=h;cases X with
  | error a =>
    obtain ⟨rfl,h0⟩:=h3;exact (wrong_pos h1 h0 i).mono fun e w' ⟨he,hR,hF⟩=>⟨0,fv,he,hF,⟨rs,bad,hR,h2,rfl,h0⟩,fun st k e=>by cases e⟩
  | ok st =>
    obtain ⟨rfl,h4⟩:=h3;exact (wrong_neg h1 hN hn hi).mono fun e w' ⟨he,hR,hF⟩=>⟨0,fv,he,hF,⟨rs,_,hR,h2,rfl,ha⟩,fun st k e=>by cases e⟩
end
end EW
end Go.Proofs.YtehgmmbdlnginaaGreatDoor
namespace Go.Proofs.YtehgmmbdlnginaaGreatDoor
open Go.RowKit
set_option linter.unusedVariables false
namespace EW
open LX SX RW6 EX
open RX (Nd)
section
variable {w0 w w1:World} {E:List Nat} {q:Nat} {DA:Option Addr} {n c:Nat} {ns:List Nd} {dv fv:Value} {bad:Int} {rs:List (Fm × Value × Value)} {X:Except Int (List Fm)} {B:Nat}
structure Dta (w0:World) (DA:Option Addr) (n:Nat) (ns:List Nd):Prop where
  nd:NdR w0 DA ns
  len:ns.length=n
  ok:Ok ns
  s3:∀ i,(ndAt ns i).kind≠3→(ndAt ns i).s=emp
  few:∀ i,(ndAt ns i).l.length≤100000
  at0:∀ i,0≤(ndAt ns i).at_
  leaf:∀ i,(ndAt ns i).kind≠4→(ndAt ns i).l=[]
theorem Stx.dat (h:Stx w0 w E q (.slice DA n c) fv X B) (D:Dta w0 DA n ns) {i:Nat} (hi:i < n):∃ b o LA lc,DA=some ⟨b,o,none⟩∧b < w0.heap.size∧w.cell? ⟨b,o+i*5,none⟩=some (.int .u8 (ndAt ns i).kind) ∧
    w.cell? ⟨b,o+i*5+1,none⟩=some (.int .i64 (ndAt ns i).at_)∧w.cell? ⟨b,o+i*5+2,none⟩=some (.int .i64 (ndAt ns i).n)∧w.cell? ⟨b,o+i*5+3,none⟩=some (.string (ndAt ns i).s) ∧
    w.cell? ⟨b,o+i*5+4,none⟩=some (.slice LA (ndAt ns i).l.length lc)∧Sl w (E++Zx q fv) (.slice LA (ndAt ns i).l.length lc) (ints (ndAt ns i).l):=by
  obtain ⟨rs,bad,h1,h2,h3⟩:=h;exact h1.dat D.nd (by rw [D.len];exact hi)
theorem Stx.q0 (h:Stx w0 w E q dv fv X B):w.cell? ⟨q,0,none⟩=some dv:=by
  obtain ⟨rs,bad,h1,_⟩:=h;exact h1.head.at (i:=0) rfl
theorem Stx.zlt (h:Stx w0 w E q dv fv X B):∀ b∈E++Zx q fv,b < w.heap.size:=by
  obtain ⟨rs,bad,h1,_⟩:=h;intro b hb
  rcases List.mem_append.1 hb with hb | hb
  · exact (h1.ez b hb).1
  · exact h1.z b hb
theorem sname_any (h:Stx w0 w E q (.slice DA n c) fv X B) (D:Dta w0 DA n ns) {i:Nat} (hi:i < n) :
    Calls Tryz.prog 99 #[ptr q,num i] w fun e w'=>e = .returned (.string ((nameOf ns i).getD emp))∧MM.Far [] w w':=by
  obtain ⟨rs,bad,h1,h2,h3⟩:=h;exact rname_any h1 D.nd D.len hi (D.s3 i)
theorem slist_any (h:Stx w0 w E q (.slice DA n c) fv X B) (D:Dta w0 DA n ns) {i:Nat} (hi:i < n) (least:Nat) (hl:least≤10) :
    Calls Tryz.prog 129 #[ptr q,num i,num least] w fun e w'=>e = .returned (.bool (decide ((ndAt ns i).kind=4∧least≤(ndAt ns i).l.length)))∧w=w':=by
  obtain ⟨rs,bad,h1,h2,h3⟩:=h;exact rlist_any h1 D.nd D.len hi least hl
theorem nameOf_ne {ns:List Nd} {i:Nat} {s:ByteArray} (h:nameOf ns i=some s):s≠emp:=by
  unfold nameOf at h;split at h
  · cases h
  · rename_i hn;injection h with h;subst h;exact fun e=>hn (.inl e)
def NmsI (w:World) (v:Value) (acc:List ByteArray) (wr:World):Prop:=MM.Far [] w wr∧wr.ownsRow w.heap.size 9 1 v acc.length (strs acc)
set_option maxHeartbeats 4000000 in
set_option maxRecDepth 20000 in
theorem snames_any (h:Stx w0 w E q (.slice DA n c) fv X B) (D:Dta w0 DA n ns) {A:Option Addr} {m lc:Nat} {l:List Nat} (hl:Sl w (E++Zx q fv) (.slice A m lc) (ints l)) (hm:l.length=m) (hin:∀ i∈l,i < n) :
    Calls Tryz.prog 130 #[ptr q,.slice A m lc] w fun e w'=>namesR (namesOf ns l) w' (E++Zx q fv) e∧MM.Far [] w w':=by
  have HL:=Lib.hid hl;have HM:=Lib.hid hm;have HIN:=Lib.hid hin;have HZ:=Lib.hid h.zlt;have HST:=Lib.hid h;have HR:Hid (namesG ns l []=namesOf ns l):=Lib.hid rfl;have hmx:m≤maxLen:=by
    obtain ⟨A',c',e,h1,h2,_⟩:=hl;injection e with _ e _;omega
  have HNM:=Lib.hid (fun (w':World) (f:MM.Far [] w w') (i:Nat) (hi:i < n)=>sname_any (h.to f) D hi);have HI0:Hid (NmsI w (.slice none 0 0) [] w):=Lib.hid ⟨MM.Far.refl [] w,MO.none_ _ _ _ _⟩;generalize namesOf ns l=R at *;clear h hl hm hin;unfold maxLen at hmx;unfold ptr num at HNM;unfold ptr;go_enter Tryz.func130,Tryz.ntmps130
  go_wp2
  go_loopw [6,7] (fun s6 s7 wr=>∃ (k:Nat) (acc:List ByteArray) (B:Option Addr) (bc:Nat),k≤m∧s7 = .int .i64 (k:Int)∧s6 = .slice B acc.length bc∧acc.length=k∧k≤100∧Hid (NmsI w (.slice B acc.length bc) acc wr∧namesG ns (l.drop k) acc=R)) (fun s6 s7 _=>m - (intOf s7).toNat)
  case atStart=>exact ⟨0,[],none,0,by omega,rfl,rfl,rfl,by omega,Lib.hid ⟨HI0.out,HR.out⟩⟩
  case round =>
    obtain ⟨k,acc,B,bc,hk,rfl,rfl,hacc,hk100,hH⟩:=hrel;obtain ⟨⟨hF,hO⟩,hG⟩:=hH.out;have HF:=Lib.hid hF;have HO:=Lib.hid hO;have HACC:=Lib.hid hacc;clear hF hO hH HI0 HR;by_cases hlt:k < m
    · have hk2:k < l.length:=by rw [HM.out];exact hlt
      obtain ⟨A',c',e,hc1,hc2,hc3⟩:=HL.out.far HF.out (by simp);injection e with e1 e2 e3;subst e1 e3;obtain ⟨g,o,rfl,hz,hg,cc⟩:=hc3 k (.int .i64 ((l[k]:Nat):Int)) (by unfold ints;rw [List.getElem?_map,List.getElem?_eq_getElem hk2];rfl);have hix:l[k] < n:=HIN.out _ (List.getElem_mem hk2);rw [List.drop_eq_getElem_cons hk2] at hG;generalize l[k]=i at *;unfold namesG at hG;have HC:=Lib.hid (HNM.out wr HF.out i hix);have HNE:=Lib.hid (fun s (e:nameOf ns i=some s)=>nameOf_ne e);clear hk2 e2 hc1 hc2 hc3 hz hg;generalize nameOf ns i=x at *;cases x with
      | none =>
        have HG:Hid (none=R):=Lib.hid hG;clear hG hacc;have HC2:Hid (Calls Tryz.prog 99 #[.pointer (some ⟨q,0,none⟩),.int .i64 (i:Int)] wr fun e w'=>e = .returned (.string ⟨#[]⟩)∧MM.Far [] wr w'):=HC
        go_wp2_with (go_at_call 99;(with_reducible refine HC2.out.mono ?_);rintro e w1 ⟨rfl,hF1⟩;have HF1:=Lib.hid hF1;clear hF1)
        go_ret2
        refine ⟨?_,HF.out.trans HF1.out (by simp)⟩
        rw [← HG.out];rfl
      | some s =>
        simp only at hG
        have hb1:¬ s.toList=[]:=toList_ne (fun h=>HNE.out s rfl (size_zero h));have hb2:s.toList.isEmpty=false:=by simpa using hb1
        by_cases h100:k=100
        · have HG:Hid (none=R):=Lib.hid (by rw [if_pos (.inl (by omega))] at hG;exact hG);have hge:(100:Int)≤(k:Int):=by omega
          have hge2:decide ((100:Int)≤(k:Int))=true:=by rw [decide_eq_true_iff];exact hge
          clear hG hacc h100
          go_wp2_with (go_at_call 99;(with_reducible refine HC.out.mono ?_);rintro e w1 ⟨rfl,hF1⟩;have HF1:=Lib.hid hF1;clear hF1)
          go_ret2
          refine ⟨?_,HF.out.trans HF1.out (by simp)⟩
          rw [← HG.out];rfl
        · have hk99:k < 100:=by omega
          have hd1:¬ (100:Int)≤(k:Int):=by omega
          clear hacc;have hd2:decide ((100:Int)≤(k:Int))=false:=by rw [decide_eq_false_iff_not];exact hd1
          have HG:Hid (∀ (b:Bool),decide (s∈acc)=b→(if b=true then none else namesG ns (l.drop (k+1)) (acc++[s]))=R):=Lib.hid (fun b hb=>by
            rw [← hG];by_cases hm:s∈acc
            · rw [decide_eq_true hm] at hb;rw [← hb,if_pos rfl,if_pos (.inr hm)]
            · rw [decide_eq_false hm] at hb;rw [← hb,if_neg (by decide),if_neg (by rintro (h | h);(have:=HACC.out;omega);exact hm h)])
          clear hG;have HSL:Hid (Sl wr [] (.slice B acc.length bc) (strs acc)):=Lib.hid (Sl.own HO.out (by simp))
          go_wp2_with (go_at_call 99;(with_reducible refine HC.out.mono ?_);rintro e w1 ⟨rfl,hF1⟩;have HF1:=Lib.hid hF1;clear hF1)
          go_loopw [9] (fun s9 wz=>∃ j:Nat,j≤k∧s9 = .int .i64 (j:Int)∧Hid ((∀ i (h:i < acc.length),i < j→acc[i]≠s)∧wz=w1)) (fun s9 _=>k - (intOf s9).toNat)
          case atStart=>exact ⟨0,by omega,rfl,Lib.hid ⟨fun i h hi=>by omega,rfl⟩⟩
          case round =>
            obtain ⟨j,hj,rfl,hJ⟩:=hrel;have hno:=hJ.out.1;have hwr:=hJ.out.2;subst hwr;have HNO:=Lib.hid hno;clear hJ hno;by_cases hlt2:j < k
            · have hja:j < acc.length:=by rw [HACC.out];exact hlt2
              obtain ⟨A1,q1,e3,_,_,hc3⟩:=HSL.out.far HF1.out (by simp);injection e3 with e31 e32 e33;subst e31 e33;obtain ⟨g1,o3,rfl,_,_,cc1⟩:=hc3 j (.string acc[j]) (by unfold strs;rw [List.getElem?_map,List.getElem?_eq_getElem hja];rfl);have HME:Hid (∀ h:j < acc.length,acc[j]∈acc∧∀ i (h:i < acc.length),i=j→acc[i]=acc[j]):=Lib.hid (fun h=>⟨List.getElem_mem h,fun i h hi=>by subst hi;rfl⟩);have HEQ:Hid (∃ x,acc[j]=x):=Lib.hid ⟨_,rfl⟩;obtain ⟨x,hx⟩:=HEQ.out;rw [hx] at cc1;have HX:Hid (∀ h:j < acc.length,acc[j]=x):=Lib.hid (fun _=>hx);have hal:((acc.length:Nat):Int)=(k:Int):=by rw [HACC.out]
              clear hc3 e32 HEQ hx;by_cases hxs:x=s
              · subst hxs;have hin:decide (x∈acc)=true:=decide_eq_true (by rw [← HX.out hja];exact List.getElem_mem hja);have HR2:Hid (none=R):=Lib.hid (HG.out true hin);clear hin hja;go_wp2;go_ret2
                refine ⟨?_,HF.out.trans HF1.out (by simp)⟩
                rw [← HR2.out];rfl
              · have hx1:=beq_list hxs;clear hja;go_wp2;go_roundw
                case rel=>exact ⟨j+1,by omega,by go_num,Lib.hid ⟨fun i h hi=>by
                  by_cases hij:i=j
                  · subst hij;rw [HX.out h];exact hxs
                  · exact HNO.out i h (by omega),trivial⟩⟩
                case measure=>simp [intOf];omega
            · obtain rfl:j=k:=by omega
              have hnin:decide (s∈acc)=false:=decide_eq_false (fun hm=>by
                obtain ⟨i,hi,e⟩:=List.getElem_of_mem hm;exact HNO.out i hi (by have:=HACC.out;omega) e)
              have HR2:Hid (namesG ns (l.drop (j+1)) (acc++[s])=R):=Lib.hid (HG.out false hnin);have hal:((acc.length:Nat):Int)=(j:Int):=by rw [HACC.out]
              clear hnin
              go_wp2_with (first
                | (at_builtin;refine str_push (base:=w.heap.size) (l:=acc) (s:=s) (MM.own_far HO.out HF1.out (by simp)) (Nat.le_trans HF.out.size HF1.out.size) (by have:=HACC.out;omega) rfl (.tmp 40) (.tmp 42) rfl rfl rfl ?_;intro B3 c3 w3 hO3 hF3;have HO3:=Lib.hid hO3;have HF3:=Lib.hid hF3;clear hO3 hF3))
              have HF4:Hid (MM.Far [] w w3):=Lib.hid ((HF.out.trans HF1.out (by simp)).trans HF3.out (fun b hb hl=>by
                have h1:=(MM.own_lt HO.out b (by simpa using hb)).2;omega))
              go_roundw
              case rel=>exact ⟨j+1,acc++[s],B3,c3,by omega,by go_num,by simp,by rw [List.length_append,HACC.out];rfl,by omega,Lib.hid ⟨⟨HF4.out,by simpa using HO3.out⟩,HR2.out⟩⟩
              case measure=>simp [intOf];omega
    · obtain rfl:k=m:=by omega
      rw [List.drop_of_length_le (by rw [HM.out];exact Nat.le_refl _)] at hG;simp only [namesG] at hG
      have HG:=Lib.hid hG;clear hG;go_wp2;go_ret2
      refine ⟨?_,HF.out⟩
      rw [← HG.out];exact ⟨_,rfl,Sl.own HO.out (fun b hb hm=>by
        have h1:=(MM.own_lt HO.out b hb).2;have h2:=HZ.out b hm;omega)⟩
end
end EW
end Go.Proofs.YtehgmmbdlnginaaGreatDoor
namespace Go.Proofs.YtehgmmbdlnginaaGreatDoor
open Go.RowKit
set_option linter.unusedVariables false
namespace EX
open LX RX SX
def ptT (i:Nat) (top:Bool):Pt:=if top=true then .top i else .dat i
theorem fsts_next (Y:Except Int (List Fm × List Nat)) (R:List Fm→Except Int (List Fm × Nat)):fsts (bnd Y fun y=>bnd (R y.1) fun z=>.ok (z.1,y.2++[z.2]))=fst' (bnd (fsts Y) R):=by
  cases Y with
  | error a=>rfl
  | ok y =>
    show fsts (bnd (R y.1) _)=fst' (R y.1)
    cases R y.1 <;> rfl
theorem collect (Y:Except Int (List Fm × List Nat)) (f:Fm) (ks:List Nat) (h:∀ st k,Y = .ok (st,k)→k=ks):bnd (fsts Y) (fun st=>.ok (st++[{ f with l:=ks }],st.length))=bnd Y fun y=>.ok (y.1++[{ f with l:=y.2 }],y.1.length):=by
  cases Y with
  | error a=>rfl
  | ok y =>
    obtain ⟨st,k⟩:=y;have:=h st k rfl;subst this;rfl
theorem onPl_mk (R:Pt→List Fm→Except Int (List Fm × Nat)) (f:Fm) (ps:List Pt) (st:List Fm):onPl R (.mk f ps) st=bnd (runs R ps st []) fun y=>.ok (y.1++[{ f with l:=y.2 }],y.1.length):=by
  unfold onPl;simp only
  cases runs R ps st [] with
  | error a=>rfl
  | ok y=>rfl
theorem bnd_bnd {α β γ:Type} (X:Except Int α) (R:α→Except Int β) (S:β→Except Int γ):bnd (bnd X R) S=bnd X fun x=>bnd (R x) S:=by cases X <;> rfl
theorem runs_take {R:Pt→List Fm→Except Int (List Fm × Nat)} {l:List Nat} {j:Nat} (h:j < l.length) (X:Except Int (List Fm)) :
    (bnd X fun st=>runs R ((l.take (j+1)).map .dat) st [])=bnd (bnd X fun st=>runs R ((l.take j).map .dat) st []) fun y=>bnd (R (.dat l[j]) y.1) fun z=>.ok (z.1,y.2++[z.2]):=by
  rw [bnd_bnd];congr 1
  funext st
  rw [List.take_succ_eq_append_getElem h,List.map_append,runs_app];congr 1
  funext y
  exact runs_one R _ _ _
def sumT (ns:List Nd) (l:List Nat):Nat:=(l.map fun i=>16*T ns i).sum
theorem sumT_take {ns:List Nd} {l:List Nat} {j:Nat} (h:j < l.length):sumT ns (l.take (j+1))=sumT ns (l.take j)+16*T ns l[j]:=by
  unfold sumT;rw [List.take_succ_eq_append_getElem h,List.map_append,List.sum_append];simp
theorem sumT_le {ns:List Nd} (l:List Nat) (j:Nat):sumT ns (l.take j)≤sumT ns l:=by
  unfold sumT;conv=>rhs;rw [← List.take_append_drop j l]
  rw [List.map_append,List.sum_append];omega
end EX
namespace EW
open LX SX RW6 EX
open RX (Nd)
section
variable {w0 w w1 w2:World} {E:List Nat} {q:Nat} {DA:Option Addr} {n c:Nat} {ns:List Nd} {dv fv:Value} {X:Except Int (List Fm)} {B:Nat}
def FormC (w0:World) (q:Nat) (DA:Option Addr) (n c:Nat) (ns:List Nd) (N:Nat):Prop:=∀ (E:List Nat) (w:World) (fv:Value) (X:Except Int (List Fm)) (B i:Nat) (top:Bool),i < n→16*T ns i - 8≤N→B+(16*T ns i - 8)≤200000→Stx w0 w E q (.slice DA n c) fv X B →
  Calls Tryz.prog 30 #[ptr q,num i,.bool top] w (OutQ w0 w E q (.slice DA n c) fv (bnd X (exq ns (ptT i top))) (B+(16*T ns i - 8)))
theorem Stx.less {O:List Nat} (h:Stx w0 w (O++E) q dv fv X B):Stx w0 w E q dv fv X B:=by
  obtain ⟨rs,bad,h1,h2,h3⟩:=h;refine ⟨rs,bad,⟨h1.far,h1.qb,h1.head,h1.row,fun x hx=>⟨(h1.rd x hx).1.more fun b hb=>.inl ?_,(h1.rd x hx).2.more fun b hb=>.inl ?_⟩,fun b hb=>h1.ez b (List.mem_append_right _ hb)⟩,h2,h3⟩
  · rcases List.mem_append.1 hb with hb | hb
    · exact List.mem_append_left _ (List.mem_append_right _ hb)
    · exact List.mem_append_right _ hb
  · rcases List.mem_append.1 hb with hb | hb
    · exact List.mem_append_left _ (List.mem_append_right _ hb)
    · exact List.mem_append_right _ hb
theorem Stx.app {base k:Nat} {v v':Value} {xs:List Value} (h:Stx w0 w (v.ownBlock.toList++E) q dv fv X B) (f:MM.Far v.ownBlock.toList w w1) (ho:w1.ownsRow base 3 1 v' k xs) (hb:w0.heap.size≤base)
    (hat:v'.ownBlock=v.ownBlock∨∃ b,v'.ownBlock=some b∧w.heap.size≤b):Stx w0 w1 (v'.ownBlock.toList++E) q dv fv X B:=by
  obtain ⟨rs,bad,h1,h2,h3⟩:=h;have hv:∀ b∈v.ownBlock.toList,b < w.heap.size∧w0.heap.size≤b∧b∉Zx q fv:=fun b hb=>h1.ez b (List.mem_append_left _ hb)
  have hz:∀ b∈(v'.ownBlock.toList++E)++Zx q fv,b∈(v.ownBlock.toList++E)++Zx q fv∨w.heap.size≤b:=fun b hb=>by
    rcases List.mem_append.1 hb with hb | hb
    · rcases List.mem_append.1 hb with hb | hb
      · have hb:v'.ownBlock=some b:=by simpa using hb
        rcases hat with e | ⟨g,e,hg⟩
        · exact .inl (List.mem_append_left _ (List.mem_append_left _ (by rw [← e];simpa using hb)))
        · rw [e] at hb;injection hb with hb;exact .inr (by omega)
      · exact .inl (List.mem_append_left _ (List.mem_append_right _ hb))
    · exact .inl (List.mem_append_right _ hb)
  have go {u:Value} {vs:List Value} (hs:Sl w ((v.ownBlock.toList++E)++Zx q fv) u vs):Sl w1 ((v'.ownBlock.toList++E)++Zx q fv) u vs:=by
    have g1:Sl w (v.ownBlock.toList++((v'.ownBlock.toList++E)++Zx q fv)) u vs:=hs.more (fun b hb=>by
      rcases List.mem_append.1 hb with hb | hb
      · exact .inl (List.mem_append_left _ (List.mem_append_left _ hb))
      · exact hz b hb)
    exact (g1.far f (fun b hb _=>List.mem_append_left _ hb)).more (fun b hb=>.inl (List.mem_append_right _ hb))
  refine ⟨rs,bad,⟨h1.far.trans f (fun b hb hl=>by have:=(hv b hb).2.1;omega),h1.qb,h1.head.far f (fun hm=>(hv q hm).2.2 (List.mem_cons_self ..)),MM.own_far h1.row f (fun b hb hm=>(hv b hm).2.2 (List.mem_cons_of_mem _ (by simpa using hb))),fun x hx=>⟨go (h1.rd x hx).1,go (h1.rd x hx).2⟩,fun b hb=>?_⟩,h2,h3⟩
  rcases List.mem_append.1 hb with hb | hb
  · have hb:v'.ownBlock=some b:=by simpa using hb
    have hl:=MM.own_lt ho b hb;refine ⟨hl.1,by omega,fun hm=>?_⟩
    rcases hat with e | ⟨g,e,hg⟩
    · exact (hv b (by rw [← e];simpa using hb)).2.2 hm
    · rw [e] at hb;injection hb with hb;have:=h1.z b hm;omega
  · obtain ⟨g1,g2,g3⟩:=h1.ez b (List.mem_append_right _ hb);exact ⟨Nat.lt_of_lt_of_le g1 f.size,g2,g3⟩
theorem Stx.ezE (h:Stx w0 w E q dv fv X B):∀ b∈E,b < w.heap.size∧w0.heap.size≤b∧b∉Zx q fv:=by
  obtain ⟨rs,bad,h1,_⟩:=h;exact h1.ez
def Col (w0 w wr:World) (E:List Nat) (q:Nat) (dv fv:Value) (Y:Except Int (List Fm × List Nat)) (B:Nat) (v:Value) (j:Nat):Prop :=
  ∃ fv' ks,ks.length=j∧wr.ownsRow w.heap.size 3 1 v ks.length (ints ks)∧Stx w0 wr (v.ownBlock.toList++E) q dv fv' (fsts Y) B∧Fr w wr q fv fv'∧∀ st k,Y = .ok (st,k)→k=ks
theorem Col.start (h:Stx w0 w E q dv fv X B):Col w0 w w E q dv fv (bnd X fun st=>.ok (st,[])) B (.slice none 0 0) 0:=by
  refine ⟨fv,[],rfl,MO.none_ _ _ _ _,?_,Fr.refl _ _ _,fun st k e=>?_⟩
  · have e:fsts (bnd X fun st=>.ok (st,[]))=X:=by cases X <;> rfl
    rw [e];exact h
  · cases X with
    | error a=>cases e
    | ok x=>injection e with e;injection e with _ e;exact e.symm
def ColQ (w0 w:World) (E:List Nat) (q:Nat) (dv fv:Value) (Y:Except Int (List Fm × List Nat)) (R:List Fm→Except Int (List Fm × Nat)) (B:Nat) (v:Value) (j:Nat) (e:Ending) (w1:World):Prop :=
  ∃ (fv':Value) (ks:List Nat) (k:Nat),e = .returned (num (k:Int))∧ks.length=j∧w1.ownsRow w.heap.size 3 1 v ks.length (ints ks)∧Stx w0 w1 (v.ownBlock.toList++E) q dv fv' (fst' (bnd (fsts Y) R)) B∧Fr w w1 q fv fv'∧w.heap.size≤w1.heap.size ∧
    ∀ st l,(bnd Y fun y=>bnd (R y.1) fun z=>.ok (z.1,y.2++[z.2])) = .ok (st,l)→l=ks++[k]
theorem Col.call {wr:World} {Y:Except Int (List Fm × List Nat)} {B':Nat} {R:List Fm→Except Int (List Fm × Nat)} {v:Value} {j:Nat} {f:FuncId} {args:Array Value} (h:Col w0 w wr E q dv fv Y B v j)
    (hc:∀ fv',Stx w0 wr (v.ownBlock.toList++E) q dv fv' (fsts Y) B→Calls Tryz.prog f args wr (OutQ w0 wr (v.ownBlock.toList++E) q dv fv' (bnd (fsts Y) R) B')):Calls Tryz.prog f args wr (ColQ w0 w E q dv fv Y R B' v j):=by
  obtain ⟨fv',ks,hk,ho,hS,hF,hY⟩:=h;refine (hc fv' hS).mono fun e w1 ⟨k,fv1,he,hF1,hS1,hk1⟩=>?_
  refine ⟨fv1,ks,k,he,hk,MM.own_far ho hF1.far (fun b hb hm=>(hS.ezE b (List.mem_append_left _ (by simpa using hb))).2.2 hm),hS1,hF.trans hF1,Nat.le_trans hF.far.size hF1.far.size,fun st l e=>?_⟩
  cases Y with
  | error a=>cases e
  | ok y =>
    obtain ⟨s1,l1⟩:=y;have e1:=hY s1 l1 rfl;subst e1;have e:(bnd (R s1) fun z=>Except.ok (z.1,l1++[z.2])) = .ok (st,l):=e;cases hR:R s1 with
    | error a=>rw [hR] at e;cases e
    | ok z =>
      obtain ⟨s2,k2⟩:=z;rw [hR] at e;injection e with e;injection e with _ e;rw [← e,hk1 s2 k2 hR]
theorem Col.next {w3:World} {Y:Except Int (List Fm × List Nat)} {R:List Fm→Except Int (List Fm × Nat)} {v v':Value} {ks:List Nat} {k:Nat} {fv':Value} (h0:w0.heap.size≤w.heap.size) (hS:Stx w0 w1 (v.ownBlock.toList++E) q dv fv' (fst' (bnd (fsts Y) R)) B) (hF:Fr w w1 q fv fv') (ho:w1.ownsRow w.heap.size 3 1 v ks.length (ints ks))
    (hY:∀ st l,(bnd Y fun y=>bnd (R y.1) fun z=>.ok (z.1,y.2++[z.2])) = .ok (st,l)→l=ks++[k]) (hr:w3.ownsRow w.heap.size 3 1 v' (ks.length+1) (ints ks++[.int .i64 ((k:Nat):Int)])) (f:MM.Far v.ownBlock.toList w1 w3)
    (hat:v'.ownBlock=v.ownBlock∨∃ b,v'.ownBlock=some b∧w1.heap.size≤b):Col w0 w w3 E q dv fv (bnd Y fun y=>bnd (R y.1) fun z=>.ok (z.1,y.2++[z.2])) B v' (ks.length+1):=by
  refine ⟨fv',ks++[k],by simp,?_,?_,?_,hY⟩
  · have e:ints (ks++[k])=ints ks++[.int .i64 ((k:Nat):Int)]:=by unfold ints;rw [List.map_append];rfl
    rw [e,List.length_append];exact hr
  · rw [fsts_next];exact hS.app f hr h0 hat
  · refine ⟨hF.far.trans f (fun b hb hl=>?_),hF.new⟩
    have:=(MM.own_lt ho b (by simpa using hb)).2;omega
theorem rplace_push {base:Nat} {ops:Array Oper} {rest:List Oper} {o:Oper} {a:Act} {Q:Exit→Act→World→Prop} {w:World} {v:Value} {l:List Nat} {n:Nat} {z:Int} (hz:z=((n:Nat):Int))
    (hO:w.ownsRow base 3 1 v l.length (ints l)) (hb:base≤w.heap.size) (hl:l.length≤100000) (hgd:o.guard=none) (s x:Operand)
    (ho:o.op = .call { callee:=.builtin .append,args:=#[s,x],argTypes:=#[24,24] })
    (hs:a.eval s=v) (hx:a.eval x = .slice (some ⟨w.heap.size,0,none⟩) 1 1)
    (h:∀ A c w',w'.ownsRow base 3 1 (.slice A (l.length+1) c) (l.length+1) (ints l++[.int .i64 ((n:Nat):Int)])→MM.Far v.ownBlock.toList w w' →
      ((Value.slice A (l.length+1) c).ownBlock=v.ownBlock∨∃ b,(Value.slice A (l.length+1) c).ownBlock=some b∧w.heap.size≤b)→wpList Tryz.prog ops Q rest (a.put o.dst (.slice A (l.length+1) c)) w') :
    wpList Tryz.prog ops Q (o::rest) a (w.alloc (.cells #[.int .i64 z] 3)):=by
  subst hz;exact RC6.kin_push hO hb hl hgd s x ho hs hx h
set_option maxHeartbeats 4000000 in
set_option maxRecDepth 20000 in
theorem sbody_any {N:Nat} (HF:FormC w0 q DA n c ns N) (h:Stx w0 w E q (.slice DA n c) fv X B) (hok:Ok ns) (a:Int) {A:Option Addr} {m lc:Nat} {l:List Nat} (hl:Sl w (E++Zx q fv) (.slice A m lc) (ints l)) (hm:l.length=m) (hm5:m≤100000) (hin:∀ i∈l,i < n∧16*T ns i - 8≤N) (hB:B+sumT ns l+1≤200000) :
    Calls Tryz.prog 100 #[ptr q,num a,.slice A m lc] w (OutQ w0 w E q (.slice DA n c) fv (bnd X (exq ns (body a l))) (B+sumT ns l+1)):=by
  have hmx:m≤maxLen:=by unfold maxLen;omega
  have HL:=Lib.hid hl;have HM:=Lib.hid hm;have HIN:=Lib.hid hin;have HST:=Lib.hid h;have HFC:=Lib.hid HF;have HB:=Lib.hid hB;have HOKN:=Lib.hid hok;unfold maxLen at hmx;by_cases h1:m=1
  · subst h1;obtain ⟨x,rfl⟩:∃ x,l=[x]:=by
      match l,hm with
      | [x],_=>exact ⟨x,rfl⟩
    obtain ⟨A',c',e,hc1,hc2,hc3⟩:=hl;injection e with e1 e2 e3;subst e1 e3;obtain ⟨g,o,rfl,hz,hg,cc⟩:=hc3 0 (.int .i64 ((x:Nat):Int)) rfl;have hx:=hin x (List.mem_cons_self ..);simp only [Nat.add_zero] at cc
    have hs1:sumT ns [x]=16*T ns x:=by simp [sumT]
    rw [hs1] at hB HB ⊢;have HC:=Lib.hid (HF E w fv X B x false hx.1 hx.2 (by omega) h);clear hm hin h HF hB hc1 hc2 hc3 hz hg e2 HL HIN hx hok;unfold ptr num at *;go_enter Tryz.func100,Tryz.ntmps100
    go_wp2_with (go_at_call 30;(with_reducible refine HC.out.mono ?_);rintro e w1 hQ;have HQ:=Lib.hid hQ;obtain ⟨k,fv1,he,-⟩:=hQ;(replace he:e = .returned (.int .i64 ((k:Nat):Int)):=he);subst he)
    go_ret
    exact HQ.out.mono (by omega)
  · have HEX:Hid (∀ st,exq ns (body a l) st=bnd (runs (exq ns) (l.map .dat) st []) fun y=>.ok (y.1++[{ frm 8 a 0 with l:=y.2 }],y.1.length)):=Lib.hid (fun st=>by
      have e:body a l = .seq a l:=by
        match l,hm with
        | [],_=>rfl
        | [x],hm=>exact absurd hm (fun e=>h1 (by simpa using e.symm))
        | x::y::t,_=>rfl
      rw [e,exq_eq hok];exact onPl_mk _ _ _ _)
    have HC0:Hid (Col w0 w w E q (.slice DA n c) fv (bnd X fun st=>runs (exq ns) ((l.take 0).map .dat) st []) (B+sumT ns (l.take 0)) (.slice none 0 0) 0):=Lib.hid (Col.start (h.mono (by omega)));have hm1:¬ ((m:Int)=1):=by omega
    have hm1':((m:Int) == 1)=false:=by simp [hm1]
    have H0:Hid (w0.heap.size≤w.heap.size):=Lib.hid h.low.1.size;clear hl hm hin h HF hB hok;unfold ptr num at *;go_enter Tryz.func100,Tryz.ntmps100
    go_wp2
    go_loopw [7,8] (fun s7 s8 wr=>∃ (j:Nat) (OA:Option Addr) (oc:Nat),j≤m∧s7 = .slice OA j oc∧s8 = .int .i64 (j:Int)∧Hid (Col w0 w wr E q (.slice DA n c) fv (bnd X fun st=>runs (exq ns) ((l.take j).map .dat) st []) (B+sumT ns (l.take j)) (.slice OA j oc) j)) (fun _ s8 _=>m - (intOf s8).toNat)
    case atStart=>exact ⟨0,none,0,by omega,rfl,rfl,HC0⟩
    case round =>
      obtain ⟨j,OA,oc,hj,rfl,rfl,hC⟩:=hrel;obtain ⟨wo,rfl⟩:∃ wo,wo=wr:=⟨_,rfl⟩
      clear HC0;by_cases hlt:j < m
      · have hj2:j < l.length:=by rw [HM.out];exact hlt
        have hfr:∃ fv',Fr w wo q fv fv':=by obtain ⟨fv',_,_,_,_,hF,_⟩:=hC.out;exact ⟨fv',hF⟩
        obtain ⟨fv',hFr⟩:=hfr;obtain ⟨A',c',e,hc1,hc2,hc3⟩:=hFr.sl HL.out;injection e with e1 e2 e3;subst e1 e3;obtain ⟨g,o,rfl,hz,hg,cc⟩:=hc3 j (.int .i64 ((l[j]:Nat):Int)) (by unfold ints;rw [List.getElem?_map,List.getElem?_eq_getElem hj2];rfl);have hix:=HIN.out _ (List.getElem_mem hj2);have htk:=runs_take (R:=exq ns) hj2 X;have hst:=sumT_take (ns:=ns) hj2;have hsl:=sumT_le (ns:=ns) l (j+1);have HCL:=Lib.hid (hC.out.call (R:=exq ns (.dat l[j])) (B':=B+sumT ns (l.take (j+1))) (f:=30) (args:=#[.pointer (some ⟨q,0,none⟩),.int .i64 ((l[j]:Nat):Int),.bool false]) (fun fv1 hS=>by
          have h2:=HFC.out _ _ _ _ _ l[j] false hix.1 hix.2 (by have:=HB.out;omega) hS;refine h2.mono fun e w1 hQ=>hQ.mono (by omega)))
        have HTK:=Lib.hid htk;generalize l[j]=i at *;clear hj2 hFr e2 hc1 hc2 hc3 hz hg hix htk hst hsl hC
        go_wp2_with (first
          | (go_at_call 30;(with_reducible refine HCL.out.mono ?_);rintro e w1 ⟨fv2,ks,k,he,hks,ho,hS,hF2,hsz,hY⟩;(replace he:e = .returned (.int .i64 ((k:Nat):Int)):=he);subst he;have HKS:=Lib.hid hks;have HO:=Lib.hid (by rw [hks] at ho;exact ho);have HOK:=Lib.hid ho;have HS:=Lib.hid hS;have HF2:=Lib.hid hF2;have HSZ:=Lib.hid hsz;have HY:=Lib.hid hY;clear hks ho hS hF2 hsz hY)
          | (at_builtin;refine rplace_push (l:=ks) (n:=k) rfl HOK.out HSZ.out (by have:=HKS.out;omega) rfl (.tmp 23) (.tmp 30) rfl rfl rfl ?_;intro A3 c3 w3 hO3 hF3 hA3;have HN:=Lib.hid (Col.next H0.out HS.out HF2.out HOK.out HY.out hO3 hF3 hA3);clear hO3 hF3 hA3))
        go_roundw
        case rel =>
          have h:=HN.out;rw [HKS.out,← HTK.out] at h;exact ⟨j+1,A3,c3,by omega,by rw [HKS.out],by go_num,Lib.hid h⟩
        case measure=>simp [intOf];omega
      · obtain rfl:j=m:=by omega
        have hall:l.take j=l:=List.take_of_length_le (by rw [HM.out];exact Nat.le_refl _);have hC2:=hC.out;rw [hall] at hC2;obtain ⟨fv1,ks,hks,ho,hS,hFr,hY⟩:=hC2;have hSL:Sl wo (E++Zx q fv1) (.slice OA j oc) (ints ks):=Sl.own ho (fun b hb hm=>by
          rcases List.mem_append.1 hm with hm | hm
          · have h1:=(HST.out.ezE b hm).1;have h2:=(MM.own_lt ho b hb).2;omega
          · exact (hS.ezE b (List.mem_append_left _ (by simpa using hb))).2.2 hm)
        have HPUT:=Lib.hid (sput_any hS.less (by have:=HB.out;omega) { frm 8 a 0 with l:=ks } (Sl.nil _ _) hSL);have HCO:=Lib.hid (collect _ (frm 8 a 0) ks hY);have HFR:=Lib.hid hFr;unfold frm at HPUT;simp only at HPUT
        unfold ptr LX.emp at HPUT;clear hall hC hks ho hS hFr hY hSL
        go_wp2_with (go_at_call 56;(with_reducible refine HPUT.out.mono ?_);rintro e w1 hQ;have HQ:=Lib.hid hQ;obtain ⟨k,fv2,he,-⟩:=hQ;(replace he:e = .returned (.int .i64 ((k:Nat):Int)):=he);subst he)
        go_ret
        have h:=HQ.out.from HFR.out
        have e:(bnd (fsts (bnd X fun st=>runs (exq ns) (l.map .dat) st [])) fun st=>Except.ok (st++[({ frm 8 a 0 with l:=ks }:Fm)],st.length))=bnd X (exq ns (body a l)):=by
          rw [HCO.out,bnd_bnd];congr 1
          funext st
          exact (HEX.out st).symm
        rw [← e];exact h
end
end EW
end Go.Proofs.YtehgmmbdlnginaaGreatDoor
namespace Go.Proofs.YtehgmmbdlnginaaGreatDoor
open Go.RowKit
set_option linter.unusedVariables false
namespace EX
open LX RX SX
theorem collect1 (Y:Except Int (List Fm × Nat)) (f:Fm) (v:Nat) (h:∀ st k,Y = .ok (st,k)→v=k):bnd (fst' Y) (fun st=>.ok (st++[{ f with l:=[v] }],st.length))=bnd Y fun y=>.ok (y.1++[{ f with l:=[y.2] }],y.1.length):=by
  cases Y with
  | error a=>rfl
  | ok y =>
    obtain ⟨st,k⟩:=y;have:=h st k rfl;subst this;rfl
theorem collect2 (X:Except Int (List Fm)) (R1 R2:List Fm→Except Int (List Fm × Nat)) (f:Fm) (v1 v2:Nat) (h1:∀ st k,bnd X R1 = .ok (st,k)→v1=k) (h2:∀ st k,bnd (fst' (bnd X R1)) R2 = .ok (st,k)→v2=k) :
    bnd (fst' (bnd (fst' (bnd X R1)) R2)) (fun st=>.ok (st++[{ f with l:=[v1,v2] }],st.length))=bnd X fun st=>bnd (R1 st) fun y1=>bnd (R2 y1.1) fun y2=>.ok (y2.1++[{ f with l:=[y1.2,y2.2] }],y2.1.length):=by
  cases X with
  | error a=>rfl
  | ok st =>
    show bnd (fst' (bnd (fst' (R1 st)) R2)) _=bnd (R1 st) _
    have h1:=fun s k (e:R1 st = .ok (s,k))=>h1 s k e
    have h2:=fun s k (e:bnd (fst' (R1 st)) R2 = .ok (s,k))=>h2 s k e
    cases hr:R1 st with
    | error a=>rfl
    | ok y1 =>
      obtain ⟨s1,k1⟩:=y1;have e1:=h1 s1 k1 hr;subst e1;rw [hr] at h2;show bnd (fst' (R2 s1)) _=bnd (R2 s1) _
      have h2:=fun s k (e:R2 s1 = .ok (s,k))=>h2 s k e
      cases hr2:R2 s1 with
      | error a=>rfl
      | ok y2 =>
        obtain ⟨s2,k2⟩:=y2;have e2:=h2 s2 k2 hr2;subst e2;rfl
theorem collect3 (X:Except Int (List Fm)) (R1 R2 R3:List Fm→Except Int (List Fm × Nat)) (f:Fm) (v1 v2 v3:Nat) (h1:∀ st k,bnd X R1 = .ok (st,k)→v1=k) (h2:∀ st k,bnd (fst' (bnd X R1)) R2 = .ok (st,k)→v2=k)
    (h3:∀ st k,bnd (fst' (bnd (fst' (bnd X R1)) R2)) R3 = .ok (st,k)→v3=k) :
    bnd (fst' (bnd (fst' (bnd (fst' (bnd X R1)) R2)) R3)) (fun st=>.ok (st++[{ f with l:=[v1,v2,v3] }],st.length)) =
      bnd X fun st=>bnd (R1 st) fun y1=>bnd (R2 y1.1) fun y2=>bnd (R3 y2.1) fun y3=>.ok (y3.1++[{ f with l:=[y1.2,y2.2,y3.2] }],y3.1.length):=by
  cases X with
  | error a=>rfl
  | ok st =>
    show bnd (fst' (bnd (fst' (bnd (fst' (R1 st)) R2)) R3)) _=bnd (R1 st) _
    have h1:=fun s k (e:R1 st = .ok (s,k))=>h1 s k e
    have h2:=fun s k (e:bnd (fst' (R1 st)) R2 = .ok (s,k))=>h2 s k e
    have h3:=fun s k (e:bnd (fst' (bnd (fst' (R1 st)) R2)) R3 = .ok (s,k))=>h3 s k e
    cases hr:R1 st with
    | error a=>rfl
    | ok y1 =>
      obtain ⟨s1,k1⟩:=y1;have e1:=h1 s1 k1 hr;subst e1;rw [hr] at h2 h3;show bnd (fst' (bnd (fst' (R2 s1)) R3)) _=bnd (R2 s1) _
      have h2:=fun s k (e:R2 s1 = .ok (s,k))=>h2 s k e
      have h3:=fun s k (e:bnd (fst' (R2 s1)) R3 = .ok (s,k))=>h3 s k e
      cases hr2:R2 s1 with
      | error a=>rfl
      | ok y2 =>
        obtain ⟨s2,k2⟩:=y2;have e2:=h2 s2 k2 hr2;subst e2;rw [hr2] at h3;show bnd (fst' (R3 s2)) _=bnd (R3 s2) _
        have h3:=fun s k (e:R3 s2 = .ok (s,k))=>h3 s k e
        cases hr3:R3 s2 with
        | error a=>rfl
        | ok y3 =>
          obtain ⟨s3,k3⟩:=y3;have e3:=h3 s3 k3 hr3;subst e3;rfl
theorem runs1 (R:Pt→List Fm→Except Int (List Fm × Nat)) (f:Fm) (a:Pt) (st:List Fm):onPl R (.mk f [a]) st=bnd (R a st) fun y=>.ok (y.1++[{ f with l:=[y.2] }],y.1.length):=by
  rw [onPl_mk,runs_one];cases R a st <;> rfl
theorem runs2 (R:Pt→List Fm→Except Int (List Fm × Nat)) (f:Fm) (a b:Pt) (st:List Fm):onPl R (.mk f [a,b]) st=bnd (R a st) fun y1=>bnd (R b y1.1) fun y2=>.ok (y2.1++[{ f with l:=[y1.2,y2.2] }],y2.1.length):=by
  rw [onPl_mk];unfold runs;cases R a st with
  | error e=>rfl
  | ok y1 =>
    obtain ⟨s1,k1⟩:=y1;show bnd (runs R [b] s1 [k1]) _=bnd (R b s1) _
    rw [runs_one];cases R b s1 <;> rfl
theorem runs3 (R:Pt→List Fm→Except Int (List Fm × Nat)) (f:Fm) (a b c:Pt) (st:List Fm):onPl R (.mk f [a,b,c]) st=bnd (R a st) fun y1=>bnd (R b y1.1) fun y2=>bnd (R c y2.1) fun y3=>.ok (y3.1++[{ f with l:=[y1.2,y2.2,y3.2] }],y3.1.length):=by
  rw [onPl_mk];unfold runs;cases R a st with
  | error e=>rfl
  | ok y1 =>
    obtain ⟨s1,k1⟩:=y1;show bnd (runs R [b,c] s1 [k1]) _=bnd (R b s1) _
    unfold runs;cases R b s1 with
    | error e=>rfl
    | ok y2 =>
      obtain ⟨s2,k2⟩:=y2;show bnd (runs R [c] s2 [k1,k2]) _=bnd (R c s2) _
      rw [runs_one];cases R c s2 <;> rfl
end EX
namespace EW
open LX SX RW6 EX
open RX (Nd)
section
variable {w0 w w1 w2:World} {E:List Nat} {q:Nat} {DA:Option Addr} {n c:Nat} {ns:List Nd} {dv fv:Value} {X:Except Int (List Fm)} {B:Nat}
theorem sputs_any (h:Stx w0 w E q dv fv X B) (hB:B≤200000) (f:Fm) (ks:List Nat) (hk:ks.length≤10) (hf:f.l=ks) {A:Option Addr} {np d:Nat} (hp:Sl w (E++Zx q fv) (.slice A np d) (strs f.p)) {bk m:Nat} (hb:bk=w.heap.size) (hm:ks.length=m) {xs:Array Value} (hx:(ints ks).toArray=xs) :
    Calls Tryz.prog 56 #[ptr q,.agg #[.int .u8 f.kind,.int .i64 f.at_,.int .i64 f.n,.int .i64 0,.string f.s,.slice A np d,.int .u64 0,.slice (some ⟨bk,0,none⟩) m m]] (w.alloc (.cells xs 3)) (OutQ w0 w E q dv fv (bnd X fun st=>.ok (st++[f],st.length)) (B+1)):=by
  subst hb hm hx;have hF:=(MM.Far.refl [] w).alloc (.cells (ints ks).toArray 3);have hlen:(ints ks).length=ks.length:=by unfold ints;rw [List.length_map]
  have hs:Sl (w.alloc (.cells (ints ks).toArray 3)) (E++Zx q fv) (.slice (some ⟨w.heap.size,0,none⟩) ks.length ks.length) (ints f.l):=by
    rw [hf];have:=Sl.row (Z:=E++Zx q fv) (MM.Row.new w 3 (ints ks)) (fun hm=>by have:=h.zlt _ hm;omega) (by rw [hlen];unfold maxLen;omega);rw [hlen] at this;exact this
  exact (sput_any (h.to hF) hB f (hp.far hF (by simp)) hs).mono fun e w1 hQ=>hQ.from (Fr.quiet hF)
set_option maxHeartbeats 4000000 in
set_option maxRecDepth 20000 in
theorem sfn_any {N:Nat} (HF:FormC w0 q DA n c ns N) (h:Stx w0 w E q (.slice DA n c) fv X B) (hok:Ok ns) (a:Int) {names:List ByteArray} {NA:Option Addr} {np nc:Nat} (hn:Sl w (E++Zx q fv) (.slice NA np nc) (strs names)) {A:Option Addr} {m lc:Nat} {l:List Nat} (hl:Sl w (E++Zx q fv) (.slice A m lc) (ints l)) (hm:l.length=m) (hm5:m≤100000) (hin:∀ i∈l,i < n∧16*T ns i - 8≤N) (hB:B+sumT ns l+2≤200000) :
    Calls Tryz.prog 131 #[ptr q,num a,.slice NA np nc,.slice A m lc] w (OutQ w0 w E q (.slice DA n c) fv (bnd X (exq ns (.fn a names (body a l)))) (B+sumT ns l+2)):=by
  have HC:=Lib.hid (sbody_any HF h hok a hl hm hm5 hin (by omega));have HN:=Lib.hid hn;have HB:=Lib.hid hB;have HEX:Hid (∀ st,exq ns (.fn a names (body a l)) st=bnd (exq ns (body a l) st) fun y=>.ok (y.1++[({ (⟨6,a,0,emp,names,[]⟩:Fm) with l:=[y.2] }:Fm)],y.1.length)):=Lib.hid (fun st=>by
    rw [exq_eq hok];exact runs1 _ _ _ _)
  clear HF h hl hm hin hn hB;unfold ptr num at *;go_enter Tryz.func131,Tryz.ntmps131
  go_wp2_with (first
    | (go_at_call 100;(with_reducible refine HC.out.mono ?_);rintro e w1 ⟨k,fv1,he,hF1,hS1,hk⟩;(replace he:e = .returned (.int .i64 ((k:Nat):Int)):=he);subst he;have HP:=Lib.hid (sputs_any hS1 (by have:=HB.out;omega) (⟨6,a,0,emp,names,[k]⟩:Fm) [k] (by simp) rfl (hF1.sl HN.out) rfl (m:=1) rfl (xs:=#[.int .i64 ((k:Nat):Int)]) rfl);unfold ptr LX.emp at HP;simp only at HP;have HCO:=Lib.hid (collect1 _ (⟨6,a,0,emp,names,[]⟩:Fm) k hk);have HF1:=Lib.hid hF1;clear hF1 hS1 hk)
    | (go_at_call 56;(with_reducible refine HP.out.mono ?_);rintro e w2 hQ;have HQ:=Lib.hid (hQ.from HF1.out);obtain ⟨k2,fv2,he,-⟩:=hQ;(replace he:e = .returned (.int .i64 ((k2:Nat):Int)):=he);subst he))
  go_ret
  have h:=HQ.out;have e:(bnd (fst' (bnd X (exq ns (body a l)))) fun st=>Except.ok (st++[({ (⟨6,a,0,emp,names,[]⟩:Fm) with l:=[k] }:Fm)],st.length))=bnd X (exq ns (.fn a names (body a l))):=by
    rw [HCO.out,bnd_bnd];congr 1
    funext st
    exact (HEX.out st).symm
  rw [← e];exact h
end
end EW
end Go.Proofs.YtehgmmbdlnginaaGreatDoor
