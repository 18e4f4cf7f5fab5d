/-
  Several texts in one: ReadPut,ReadR1,ReadR2,ReadDone. Each one's own head tells its conditions.
-/
import Derived.Test.YtehgmmbdlnginaaGreatDoorQLexPure
import Derived.Test.YtehgmmbdlnginaaGreatDoorQReadMems
import Derived.Deep.RegionLaw
import Derived.Deep.RegionHeld3
import Derived.Deep.DeepCutAuto
import Derived.IntWalk
import Derived.Deep.Onto
namespace Go.Proofs.YtehgmmbdlnginaaGreatDoor
open Go.RowKit
namespace RM6
open LX RX RW6
theorem nodes_slice:Tryz.prog.underlying 53=some (.slice 122):=by kernel_rfl
theorem node_info:(Tryz.prog.info? 122).map (fun i=>(i.zero,i.size,i.bytes))=some (some (.agg #[.int .u8 0,.int .i64 0,.int .i64 0,.string ⟨#[]⟩,.slice none 0 0]),5,64):=by kernel_rfl
theorem ints_slice:Tryz.prog.underlying 24=some (.slice 3):=by kernel_rfl
theorem int_info:(Tryz.prog.info? 3).map (fun i=>(i.zero,i.size,i.bytes))=some (some (.int .i64 0),1,8):=by kernel_rfl
theorem parts_slice:Tryz.prog.underlying 76=some (.slice 83):=by kernel_rfl
theorem part_info:(Tryz.prog.info? 83).map (fun i=>(i.zero,i.size,i.bytes))=some (some (.agg #[.int .i64 0,.bool false,.slice none 0 0]),3,40):=by kernel_rfl
def PutP (w0:World) (q:Nat) (R:Rd) (ex:List (Value × List Nat)) (e:Ending) (w':World):Prop :=
  e = .returned (.tuple #[])∧∃ rv tv ov rs os,Rdr w0 w' q rv tv ov rs R.tops os ex∧rs.map (·.1)=R.row∧os.map (·.1)=R.op
theorem form_ (w0:World) {w:World} {e:TypeId} {size n:Nat} {v:Value} {xs:List Value} (h:w.ownsRow w0.heap.size e size v n xs):∃ A c,v = .slice A n c:=by
  obtain ⟨A,c,e,_⟩:=MO.form h;exact ⟨A,c,e⟩
theorem nd_one (x:Nd) (A:Option Addr) (c:Nat):∀ u∈[Value.int .u8 x.kind,.int .i64 x.at_,.int .i64 x.n,.string x.s,.slice A x.l.length c],u.oneCell'=true:=by
  intro u hu;simp only [List.mem_cons,List.not_mem_nil,or_false] at hu
  rcases hu with rfl | rfl | rfl | rfl | rfl <;> rfl
theorem far_app {W w2:World} {o:Obj} {b:Option Nat} (h:(W.alloc o).drew.grownBy w2 b):MM.Far b.toList W w2 :=
  ((MM.Far.refl b.toList W).alloc o).trans (MM.Far.of_grown (S:=b.toList) (a:=W.alloc o) ⟨h.os,h.tape,h.output,h.size,h.block⟩ (by intro k hk _;simp [hk])) (fun k hk _=>hk)
theorem far_app0 {W w2:World} {o:Obj} {b:Option Nat} (h:(W.alloc o).grownBy w2 b):MM.Far b.toList W w2 :=
  ((MM.Far.refl b.toList W).alloc o).trans (MM.Far.of_grown (S:=b.toList) (a:=W.alloc o) h (by intro k hk _;simp [hk])) (fun k hk _=>hk)
theorem one_int (i:Int):∀ u∈[Value.int .i64 i],u.oneCell'=true:=by
  intro u hu;rw [List.mem_singleton] at hu;subst hu;rfl
theorem kin_push {ops:Array Oper} {rest:List Oper} {o:Oper} {a:Act} {Q:Exit→Act→World→Prop} {base:Nat} {w:World} {v:Value} {l:List Nat} {n:Nat}
    (hO:w.ownsRow base 3 1 v l.length (ints l)) (hb:base≤w.heap.size) (hl:l.length≤100000) (hgd:o.guard=none) (s x:Operand)
    (ho:o.op = .call { callee:=.builtin .append,args:=#[s,x],argTypes:=#[24,24] })
    (hs:a.eval s=v) (hx:a.eval x = .slice (some ⟨w.heap.size,0,none⟩) 1 1)
    (h:∀ A c w',w'.ownsRow base 3 1 (.slice A (l.length+1) c) (l.length+1) (ints l++[.int .i64 ((n:Nat):Int)])→MM.Far v.ownBlock.toList w w' →
      ((Value.slice A (l.length+1) c).ownBlock=v.ownBlock∨∃ b,(Value.slice A (l.length+1) c).ownBlock=some b∧w.heap.size≤b)→wpList Tryz.prog ops Q rest (a.put o.dst (.slice A (l.length+1) c)) w') :
    wpList Tryz.prog ops Q (o::rest) a (w.alloc (.cells #[.int .i64 ((n:Nat):Int)] 3)):=by
  have hF:MM.Far [] w (w.alloc (.cells #[.int .i64 ((n:Nat):Int)] 3)):=(MM.Far.refl [] w).alloc _;refine MO.wpList_append _ hgd s x 24 ho base 3 (.int .i64 0) 1 8 ints_slice int_info rfl (by omega) v l.length (ints l) hs (hO.alloc _) (some ⟨w.heap.size,0,none⟩) 1 1 [.int .i64 ((n:Nat):Int)] hx rfl (fun h=>by cases h) [] ?_ ?_ ?_ ?_ (by have:=hF.size;omega) ?_
  · exact MM.Src.row (MM.Row.new w 3 [.int .i64 ((n:Nat):Int)]) (by simp) _ (fun j u hu=>hu)
  · intro u hu;rw [List.mem_singleton] at hu;subst hu;rfl
  · simp only [maxLen];omega
  · omega
  · intro v' w' hv hg hat;obtain ⟨A,c,rfl,_⟩:=MO.form hv;refine h A c w' hv (far_app0 hg) ?_
    rcases hat with e | e
    · exact .inl e
    · exact .inr ⟨_,e,by have:=hF.size;omega⟩
section
variable {w0 w:World} {q:Nat} {rv tv ov:Value} {rs:List (Nd × Value)} {tops:List Nat} {os:List (Pt × Value)} {ex:List (Value × List Nat)}
theorem open_at {p:Pt} {hp:Value} {os1:List (Pt × Value)} (h:Rdr w0 w q rv tv ov rs tops ((p,hp)::os1) ex):∃ og oc,ov = .slice (some ⟨og,0,none⟩) (os1.length+1) oc ∧
    w.cell? ⟨og,os1.length*3,none⟩=some (.int .i64 p.at_)∧w.cell? ⟨og,os1.length*3+1,none⟩=some (.bool p.q)∧w.cell? ⟨og,os1.length*3+2,none⟩=some hp∧(∀ i,w.frozen? ⟨og,i,none⟩=false)∧og < w.heap.size∧w0.heap.size≤og:=by
  have ho:=h.op;obtain ⟨A,c,e,_,_,_,_,hh⟩:=MO.form ho;have hlt:=fun b (hb:ov.ownBlock=some b)=>MM.own_lt ho b hb
  rcases hh with ⟨_,hz,_⟩ | ⟨og,rfl,_,_⟩
  · simp at hz
  subst e;have hcells:=fun j u (hu:(ptC ((p,hp)::os1).reverse)[j]? = some u)=>@World.ownsRow.cells w _ _ _ _ _ _ ho og rfl j u hu
  have hadd:∀ j,(⟨og,0,none⟩:Addr).add j=⟨og,j,none⟩:=by intro j;unfold Addr.add;split <;> simp_all
  have hget:∀ j u,([.int .i64 p.at_,.bool p.q,hp]:List Value)[j]? = some u→(ptC ((p,hp)::os1).reverse)[os1.length*3+j]? = some u:=by
    intro j u hu;rw [List.reverse_cons,ptC_snoc,List.getElem?_append_right (by rw [ptC_len,List.length_reverse];omega),ptC_len,List.length_reverse,show os1.length*3+j - os1.length*3=j by omega];exact hu
  have at_:=fun j u hu=>(hadd (os1.length*3+j)) ▸ hcells _ u (hget j u hu)
  refine ⟨og,c,rfl,at_ 0 _ rfl,at_ 1 _ rfl,at_ 2 _ rfl,?_,(hlt og rfl).1,(hlt og rfl).2⟩
  intro i
  rcases ho.2 with ⟨hz,_⟩ | ⟨g,cap,cur,hz,_,hg,_⟩
  · cases hz
  · injection hz with hz;injection hz with hz;injection hz with hz;subst hz;simp [World.frozen?,hg]
theorem end_none {x:Nd} {hx:Value} (h:Rdr w0 w q rv tv ov (rs++[(x,hx)]) (tops++[rs.length]) [] ex):PutP w0 q (putO [] (rs.map (·.1)) tops x) ex (.returned (.tuple #[])) w:=by
  refine ⟨rfl,rv,tv,ov,rs++[(x,hx)],[],?_,by simp [putO],rfl⟩
  show Rdr w0 w q rv tv ov _ (tops++[(rs.map (·.1)).length]) [] ex
  rw [List.length_map];exact h
theorem end_some {x:Nd} {hx hp hp0:Value} {p:Pt} {os1:List (Pt × Value)} (hq:¬ (p.q=true∧p.l.length+1=2)) (h:Rdr w0 w q rv tv ov (rs++[(x,hx)]) tops ((⟨p.at_,p.q,p.l++[rs.length]⟩,hp)::os1) ex) :
    PutP w0 q (putO (((p,hp0)::os1).map (·.1)) (rs.map (·.1)) tops x) ex (.returned (.tuple #[])) w:=by
  rw [List.map_cons];unfold putO;rw [if_neg hq];exact ⟨rfl,rv,tv,ov,_,_,h,by simp,by simp⟩
theorem end_eq {x:Nd} (hx:Value) {hp0:Value} {p:Pt} {os1:List (Pt × Value)} (hq:p.q=true∧p.l.length+1=2) :
    putO (((p,hp0)::os1).map (·.1)) (rs.map (·.1)) tops x=putO (os1.map (·.1)) ((rs++[(x,hx)]).map (·.1)) tops ⟨4,p.at_,0,emp,p.l++[rs.length]⟩:=by
  rw [List.map_cons];conv=>lhs;unfold putO
  rw [if_pos hq];simp
theorem put_head (h:Rdr w0 w q rv tv ov rs tops os ex):∃ oA oc,ov = .slice oA os.length oc:=form_ w0 h.op
def Cut1 (w0:World) (q:Nat) (tv ov:Value) (rs:List (Nd × Value)) (x:Nd) (hx:Value) (tops:List Nat) (os:List (Pt × Value)) (ex:List (Value × List Nat)) (wx:World):Prop :=
  ∃ A2 c2,Rdr w0 wx q (.slice A2 (rs.length+1) c2) tv ov (rs++[(x,hx)]) tops os ex
def Cut2 (w0:World) (q:Nat) (rv tv ov:Value) (rs:List (Nd × Value)) (tops:List Nat) (p:Pt) (n:Nat) (os:List (Pt × Value)) (ex:List (Value × List Nat)) (wx:World):Prop :=
  ∃ A5 c5,Rdr w0 wx q rv tv ov rs tops ((⟨p.at_,p.q,p.l++[n]⟩,.slice A5 (p.l.length+1) c5)::os) ex
set_option maxRecDepth 20000 in
set_option maxHeartbeats 4000000 in
theorem put_of (x:Nd) (A:Option Addr) (c:Nat) (h:Rdr w0 w q rv tv ov rs tops os ((.slice A x.l.length c,x.l)::ex)) (hn:rs.length+os.length≤20000) (ht:tops.length≤20000)
    (hl:∀ p∈os,p.1.l.length≤20000)
    (HC:Hid (∀ w1 rv1 rs1 p hp os1,os.length=os1.length+1→rs1.length=rs.length+1→(∀ z∈os1,z.1.l.length≤20000)→Rdr w0 w1 q rv1 tv ov rs1 tops ((p,hp)::os1) ex →
      Calls Tryz.prog 54 #[.pointer (some ⟨q,0,none⟩)] w1 (PutP w0 q (putO (os1.map (·.1)) (rs1.map (·.1)) tops ⟨4,p.at_,0,emp,p.l⟩) ex))) :
    Calls Tryz.prog 53 #[.pointer (some ⟨q,0,none⟩),.agg #[.int .u8 x.kind,.int .i64 x.at_,.int .i64 x.n,.string x.s,.slice A x.l.length c]] w
      (PutP w0 q (putO (os.map (·.1)) (rs.map (·.1)) tops x) ex):=by
  obtain ⟨oA,oc,rfl⟩:=put_head h;have hB:=MM.Row.new w 122 [.int .u8 x.kind,.int .i64 x.at_,.int .i64 x.n,.string x.s,.slice A x.l.length c];have hR:=h.to ((MM.Far.refl [] w).alloc (.cells #[.int .u8 x.kind,.int .i64 x.at_,.int .i64 x.n,.string x.s,.slice A x.l.length c] 122));have z0:=hB.at (i:=0) rfl;have z1:=hB.at (i:=1) rfl;have z2:=hB.at (i:=2) rfl;have z3:=hB.at (i:=3) rfl;have z4:=hB.at (i:=4) rfl;have c0:=hR.head.at (i:=0) rfl;have f0:=hR.head.frozen 0;have HR:=Lib.hid hR;clear hB hR h;have hbW:=HR.out.far.size;go_enter Tryz.func53,Tryz.ntmps53
  go_wp2;generalize hWE:w.alloc (.cells #[.int .u8 x.kind,.int .i64 x.at_,.int .i64 x.n,.string x.s,.slice A x.l.length c] 122)=W at *;have c0a:=(HR.out.to ((MM.Far.refl [] W).alloc (.cells #[.int .u8 x.kind,.int .i64 x.at_,.int .i64 x.n,.string x.s,.slice A x.l.length c] 122))).head.at (i:=0) rfl
  go_cut [] (fun wx=>Cut1 w0 q tv (.slice oA os.length oc) rs x (.slice A x.l.length c) tops os ex wx)
  case first =>
    go_region_law (
      refine MO.step_append ?_ (.tmp 10) (.tmp 12) 53 ?_ w0.heap.size 122 _ 5 64 nodes_slice node_info rfl (by omega) rv rs.length (ndC rs) ?_ ?_ (some ⟨W.heap.size,0,none⟩) 1 1 [.int .u8 x.kind,.int .i64 x.at_,.int .i64 x.n,.string x.s,.slice A x.l.length c] ?_ rfl (fun h=>by cases h) [] ?_ (nd_one x A c) ?_ ?_ ?_ ?_
      · rfl
      · rfl
      · rfl
      · exact HR.out.row.alloc _
      · rfl
      · exact (MM.Src.row (MM.Row.new W 122 [.int .u8 x.kind,.int .i64 x.at_,.int .i64 x.n,.string x.s,.slice A x.l.length c]) (by simp) _ (fun j u hu=>hu))
      · simp only [maxLen];omega
      · omega
      · simp;omega
      intro v2 w2 hv2 hg2 hat2;obtain ⟨A2,c2,rfl⟩:=form_ w0 hv2;have F2:MM.Far rv.ownBlock.toList W w2:=far_app hg2;have HH2:Hid (MM.Row w2 q 78 _):=Lib.hid (HR.out.head.far F2 (fun hm=>MM.own_row_ne HR.out.row HR.out.head (by decide) (by simpa using hm)));have d2W:=HH2.out.at (i:=0) rfl;have e2W:=HH2.out.frozen 0;have HN:=Lib.hid (HR.out.node (w1:=w2) x (.slice A x.l.length c) hv2 F2);clear hg2 hv2 hat2)
    all_goals
      go_wp2_with fail
      go_meet
      exact ⟨A2,c2,HN.out⟩
  case rest =>
    obtain ⟨A2,c2,hR2⟩:=hcut;have HN:=Lib.hid hR2;clear hR2 z0 z1 z2 z3 z4 c0 f0 c0a HR hWE hbW;have k0:=HN.out.head.at (i:=0) rfl;have k1:=HN.out.head.at (i:=1) rfl;have k2:=HN.out.head.at (i:=2) rfl;have hb3:=HN.out.far.size;have HT:=Lib.hid (show wc.ownsRow w0.heap.size 3 1 tv tops.length (ints tops) from HN.out.kin.each _ (List.mem_cons_self ..));by_cases ho:os.length=0
    · have d0:decide ((os.length:Int)=0)=true:=by simp [ho]
      go_wp2_with (first
        | (at_builtin;refine kin_push HT.out hb3 (by omega) rfl (.tmp 32) (.tmp 34) rfl rfl rfl ?_;intro tA tc w4 ho4 hf4 ha4;have HH4:Hid (MM.Row w4 q 78 _):=Lib.hid (HN.out.head.far hf4 (fun hm=>MM.own_row_ne HT.out HN.out.head (by decide) (by simpa using hm)));have g1:=HH4.out.at (i:=1) rfl;have g2:=HH4.out.frozen 1;have HD:=Lib.hid (HN.out.top ho4 hf4 ha4);clear ho4 hf4 ha4))
      refine bodyPost_ret (results_none rfl _ _ _) rfl ?_
      obtain rfl:os=[]:=List.eq_nil_of_length_eq_zero ho;exact end_none HD.out
    · obtain ⟨⟨p,hp⟩,os1,rfl⟩:∃ z os1,os=z::os1:=by
        cases os with
        | nil=>exact absurd rfl ho
        | cons z l=>exact ⟨z,l,rfl⟩
      obtain ⟨og,oc2,e,cA,cQ,cL,hfz,hog,hog0⟩:=open_at HN.out;injection e with e1 e2 e3;subst e1 e3;clear e2 ho;have HP:=Lib.hid (show wc.ownsRow w0.heap.size 3 1 hp p.l.length (ints p.l) from HN.out.kin.each (hp,p.l) (by simp [kinsP]));obtain ⟨hA,hc,rfl⟩:=form_ w0 HP.out;have hpl:p.l.length≤20000:=hl (p,.slice hA p.l.length hc) (List.mem_cons_self ..);have hfz2:=hfz (os1.length*3+2);have HLS:=Lib.hid (fun z hz=>hl z (List.mem_cons_of_mem _ hz));have F3:MM.Far [] wc (wc.alloc (.cells #[.int .i64 ((rs.length:Nat):Int)] 3)):=(MM.Far.refl [] wc).alloc _;have cL3:=(F3.cell (p:=⟨og,os1.length*3+2,none⟩) hog (by simp)).trans cL;have k23:=(HN.out.to F3).head.at (i:=2) rfl;rw [List.length_cons] at k2 k23;have d0:decide (((os1.length:Nat):Int)+1=0)=false:=by simp;omega
      have hos:os1.length < 20000:=by rw [List.length_cons] at hn;omega
      have hlt1:(os1.length:Int) < (os1.length:Int)+1:=by omega
      have hne:=own_off HN.out.op HP.out (by decide) og rfl;go_wp2
      go_cut [] (fun wx=>Cut2 w0 q (.slice A2 (rs.length+1) c2) tv (.slice (some ⟨og,0,none⟩) (os1.length+1) oc) (rs++[(x,.slice A x.l.length c)]) tops p rs.length os1 ex wx)
      case first =>
        go_region_law (
          refine MO.step_append ?_ (.tmp 56) (.tmp 58) 24 ?_ w0.heap.size 3 _ 1 8 ints_slice int_info rfl (by omega) (.slice hA p.l.length hc) p.l.length (ints p.l) ?_ ?_ (some ⟨wc.heap.size,0,none⟩) 1 1 [.int .i64 ((rs.length:Nat):Int)] ?_ rfl (fun h=>by cases h) [] ?_ (one_int _) ?_ ?_ ?_ ?_
          · rfl
          · rfl
          · rfl
          · exact HP.out.alloc _
          · rfl
          · exact (MM.Src.row (MM.Row.new wc 3 [.int .i64 ((rs.length:Nat):Int)]) (by simp) _ (fun j u hu=>hu))
          · simp only [maxLen];omega
          · omega
          · simp;omega
          intro v5 w5 hv5 hg5 hat5;obtain ⟨A5,c5,rfl⟩:=form_ w0 hv5;have F5:MM.Far (Value.slice hA p.l.length hc).ownBlock.toList wc w5:=far_app0 (W:=wc) (o:=.cells #[.int .i64 ((rs.length:Nat):Int)] 3) ⟨hg5.os,hg5.tape,hg5.output,hg5.size,hg5.block⟩;have c5L:=(F5.cell (p:=⟨og,os1.length*3+2,none⟩) hog hne).trans cL;have c5f:=(F5.frozen (p:=⟨og,os1.length*3+2,none⟩) hog hne).trans hfz2;have HH5:Hid (MM.Row w5 q 78 _):=Lib.hid (HN.out.head.far F5 (fun hm=>MM.own_row_ne HP.out HN.out.head (by decide) (by simpa using hm)));have k25:=HH5.out.at (i:=2) rfl;rw [List.length_cons] at k25;have HM:=Lib.hid (HN.out.more rfl hv5 F5 (hat5.imp id (fun e=>⟨_,e,F3.size⟩)));clear hg5 hat5 hv5)
        all_goals
          go_wp2_with fail
          go_meet
          exact ⟨A5,c5,HM.out⟩
      case rest =>
        obtain ⟨A5,c5,hR5⟩:=hcut;have HM:=Lib.hid hR5;clear hR5 cA cQ cL hfz hfz2 F3 cL3 k23 hl hn ht k0 k1 k2;obtain ⟨og6,oc6,e6,cA6,cQ6,cL6,hfz6,hog6,hog60⟩:=open_at HM.out;injection e6 with e61 e62 e63;injection e61 with e61;injection e61 with e61;subst e61 e63;clear e62;have k26:=HM.out.head.at (i:=2) rfl;clear cA6 hfz6 hog60 hog6;obtain ⟨bq,hbq⟩:∃ bq,p.q=bq:=⟨_,rfl⟩
        have HBQ:=Lib.hid hbq;simp only [hbq] at cQ6
        clear hbq;have HC6:=Lib.hid cQ6;clear cQ6;cases bq with
        | false =>
          have cQ7:=HC6.out;have HE:=Lib.hid (end_some (hp0:=.slice hA p.l.length hc) (by rw [HBQ.out];simp) HM.out);clear HM HN;go_wp2;refine bodyPost_ret (results_none rfl _ _ _) rfl ?_
          exact HE.out
        | true =>
          have cQ7:=HC6.out;by_cases hl2:p.l.length=1
          · have d2:decide (((p.l.length:Nat):Int)+1=2)=true:=by simp;omega
            have E:=end_eq (rs:=rs) (tops:=tops) (x:=x) (.slice A x.l.length c) (hp0:=.slice hA p.l.length hc) (os1:=os1) ⟨HBQ.out,by omega⟩;have HC2:=Lib.hid (HC.out wc _ _ _ _ os1 (List.length_cons ..) (List.length_append ..) HLS.out HM.out);have HE:=Lib.hid E;clear E HM HC
            go_wp2_with (first | (go_at_call 54;refine HC2.out.mono ?_;rintro e7 w7 ⟨rfl,h7⟩;have H7:=Lib.hid h7;clear h7))
            refine bodyPost_ret (results_none rfl _ _ _) rfl ?_
            rw [HE.out];exact ⟨rfl,H7.out⟩
          · have d2:decide (((p.l.length:Nat):Int)+1=2)=false:=by simp;omega
            have HE:=Lib.hid (end_some (hp0:=.slice hA p.l.length hc) (by omega) HM.out);clear HM;go_wp2;refine bodyPost_ret (results_none rfl _ _ _) rfl ?_
            exact HE.out
end
end RM6
end Go.Proofs.YtehgmmbdlnginaaGreatDoor
namespace Go.Proofs.YtehgmmbdlnginaaGreatDoor
open Go.RowKit
namespace RM6
open LX RX RW6
section
variable {w0 w:World} {q:Nat} {rv tv ov:Value} {rs:List (Nd × Value)} {tops:List Nat} {os:List (Pt × Value)} {ex:List (Value × List Nat)}
theorem op_front {p:Pt} {hp:Value} {os1:List (Pt × Value)} {og oc:Nat} (h:Rdr w0 w q rv tv (.slice (some ⟨og,0,none⟩) (os1.length+1) oc) rs tops ((p,hp)::os1) ex):w.ownsRow w0.heap.size 83 3 (.slice (some ⟨og,0,none⟩) os1.length oc) os1.length (ptC os1.reverse):=by
  have:=RC6.own_front (n:=os1.length+1) h.op os1.length (by omega);rw [List.reverse_cons,ptC_snoc,List.take_append_of_le_length (by rw [ptC_len,List.length_reverse];omega),List.take_of_length_le (by rw [ptC_len,List.length_reverse];omega)] at this;exact this
theorem ptC_one (os:List (Pt × Value)) (h:∀ z∈os,∃ A c,z.2 = .slice A z.1.l.length c):∀ u∈ptC os,u.oneCell'=true:=by
  intro u hu;unfold ptC at hu;obtain ⟨z,hz,hu⟩:=List.mem_flatMap.1 hu;obtain ⟨A,c,e⟩:=h z hz;simp only [List.mem_cons,List.not_mem_nil,or_false] at hu
  rcases hu with rfl | rfl | rfl
  · rfl
  · rfl
  · rw [e];rfl
def CutB (w:World) (p:Pt) (hp:Value) (tb:Nat) (wx:World):Prop:=MM.Far [] w wx∧MM.Row wx tb 83 [.int .i64 p.at_,.bool p.q,hp]
def CutN (w0:World) (q:Nat) (rv tv:Value) (rs:List (Nd × Value)) (tops:List Nat) (p:Pt) (hp:Value) (os1:List (Pt × Value)) (ex:List (Value × List Nat)) (tb:Nat) (wx:World):Prop :=
  (∃ ov',Rdr w0 wx q rv tv ov' rs tops os1 ((hp,p.l)::ex))∧MM.Row wx tb 83 [.int .i64 p.at_,.bool p.q,hp]
set_option maxHeartbeats 4000000 in
set_option maxRecDepth 20000 in
theorem close_of {p:Pt} {hp:Value} {os1:List (Pt × Value)} (h:Rdr w0 w q rv tv ov rs tops ((p,hp)::os1) ex) (hn:rs.length+os1.length≤20000)
    (HP:Hid (∀ w1 ov1 A c,hp = .slice A p.l.length c→Rdr w0 w1 q rv tv ov1 rs tops os1 ((.slice A p.l.length c,p.l)::ex) →
      Calls Tryz.prog 53 #[.pointer (some ⟨q,0,none⟩),.agg #[.int .u8 4,.int .i64 p.at_,.int .i64 0,.string emp,.slice A p.l.length c]] w1
        (PutP w0 q (putO (os1.map (·.1)) (rs.map (·.1)) tops ⟨4,p.at_,0,emp,p.l⟩) ex))) :
    Calls Tryz.prog 54 #[.pointer (some ⟨q,0,none⟩)] w (PutP w0 q (putO (os1.map (·.1)) (rs.map (·.1)) tops ⟨4,p.at_,0,emp,p.l⟩) ex):=by
  obtain ⟨og,oc,rfl,cA,cQ,cL,hfz,hog,hog0⟩:=open_at h;obtain ⟨hA,hc,rfl⟩:∃ A c,hp = .slice A p.l.length c:=form_ w0 (h.kin.each (hp,p.l) (by simp [kinsP]));have c2:=h.head.at (i:=2) rfl;have HR:=Lib.hid h;have hoc:os1.length+1≤oc∧oc≤maxLen:=by
    obtain ⟨A,c,e,_,h1,h2,_⟩:=MO.form h.op;injection e with _ _ e3;subst e3;exact ⟨h1,h2⟩
  obtain ⟨hc1,hc2⟩:=hoc;have hoc0:¬ oc=0:=by omega
  have hcI:(os1.length:Int)≤(oc:Int):=by omega
  have hcI2:(0:Int)≤(os1.length:Int):=by omega
  have hcI3:(os1.length:Int) < (os1.length:Int)+1:=by omega
  have hos:os1.length≤20000:=by omega
  unfold maxLen at hc2;have F1:MM.Far [] w (w.alloc (.cells #[.int .i64 0,.bool false,.slice none 0 0] 83)):=(MM.Far.refl [] w).alloc _;have c2a:=(HR.out.to F1).head.at (i:=2) rfl;have cAa:=(F1.cell (p:=⟨og,os1.length*3,none⟩) hog (by simp)).trans cA;have cQa:=(F1.cell (p:=⟨og,os1.length*3+1,none⟩) hog (by simp)).trans cQ;have cLa:=(F1.cell (p:=⟨og,os1.length*3+2,none⟩) hog (by simp)).trans cL;clear h F1;go_enter Tryz.func54,Tryz.ntmps54
  go_wp2
  go_cut [2] (fun s2 wx=>∃ tb,s2 = .pointer (some ⟨tb,0,none⟩)∧CutB w p (.slice hA p.l.length hc) tb wx)
  case first =>
    go_region
    all_goals
      go_wp2_with fail
      go_meet
      exact ⟨w.heap.size,rfl,((MM.Far.refl [] w).alloc _).drew,(MM.Row.new w 83 [.int .i64 p.at_,.bool p.q,.slice hA p.l.length hc]).drew⟩
  case rest =>
    obtain ⟨tb,rfl,hF,hB⟩:=hcut;have HR1:=Lib.hid (HR.out.to hF);have HB:=Lib.hid hB;clear hF hB HR c2 c2a cAa cQa cLa cA cQ cL hfz;have c2:=HR1.out.head.at (i:=2) rfl;have f2:=HR1.out.head.frozen 2;have c2a:=(HR1.out.to ((MM.Far.refl [] wc).alloc (.cells #[] 83))).head.at (i:=2) rfl;have HO:=Lib.hid (op_front HR1.out);have HONE:=Lib.hid (ptC_one os1.reverse (fun z hz=>form_ w0 (HR1.out.kin.each (z.2,z.1.l) (by
      have:z∈os1:=List.mem_reverse.1 hz;simp only [kinsP,List.map_cons,List.mem_cons,List.mem_append,List.mem_map]
      exact .inr (.inr (.inl (.inr ⟨z,this,rfl⟩)))))))
    have HSRC:Hid (MM.Src wc [] (some ⟨og,0,none⟩) (ptC os1.reverse)):=Lib.hid (by
      obtain ⟨A,c,e,_,_,_,k3,_⟩:=MO.form HO.out;injection e with e1 _ _;rw [e1];exact k3 [] (by simp))
    have hbW:=HR1.out.far.size;have hwr:IntKind.i64.wrap ((os1.length:Nat):Int)=(os1.length:Int):=IntWalk.i64_in _ (by omega);go_wp2
    go_cut [] (fun wx=>CutN w0 q rv tv rs tops p (.slice hA p.l.length hc) os1 ex tb wx)
    case first =>
      go_region_law (
        refine MO.step_append ?_ (.tmp 16) (.tmp 27) 76 ?_ w0.heap.size 83 _ 3 40 parts_slice part_info rfl (by omega) (.slice (some ⟨wc.heap.size,0,none⟩) 0 0) 0 [] ?_ ?_ (some ⟨og,0,none⟩) os1.length oc (ptC os1.reverse) ?_ (by rw [ptC_len,List.length_reverse]) (fun h=>by cases h) [] ?_ HONE.out ?_ ?_ ?_ ?_
        · rfl
        · rfl
        · rfl
        · exact MO.of_row (MM.Row.new wc 83 []) hbW (by simp) (by simp)
        · rfl
        · first | exact MM.Src.far (T:=[]) HSRC.out ((MM.Far.refl [] wc).alloc (.cells #[] 83)).drew (fun b hb=>hb) | exact MM.Src.far (T:=[]) HSRC.out ((MM.Far.refl [] wc).alloc (.cells #[] 83)) (fun b hb=>hb)
        · simp only [maxLen];omega
        · omega
        · simp;omega
        intro v2 w2 hv2 hg2 hat2;obtain ⟨A2,c2',e2⟩:=form_ w0 hv2;subst e2;have F2:MM.Far [] wc w2:=((MM.Far.refl [] wc).alloc (.cells #[] 83)).trans (MM.Far.of_grown (S:=[wc.heap.size]) (a:=wc.alloc (.cells #[] 83)) ⟨hg2.os,hg2.tape,hg2.output,hg2.size,hg2.block⟩ (by intro k hk _;simpa [Value.ownBlock,eq_comm] using hk)) (fun b hb hl=>by
          have e:b=wc.heap.size:=by simpa using hb
          omega)
        have HH2:Hid (MM.Row w2 q 78 _):=Lib.hid (HR1.out.head.far F2 (by simp));have d2W:=HH2.out.at (i:=2) rfl;have e2W:=HH2.out.frozen 2;have HN:=Lib.hid (HR1.out.pop (w1:=w2) (by rw [Nat.zero_add,List.nil_append] at hv2;exact hv2) F2);have HB2:=Lib.hid ((HB.out.far F2 (by simp)).other (p:=⟨q,2,none⟩) (fun e=>by
          have hbq:=HB.out;rw [e] at hbq;exact HR1.out.head.ne hbq (by decide) rfl) (.slice A2 os1.length c2'))
        clear hg2 hv2 hat2 F2)
      all_goals
        go_wp2_with fail
        go_meet
        exact ⟨⟨_,HN.out⟩,HB2.out⟩
    case rest =>
      obtain ⟨⟨ov',hR2⟩,hB2⟩:=hcut;have b0:=hB2.at (i:=0) rfl;have b2:=hB2.at (i:=2) rfl;have HC:=Lib.hid (HP.out wc ov' hA hc rfl hR2);clear hR2 hB2 hwr
      go_wp2_with (go_at_call 53;refine HC.out.mono ?_;rintro e w4 ⟨rfl,h4⟩;have H4:=Lib.hid h4;clear h4)
      refine bodyPost_end (results_none rfl _ _ _) rfl ?_
      exact ⟨rfl,H4.out⟩
end
end RM6
end Go.Proofs.YtehgmmbdlnginaaGreatDoor
namespace Go.Proofs.YtehgmmbdlnginaaGreatDoor
open Go.RowKit
namespace RM6
open LX RX RW6
theorem close_all:∀ (m:Nat) {w0 w:World} {q:Nat} {rv tv ov:Value} {rs:List (Nd × Value)} {tops:List Nat} {ex:List (Value × List Nat)} {p:Pt} {hp:Value} {os1:List (Pt × Value)},os1.length=m →
    Rdr w0 w q rv tv ov rs tops ((p,hp)::os1) ex→rs.length+os1.length≤20000→tops.length≤20000→(∀ z∈os1,z.1.l.length≤20000) →
    Calls Tryz.prog 54 #[.pointer (some ⟨q,0,none⟩)] w (PutP w0 q (putO (os1.map (·.1)) (rs.map (·.1)) tops ⟨4,p.at_,0,emp,p.l⟩) ex):=by
  intro m;induction m with
  | zero =>
    intro w0 w q rv tv ov rs tops ex p hp os1 hm h hn ht hl;refine close_of h hn (Lib.hid fun w1 ov1 A c _ h1=>?_)
    refine put_of ⟨4,p.at_,0,emp,p.l⟩ A c h1 hn ht hl (Lib.hid fun w2 rv2 rs2 p2 hp2 os2 e _ _ _=>?_)
    omega
  | succ m ih =>
    intro w0 w q rv tv ov rs tops ex p hp os1 hm h hn ht hl;refine close_of h hn (Lib.hid fun w1 ov1 A c _ h1=>?_)
    refine put_of ⟨4,p.at_,0,emp,p.l⟩ A c h1 hn ht hl (Lib.hid fun w2 rv2 rs2 p2 hp2 os2 e1 e2 hl2 h2=>?_)
    exact ih (by omega) h2 (by omega) ht hl2
section
variable {w0 w:World} {q:Nat} {rv tv ov:Value} {rs:List (Nd × Value)} {tops:List Nat} {os:List (Pt × Value)} {ex:List (Value × List Nat)}
theorem put_any (x:Nd) (A:Option Addr) (c:Nat) (h:Rdr w0 w q rv tv ov rs tops os ((.slice A x.l.length c,x.l)::ex)) (hn:rs.length+os.length≤20000) (ht:tops.length≤20000) (hl:∀ p∈os,p.1.l.length≤20000) :
    Calls Tryz.prog 53 #[.pointer (some ⟨q,0,none⟩),.agg #[.int .u8 x.kind,.int .i64 x.at_,.int .i64 x.n,.string x.s,.slice A x.l.length c]] w
      (PutP w0 q (putO (os.map (·.1)) (rs.map (·.1)) tops x) ex) :=
  put_of x A c h hn ht hl (Lib.hid fun _ _ _ _ _ os2 _ _ hl2 h2=>close_all os2.length rfl h2 (by omega) ht hl2)
def Has (w0 w:World) (q:Nat) (r:Rd):Prop:=∃ rv tv ov rs os,Rdr w0 w q rv tv ov rs r.tops os []∧rs.map (·.1)=r.row∧os.map (·.1)=r.op
theorem Has.to {w1:World} {r:Rd} (h:Has w0 w q r) (f:MM.Far [] w w1):Has w0 w1 q r:=by
  obtain ⟨rv,tv,ov,rs,os,h1,h2,h3⟩:=h;exact ⟨rv,tv,ov,rs,os,h1.to f,h2,h3⟩
theorem Has.far {r:Rd} (h:Has w0 w q r):MM.Far [] w0 w:=by
  obtain ⟨_,_,_,_,_,h1,_⟩:=h;exact h1.far
theorem put_has {w':World} {r:Rd} {x:Nd} {e:Ending} (hrs:rs.map (·.1)=r.row) (hos:os.map (·.1)=r.op) (h:PutP w0 q (putO (os.map (·.1)) (rs.map (·.1)) r.tops x) [] e w'):e = .returned (.tuple #[])∧Has w0 w' q (put r x):=by
  obtain ⟨he,rv,tv,ov,rs2,os2,h1,h2,h3⟩:=h;rw [hrs,hos] at h1 h2 h3;exact ⟨he,rv,tv,ov,rs2,os2,h1,h2,h3⟩
def TokC (w0 w:World) (q:Nat) (X:Except Int Rd) (e:Ending) (w':World):Prop:=match X with
  | .error z=>e = .returned (.int .i64 z)∧MM.Far [] w w'
  | .ok r=>e = .returned (.int .i64 0)∧Has w0 w' q r
def CutP (w0:World) (q:Nat) (rv tv:Value) (rs:List (Nd × Value)) (tops:List Nat) (os:List (Pt × Value)) (a:Int) (b:Bool) (tb:Nat) (l:List Value) (wx:World):Prop :=
  MM.Row wx tb 81 l∧∃ ov',Rdr w0 wx q rv tv ov' rs tops ((⟨a,b,[]⟩,.slice none 0 0)::os) []
theorem pt_one (a:Int) (b:Bool):∀ u∈[Value.int .i64 a,.bool b,.slice none 0 0],u.oneCell'=true:=by
  intro u hu;simp only [List.mem_cons,List.not_mem_nil,or_false] at hu
  rcases hu with rfl | rfl | rfl <;> rfl
set_option maxHeartbeats 4000000 in
set_option maxRecDepth 20000 in
theorem token_any (t:Tk) (htk:t.kind=1∨t.kind=2∨t.kind=3∨t.kind=4∨t.kind=5∨t.kind=6) (r:Rd) (h:Has w0 w q r) (hbd:Bd r 19990) :
    Calls Tryz.prog 28 #[.pointer (some ⟨q,0,none⟩),.agg #[.int .u8 t.kind,.int .i64 t.at_,.int .i64 t.n,.string t.s]] w
      (TokC w0 w q (token r t)):=by
  have hF0:=(MM.Far.refl [] w).alloc (.cells #[.int .u8 t.kind,.int .i64 t.at_,.int .i64 t.n,.string t.s] 81);have HF:=Lib.hid hF0;obtain ⟨rv,tv,ov,rs,os,hR,hrs,hos⟩:=h.to hF0;obtain ⟨oA,oc,rfl⟩:=form_ w0 hR.op;have HB:=Lib.hid (MM.Row.new w 81 [.int .u8 t.kind,.int .i64 t.at_,.int .i64 t.n,.string t.s]);have z0:=HB.out.at (i:=0) rfl;have z1:=HB.out.at (i:=1) rfl;have z2:=HB.out.at (i:=2) rfl;have z3:=HB.out.at (i:=3) rfl;have c2:=hR.head.at (i:=2) rfl;have hol:os.length=r.op.length:=by rw [← hos,List.length_map]
  have hsum:rs.length+os.length≤19990:=by have:=hbd.sum;rw [← hrs,← hos,List.length_map,List.length_map] at this;exact this
  have htop:r.tops.length≤20000:=by have:=hbd.tops;omega
  have hls:∀ p∈os,p.1.l.length≤20000:=fun p hp=>by have:=hbd.lists _ (by rw [← hos];exact List.mem_map_of_mem hp);omega
  have HR:=Lib.hid hR;have HRS:=Lib.hid hrs;have HOS:=Lib.hid hos;have HOL:=Lib.hid hol;have HBD:=Lib.hid hbd;have HLS:=Lib.hid hls;have HSUM:=Lib.hid hsum;have HTOP:=Lib.hid htop;clear hF0 h hR hrs hos hbd hls htop hol;obtain ⟨kd,at_,n,s⟩:=t;simp only at *
  have hos2:os.length≤20000:=by omega
  clear hsum;go_enter Tryz.func28,Tryz.ntmps28
  go_wp2;obtain ⟨tb,htb⟩:∃ tb,w.heap.size=tb:=⟨_,rfl⟩
  rw [htb] at HB z0 z1 z2 z3;rw [htb];clear htb;generalize hWE:w.alloc (.cells #[.int .u8 kd,.int .i64 at_,.int .i64 n,.string s] 81)=W at *;have HB':Hid (MM.Row W tb 81 [.int .u8 kd,.int .i64 at_,.int .i64 n,.string s]):=Lib.hid (hWE ▸ HB.out);clear hWE HB
  go_cut [5] (fun s5 wx=>s5 = .bool (inQ r)∧∃ d,wx=W.drewN d)
  case first =>
    by_cases ho:os.length=0
    · have d1:decide ((0:Int) < (os.length:Int))=false:=by rw [decide_eq_false_iff_not];omega
      have d2:decide (0 < os.length)=false:=by rw [decide_eq_false_iff_not];omega
      have d3:¬ 0 < os.length:=by omega
      have HE:Hid (inQ r=false):=Lib.hid (by
        have:r.op=[]:=List.length_eq_zero_iff.1 (by rw [← HOL.out];exact ho);unfold inQ;rw [this])
      clear ho;go_quiet (fail)
      go_wp2;go_meet
      exact ⟨by rw [HE.out],_,rfl⟩
    · obtain ⟨⟨p,hp⟩,os1,rfl⟩:∃ z os1,os=z::os1:=by
        cases os with
        | nil=>exact absurd rfl ho
        | cons z l=>exact ⟨z,l,rfl⟩
      obtain ⟨og,oc2,e,cA,cQ,cL,hfz,hog,hog0⟩:=open_at HR.out;injection e with e1 e2 e3;subst e1 e3;have HE:Hid (inQ r=p.q):=Lib.hid (by
        unfold inQ;rw [← HOS.out,List.map_cons])
      rw [List.length_cons] at c2 hos2;have d1:decide ((0:Int) < ((os1.length:Nat):Int)+1)=true:=by rw [decide_eq_true_iff];omega
      have h1:(os1.length:Int) < (os1.length:Int)+1:=by omega
      have hwr:IntKind.i64.wrap ((os1.length:Nat):Int)=(os1.length:Int):=IntWalk.i64_in _ (by omega);clear ho e2;go_quiet (fail)
      go_wp2;go_meet
      exact ⟨by rw [HE.out],_,rfl⟩
  case rest =>
    obtain ⟨rfl,d,rfl⟩:=hcut;have hFd:=(MM.Far.refl [] W).drewN d;have HRd:=Lib.hid (HR.out.to hFd);have HBd:=Lib.hid (HB'.out.far hFd (by simp));have HF2:=Lib.hid (HF.out.trans hFd (by simp));clear hFd HF HR HB' z0 z1 z2 z3 c2;obtain ⟨V,hV⟩:∃ V,W.drewN d=V:=⟨_,rfl⟩
    rw [hV] at HRd HBd HF2;rw [hV];clear hV;have z0:=HBd.out.at (i:=0) rfl;have z1:=HBd.out.at (i:=1) rfl;have z2:=HBd.out.at (i:=2) rfl;have z3:=HBd.out.at (i:=3) rfl;have c2:=HRd.out.head.at (i:=2) rfl;have f2:=HRd.out.head.frozen 2
    rcases htk with rfl | rfl | rfl | rfl | rfl | rfl
    · have hkq:((1:Int) == 3)=false:=by decide
      by_cases hd:50≤os.length
      · have hd1:decide ((50:Int)≤(os.length:Int))=true:=by simp;omega
        have HT:Hid (token r ⟨1,at_,n,s⟩ = .error 62):=Lib.hid (by
          have h50:50≤r.op.length:=by rw [← HOL.out];exact hd
          unfold token;simp [h50])
        go_wp2;go_ret
        rw [HT.out];exact ⟨rfl,HF2.out⟩
      · have hd1:decide ((50:Int)≤(os.length:Int))=false:=by simp;omega
        have HT:Hid (token r ⟨1,at_,n,s⟩ = .ok ⟨r.row,r.tops,⟨at_,false,[]⟩::r.op⟩):=Lib.hid (by
          have h50:¬ 50≤r.op.length:=by rw [← HOL.out];exact hd
          unfold token;simp [h50])
        have F6:MM.Far [] V (V.alloc (.cells #[.int .i64 at_,.bool false,.slice none 0 0] 83)):=(MM.Far.refl [] V).alloc _;have c2a:=(HRd.out.to F6).head.at (i:=2) rfl;have hbV:=HRd.out.far.size;have z0a:=(HBd.out.far F6 (by simp)).at (i:=0) rfl;have z1a:=(HBd.out.far F6 (by simp)).at (i:=1) rfl;clear F6;go_wp2
        go_cut [] (fun wx=>CutP w0 q rv tv rs r.tops os at_ false tb [.int .u8 1,.int .i64 at_,.int .i64 n,.string s] wx)
        case first =>
          go_region_law (
            refine MO.step_append ?_ (.tmp 69) (.tmp 76) 76 ?_ w0.heap.size 83 _ 3 40 parts_slice part_info rfl (by omega) (.slice oA os.length oc) os.length (ptC os.reverse) ?_ ?_ (some ⟨V.heap.size,0,none⟩) 1 1 [.int .i64 at_,.bool false,.slice none 0 0] ?_ rfl (fun h=>by cases h) [] ?_ (pt_one at_ false) ?_ ?_ ?_ ?_
            · rfl
            · rfl
            · rfl
            · exact HRd.out.op.alloc _
            · rfl
            · exact (MM.Src.row (MM.Row.new V 83 [.int .i64 at_,.bool false,.slice none 0 0]) (by simp) _ (fun j u hu=>hu))
            · simp only [maxLen];omega
            · omega
            · simp;omega
            intro v2 w2 hv2 hg2 hat2;obtain ⟨A2,c2,rfl⟩:=form_ w0 hv2;have F2:MM.Far (Value.slice oA os.length oc).ownBlock.toList V w2:=far_app hg2;have HH2:Hid (MM.Row w2 q 78 _):=Lib.hid (HRd.out.head.far F2 (fun hm=>MM.own_row_ne HRd.out.op HRd.out.head (by decide) (by simpa using hm)));have d2W:=HH2.out.at (i:=2) rfl;have e2W:=HH2.out.frozen 2;have HN:=Lib.hid (HRd.out.push (w1:=w2) ⟨at_,false,[]⟩ rfl hv2 F2);have HB2:=Lib.hid ((HBd.out.far F2 (fun hm=>MM.own_row_ne HRd.out.op HBd.out (by decide) (by simpa using hm))).other (p:=⟨q,2,none⟩) (fun e=>by
              have hbq:=HBd.out;rw [e] at hbq;exact HRd.out.head.ne hbq (by decide) rfl) (.slice A2 (os.length+1) c2))
            clear hg2 hv2 hat2 F2)
          all_goals
            go_wp2_with fail
            go_meet
            exact ⟨HB2.out,_,HN.out⟩
        case rest =>
          obtain ⟨hB6,ov6,hR6⟩:=hcut;have HR6:=Lib.hid hR6;have y0:=hB6.at (i:=0) rfl;have y1:=hB6.at (i:=1) rfl;clear hR6 hB6 z0 z1 z2 z3 c2 f2 c2a z0a z1a;go_wp2;go_ret
          rw [HT.out];exact ⟨rfl,rv,tv,ov6,rs,_,HR6.out,HRS.out,by rw [List.map_cons,HOS.out]⟩
    · obtain ⟨bq,hbq⟩:∃ bq,inQ r=bq:=⟨_,rfl⟩
      have HBQ:=Lib.hid hbq;rw [hbq];clear hbq;cases bq with
      | true =>
        have HT:Hid (token r ⟨2,at_,n,s⟩ = .error 63):=Lib.hid (by unfold token;simp [HBQ.out]);go_wp2;go_ret
        rw [HT.out];exact ⟨rfl,HF2.out⟩
      | false =>
        by_cases ho:os.length=0
        · have HT:Hid (token r ⟨2,at_,n,s⟩ = .error 61):=Lib.hid (by
            have:r.op=[]:=List.length_eq_zero_iff.1 (by rw [← HOL.out];exact ho);unfold token;simp [HBQ.out,this])
          have d1:(((os.length:Nat):Int) == 0)=true:=by simp [ho]
          clear ho;go_wp2;go_ret
          rw [HT.out];exact ⟨rfl,HF2.out⟩
        · obtain ⟨⟨p,hp⟩,os1,rfl⟩:∃ z os1,os=z::os1:=by
            cases os with
            | nil=>exact absurd rfl ho
            | cons z l=>exact ⟨z,l,rfl⟩
          have hop:r.op=p::os1.map (·.1):=by rw [← HOS.out,List.map_cons]
          have HT:Hid (token r ⟨2,at_,n,s⟩ = .ok (putO (os1.map (·.1)) r.row r.tops ⟨4,p.at_,0,emp,p.l⟩)):=Lib.hid (by
            unfold token close;simp [HBQ.out,hop])
          have HC:=Lib.hid (close_all os1.length rfl HRd.out (by have:=HSUM.out;rw [List.length_cons] at this;omega) HTOP.out (fun z hz=>HLS.out z (List.mem_cons_of_mem _ hz)));rw [List.length_cons] at c2 hos2;have d0:decide (((os1.length:Nat):Int)+1=0)=false:=by simp;omega
          have d1:(((os1.length:Nat):Int)+1 == 0)=false:=by rw [beq_eq_false_iff_ne];omega
          clear ho hop
          go_wp2_with (go_at_call 54;refine HC.out.mono ?_;rintro e w7 ⟨rfl,h7⟩;have H7:=Lib.hid h7;clear h7)
          go_ret
          rw [HT.out];obtain ⟨rv7,tv7,ov7,rs7,os7,h1,h2,h3⟩:=H7.out;rw [HRS.out] at h1 h2 h3;exact ⟨rfl,rv7,tv7,ov7,rs7,os7,h1,h2,h3⟩
    · have hkq:((3:Int) == 3)=true:=by decide
      by_cases hd:50≤os.length
      · have hd1:decide ((50:Int)≤(os.length:Int))=true:=by simp;omega
        have HT:Hid (token r ⟨3,at_,n,s⟩ = .error 62):=Lib.hid (by
          have h50:50≤r.op.length:=by rw [← HOL.out];exact hd
          unfold token;simp [h50])
        go_wp2;go_ret
        rw [HT.out];exact ⟨rfl,HF2.out⟩
      · have hd1:decide ((50:Int)≤(os.length:Int))=false:=by simp;omega
        have HT:Hid (token r ⟨3,at_,n,s⟩ = .ok (put ⟨r.row,r.tops,⟨at_,true,[]⟩::r.op⟩ ⟨3,at_,0,quoteB,[]⟩)):=Lib.hid (by
          have h50:¬ 50≤r.op.length:=by rw [← HOL.out];exact hd
          unfold token;simp [h50])
        have F6:MM.Far [] V (V.alloc (.cells #[.int .i64 at_,.bool true,.slice none 0 0] 83)):=(MM.Far.refl [] V).alloc _;have c2a:=(HRd.out.to F6).head.at (i:=2) rfl;have hbV:=HRd.out.far.size;have z0a:=(HBd.out.far F6 (by simp)).at (i:=0) rfl;have z1a:=(HBd.out.far F6 (by simp)).at (i:=1) rfl;clear F6;go_wp2
        go_cut [] (fun wx=>CutP w0 q rv tv rs r.tops os at_ true tb [.int .u8 3,.int .i64 at_,.int .i64 n,.string s] wx)
        case first =>
          go_region_law (
            refine MO.step_append ?_ (.tmp 69) (.tmp 76) 76 ?_ w0.heap.size 83 _ 3 40 parts_slice part_info rfl (by omega) (.slice oA os.length oc) os.length (ptC os.reverse) ?_ ?_ (some ⟨V.heap.size,0,none⟩) 1 1 [.int .i64 at_,.bool true,.slice none 0 0] ?_ rfl (fun h=>by cases h) [] ?_ (pt_one at_ true) ?_ ?_ ?_ ?_
            · rfl
            · rfl
            · rfl
            · exact HRd.out.op.alloc _
            · rfl
            · exact (MM.Src.row (MM.Row.new V 83 [.int .i64 at_,.bool true,.slice none 0 0]) (by simp) _ (fun j u hu=>hu))
            · simp only [maxLen];omega
            · omega
            · simp;omega
            intro v2 w2 hv2 hg2 hat2;obtain ⟨A2,c2,rfl⟩:=form_ w0 hv2;have F2:MM.Far (Value.slice oA os.length oc).ownBlock.toList V w2:=far_app hg2;have HH2:Hid (MM.Row w2 q 78 _):=Lib.hid (HRd.out.head.far F2 (fun hm=>MM.own_row_ne HRd.out.op HRd.out.head (by decide) (by simpa using hm)));have d2W:=HH2.out.at (i:=2) rfl;have e2W:=HH2.out.frozen 2;have HN:=Lib.hid (HRd.out.push (w1:=w2) ⟨at_,true,[]⟩ rfl hv2 F2);have HB2:=Lib.hid ((HBd.out.far F2 (fun hm=>MM.own_row_ne HRd.out.op HBd.out (by decide) (by simpa using hm))).other (p:=⟨q,2,none⟩) (fun e=>by
              have hbq:=HBd.out;rw [e] at hbq;exact HRd.out.head.ne hbq (by decide) rfl) (.slice A2 (os.length+1) c2))
            clear hg2 hv2 hat2 F2)
          all_goals
            go_wp2_with fail
            go_meet
            exact ⟨HB2.out,_,HN.out⟩
        case rest =>
          obtain ⟨hB6,ov6,hR6⟩:=hcut;have HR6:=Lib.hid hR6;have y0:=hB6.at (i:=0) rfl;have y1:=hB6.at (i:=1) rfl;clear hR6 hB6 z0 z1 z2 z3 c2 f2 c2a z0a z1a;have HA:=Lib.hid (put_any ⟨3,at_,0,quoteB,[]⟩ none 0 HR6.out.ex_none (by have:=HSUM.out;rw [List.length_cons];omega) HTOP.out (by
            intro p hp
            rcases List.mem_cons.1 hp with rfl | hp
            · simp
            · exact HLS.out p hp))
          go_wp2_with (go_at_call 53;refine HA.out.mono ?_;rintro e w7 ⟨rfl,h7⟩;have H7:=Lib.hid h7;clear h7)
          go_ret
          rw [HT.out];obtain ⟨rv7,tv7,ov7,rs7,os7,h1,h2,h3⟩:=H7.out;rw [List.map_cons,HOS.out,HRS.out] at h1 h2 h3;exact ⟨rfl,rv7,tv7,ov7,rs7,os7,h1,h2,h3⟩
    · have HA:=Lib.hid (put_any ⟨1,at_,n,emp,[]⟩ none 0 HRd.out.ex_none (by have:=HSUM.out;omega) HTOP.out HLS.out);have HT:Hid (token r ⟨4,at_,n,s⟩ = .ok (put r ⟨1,at_,n,emp,[]⟩)):=Lib.hid (by unfold token;simp)
      go_wp2_with (go_at_call 53;refine HA.out.mono ?_;rintro e w2 h2;have h3:=put_has HRS.out HOS.out h2;have he:=h3.1;subst he;have HP2:=Lib.hid h3.2;clear h2 h3)
      go_ret
      rw [HT.out];exact ⟨rfl,HP2.out⟩
    · have HA:=Lib.hid (put_any ⟨2,at_,n,emp,[]⟩ none 0 HRd.out.ex_none (by have:=HSUM.out;omega) HTOP.out HLS.out);have HT:Hid (token r ⟨5,at_,n,s⟩ = .ok (put r ⟨2,at_,n,emp,[]⟩)):=Lib.hid (by unfold token;simp)
      go_wp2_with (go_at_call 53;refine HA.out.mono ?_;rintro e w2 h2;have h3:=put_has HRS.out HOS.out h2;have he:=h3.1;subst he;have HP2:=Lib.hid h3.2;clear h2 h3)
      go_ret
      rw [HT.out];exact ⟨rfl,HP2.out⟩
    · have HA:=Lib.hid (put_any ⟨3,at_,0,s,[]⟩ none 0 HRd.out.ex_none (by have:=HSUM.out;omega) HTOP.out HLS.out);have HT:Hid (token r ⟨6,at_,n,s⟩ = .ok (put r ⟨3,at_,0,s,[]⟩)):=Lib.hid (by unfold token;simp)
      go_wp2_with (go_at_call 53;refine HA.out.mono ?_;rintro e w2 h2;have h3:=put_has HRS.out HOS.out h2;have he:=h3.1;subst he;have HP2:=Lib.hid h3.2;clear h2 h3)
      go_ret
      rw [HT.out];exact ⟨rfl,HP2.out⟩
end
end RM6
end Go.Proofs.YtehgmmbdlnginaaGreatDoor
namespace Go.Proofs.YtehgmmbdlnginaaGreatDoor
open Go.RowKit
namespace RW6
open LX RX RM6
structure Done (w0 w:World) (rv tv:Value) (rs:List (Nd × Value)) (tops:List Nat):Prop where
  far:MM.Far [] w0 w
  row:w.ownsRow w0.heap.size 122 5 rv rs.length (ndC rs)
  kin:Kin w w0.heap.size ((tv,tops)::kinsN rs)
def ReadQ (w0:World) (R:Except (Int × Int) Rd) (e:Ending) (w:World):Prop:=match R with
  | .error (p,x)=>e = .returned (.tuple #[.slice none 0 0,.slice none 0 0,.int .i64 p,.int .i64 x])∧MM.Far [] w0 w
  | .ok r=>∃ rv tv rs,e = .returned (.tuple #[rv,tv,.int .i64 0,.int .i64 0])∧Done w0 w rv tv rs r.tops∧rs.map (·.1)=r.row
section
variable {w0 w w1:World} {rv tv:Value} {rs:List (Nd × Value)} {tops:List Nat}
theorem Done.from (h:Done w1 w rv tv rs tops) (f:MM.Far [] w0 w1):Done w0 w rv tv rs tops :=
  ⟨f.trans h.far (by simp),h.row.mono f.size,⟨fun k hk=>(h.kin.each k hk).mono f.size,h.kin.apart⟩⟩
theorem Done.to (h:Done w0 w rv tv rs tops) (f:MM.Far [] w w1):Done w0 w1 rv tv rs tops :=
  ⟨h.far.trans f (by simp),MM.own_far h.row f (by simp),h.kin.far f (by simp)⟩
theorem ndC_at:∀ (rs:List (Nd × Value)) (k:Nat) (h:k < rs.length) (j:Nat) (_:j < 5),(ndC rs)[k*5+j]? = ([.int .u8 rs[k].1.kind,.int .i64 rs[k].1.at_,.int .i64 rs[k].1.n,.string rs[k].1.s,rs[k].2]:List Value)[j]?:=by
  intro rs;induction rs with
  | nil=>intro k h;simp at h
  | cons x rs ih =>
    intro k h j hj;have e:ndC (x::rs)=[.int .u8 x.1.kind,.int .i64 x.1.at_,.int .i64 x.1.n,.string x.1.s,x.2]++ndC rs:=by simp [ndC]
    rw [e];cases k with
    | zero=>rw [Nat.zero_mul,Nat.zero_add,List.getElem?_append_left (by simpa using hj)];rfl
    | succ k =>
      rw [List.getElem?_append_right (by simp;omega)];have:=ih k (by simpa using h) j hj;rw [show (k+1)*5+j - [Value.int .u8 x.1.kind,.int .i64 x.1.at_,.int .i64 x.1.n,.string x.1.s,x.2].length=k*5+j from by simp;omega,this];rfl
theorem own_ints {base:Nat} {v:Value} {l:List Nat} (h:w.ownsRow base 3 1 v l.length (ints l)):∃ A c,v = .slice A l.length c∧l.length≤c∧c≤maxLen∧(A=none→c=0)∧IntRow w A l:=by
  obtain ⟨A,c,e,k0,k1,k2,k3,_⟩:=MO.form h;exact ⟨A,c,e,k1,k2,k0,IntRow.of_src (k3 [] (by simp))⟩
end
end RW6
end Go.Proofs.YtehgmmbdlnginaaGreatDoor
