/-
  Several texts in one: ScoS1,ScoS2.
-/
import Derived.Test.YtodjaabcjojlkaaDoorQScoDx
import Derived.Test.YtodjaabcjojlkaaDoorQScoGd
import Derived.Deep.RegionHeld3
namespace Go.Proofs.YtodjaabcjojlkaaDoor
open Go.RowKit
set_option linter.unusedVariables false
namespace SM
open LX RW6 EX SC
open EW (Sl Bx ptr num strs)
def tkU (n:Nat) (u:List Nat):List Bool:=(List.range n).map fun a=>decide (a∈u)
theorem tkU_len (n:Nat) (u:List Nat):(tkU n u).length=n:=by simp [tkU]
theorem tkU_at (n:Nat) (u:List Nat) {i:Nat} (h:i < n):(tkU n u)[i]? = some (decide (i∈u)):=by simp [tkU,h]
theorem tkU_set (n:Nat) (u:List Nat) {i:Nat} (h:i < n):(tkU n u).set i true=tkU n (u++[i]):=by
  apply List.ext_getElem?
  intro j;by_cases hj:j < n
  · rw [tkU_at n _ hj,List.getElem?_set];by_cases e:i=j
    · subst e;rw [if_pos rfl,if_pos (by rw [tkU_len];exact h)];simp
    · rw [if_neg e,tkU_at n u hj];have:(decide (j∈u++[i]))=decide (j∈u):=by
        apply decide_eq_decide.2
        simp only [List.mem_append,List.mem_singleton]
        exact ⟨fun h=>h.elim id (fun h=>absurd h.symm e),.inl⟩
      rw [this]
  · rw [List.getElem?_eq_none (by simp [tkU_len];omega),List.getElem?_eq_none (by simp [tkU_len];omega)]
theorem tkU_nil (n:Nat):bools (tkU n [])=List.replicate n (.bool false):=by
  apply List.ext_getElem?
  intro j;by_cases hj:j < n
  · simp [bools,tkU,hj]
  · simp [bools,tkU,hj]
def lst (k:Int):Int:=if k=5 then 3 else if k=6∨k=7∨k=9∨k=10 then 1 else 0
theorem fewest_any (k:Int) (hk:k=1∨k=2∨k=3∨k=4∨k=5∨k=6∨k=7∨k=8∨k=9∨k=10) (w:World):Calls Tryd.prog 35 #[.int .u8 k] w fun e w'=>e = .returned (.tuple #[.int .i64 (lst k),.bool true])∧w=w':=by
  rcases hk with rfl | rfl | rfl | rfl | rfl | rfl | rfl | rfl | rfl | rfl
  all_goals
    go_enter Tryd.func35,Tryd.ntmps35
    go_wp2;go_ret2
    exact ⟨rfl,rfl⟩
def RdC (w:World) (Z:List Nat) (A:Option Addr) (vs:List Value):Prop:=∀ k u,vs[k]? = some u→∃ g o,A=some ⟨g,o,none⟩∧g∉Z∧g < w.heap.size∧w.cell? ⟨g,o+k,none⟩=some u
theorem RdC.far {w w':World} {Z S:List Nat} {A:Option Addr} {vs:List Value} (h:RdC w Z A vs) (f:MM.Far S w w') (hS:∀ b∈S,b < w.heap.size→b∈Z):RdC w' Z A vs:=fun k u hu=>by
  obtain ⟨g,o,e,hz,hg,c⟩:=h k u hu;exact ⟨g,o,e,hz,Nat.lt_of_lt_of_le hg f.size,(f.cell (p:=⟨g,o+k,none⟩) hg (fun hm=>hz (hS g hm hg))).trans c⟩
theorem RdC.more {w:World} {Z Z':List Nat} {A:Option Addr} {vs:List Value} (h:RdC w Z A vs) (hZ:∀ b∈Z',b∈Z∨w.heap.size≤b):RdC w Z' A vs:=fun k u hu=>by
  obtain ⟨g,o,e,hz,hg,c⟩:=h k u hu;exact ⟨g,o,e,fun hm=>(hZ g hm).elim hz (fun h=>by omega),hg,c⟩
theorem rd_sl {w:World} {Z:List Nat} {A:Option Addr} {n c:Nat} {vs:List Value} (h:Sl w Z (.slice A n c) vs):RdC w Z A vs:=by
  obtain ⟨A',c',e,_,_,h3⟩:=h;injection e with e1 _ _;subst e1;exact h3
theorem rd_int {w:World} {A:Option Addr} {l:List Nat} (h:IntRow w A l):RdC w [] A (ints l):=fun k u hu=>by
  have hk:k < l.length:=by
    have:=(List.getElem?_eq_some_iff.1 hu).1
    rwa [EW.ints_len] at this
  obtain ⟨b,o,e,hb,c⟩:=h k hk;have e2:(ints l)[k]? = some (.int .i64 ((l[k]:Nat):Int)):=by simp [ints,List.getElem?_eq_getElem hk]
  rw [e2] at hu;injection hu with hu;subst hu;exact ⟨b,o,e,by simp,hb,c⟩
set_option maxHeartbeats 1000000 in
theorem take_any {w:World} {g n m c:Nat} {u l:List Nat} {A:Option Addr} {k lc:Nat} (hr:MM.Row w g 4 (bools (tkU n u))) (hm:m≤n) (hmc:m≤c) (hn:n≤1000000) (hl:RdC w [g] A (ints l)) (hk:l.length=k) (hlm:∀ x∈l,x < m) (hnd:(u++l).Nodup) (hll:l.length≤1000000) :
    Calls Tryd.prog 36 #[.slice (some ⟨g,0,none⟩) m c,.slice A k lc] w fun e w'=>e = .returned (.bool true)∧MM.Row w' g 4 (bools (tkU n (u++l)))∧MM.Far [g] w w':=by
  have HL:=Lib.hid hl;have HLM:=Lib.hid hlm;have HND:=Lib.hid hnd;have HK:=Lib.hid hk;have H0:Hid (MM.Row w g 4 (bools (tkU n (u++l.take 0)))∧MM.Far [g] w w):=Lib.hid ⟨by rw [List.take_zero,List.append_nil];exact hr,MM.Far.refl _ _⟩;rw [hk] at hll;clear hl hlm hnd hk hr;go_enter Tryd.func36,Tryd.ntmps36
  go_wp2
  go_loopw [9] (fun s9 wr=>∃ j:Nat,j≤k∧s9 = .int .i64 (j:Int)∧Hid (MM.Row wr g 4 (bools (tkU n (u++l.take j)))∧MM.Far [g] w wr)) (fun s9 _=>k - (intOf s9).toNat)
  case atStart=>exact ⟨0,by omega,rfl,H0⟩
  case round =>
    clear H0;obtain ⟨j,hj,rfl,hH⟩:=hrel;by_cases hlt:j < k
    · have hjl:j < l.length:=by rw [HK.out];exact hlt
      obtain ⟨g2,o,rfl,hz,hg,cc⟩:=(HL.out.far hH.out.2 (fun b hb _=>hb)) j (.int .i64 (l[j]:Nat)) (by simp [ints,List.getElem?_eq_getElem hjl]);obtain ⟨x,hx⟩:∃ x,l[j]=x:=⟨_,rfl⟩
      have hxm:x < m:=by rw [← hx];exact HLM.out _ (List.getElem_mem hjl)
      have hxn:x < n:=by omega
      have hxu:x∉u++l.take j:=by
        have hnd:=HND.out;have e4:u++l=(u++l.take j)++(l[j]::l.drop (j+1)):=by
          rw [List.append_assoc,← List.drop_eq_getElem_cons hjl,List.take_append_drop]
        rw [e4] at hnd;have:=(List.nodup_append.1 hnd).2.2;intro hm2;exact this x hm2 x (by rw [hx];exact List.mem_cons_self ..) rfl
      rw [hx] at cc;have hcell:=hH.out.1.at (i:=x) (v:=.bool false) (by
        unfold bools;rw [List.getElem?_map,tkU_at n _ hxn];simp [hxu])
      have hfz:=hH.out.1.frozen x;have HSt:Hid (MM.Row (wr.setCell ⟨g,x,none⟩ (.bool true)) g 4 (bools (tkU n (u++l.take (j+1))))):=Lib.hid (by
        have:=hH.out.1.put x (.bool true);rw [List.take_succ_eq_append_getElem hjl,hx,← List.append_assoc,← tkU_set n _ hxn];unfold bools at this ⊢;rw [List.map_set];exact this)
      have HFt:Hid (MM.Far [g] w (wr.setCell ⟨g,x,none⟩ (.bool true))):=Lib.hid (hH.out.2.setCell (by simp) _);clear hH hxu hx hz hg;go_wp2;go_roundw
      case rel=>exact ⟨j+1,by omega,by go_num,Lib.hid ⟨HSt.out,HFt.out⟩⟩
      case measure=>simp [intOf];omega
    · obtain rfl:j=k:=by omega
      go_wp2;go_ret
      have h1:=hH.out.1;rw [List.take_of_length_le (by rw [HK.out];exact Nat.le_refl _)] at h1;exact ⟨rfl,h1,hH.out.2⟩
theorem take_w {W w:World} {g n m c:Nat} {u l:List Nat} {A:Option Addr} {k lc:Nat} (hr:MM.Row W g 4 (bools (tkU n u))) (f:MM.Far [] W w) (hm:m≤n) (hmc:m≤c) (hn:n≤1000000) (hl:RdC W [g] A (ints l)) (hk:l.length=k) (hlm:∀ x∈l,x < m) (hnd:(u++l).Nodup) (hll:l.length≤1000000) :
    Calls Tryd.prog 36 #[.slice (some ⟨g,0,none⟩) m c,.slice A k lc] w fun e w'=>e = .returned (.bool true)∧MM.Row w' g 4 (bools (tkU n (u++l)))∧MM.Far [g] W w' :=
  (take_any (hr.far f (by simp)) hm hmc hn (hl.far f (by simp)) hk hlm hnd hll).mono fun _ _ ⟨h1,h2,h3⟩=>⟨h1,h2,(f.mono (by simp)).trans h3 (fun _ h _=>h)⟩
end SM
end Go.Proofs.YtodjaabcjojlkaaDoor
namespace Go.Proofs.YtodjaabcjojlkaaDoor
open Go.RowKit
set_option linter.unusedVariables false
namespace SM
open LX RW6 EX SC
open EW (Sl Bx ptr num strs)
structure Fms (fs:List Fm) (ts:List Nat) (D:Nat):Prop where
  good:∀ (k:Nat) (h:k < fs.length),GoodK fs[k].kind fs[k].l.length
  lt:∀ (k:Nat) (h:k < fs.length),∀ p∈fs[k].l,p < k
  quo:∀ (k:Nat) (h:k < fs.length),fs[k].kind=3→0≤fs[k].n∧fs[k].n < (D:Int)
  nd:(fs.flatMap (·.l)++ts).Nodup
  tlt:∀ t∈ts,t < fs.length
theorem goodK_kind {k:Int} {n:Nat} (h:GoodK k n):(k=1∨k=2∨k=3∨k=4∨k=5∨k=6∨k=7∨k=8∨k=9∨k=10)∧lst k≤n∧0≤lst k:=by
  unfold GoodK at h;unfold lst;split
  · omega
  · split <;> omega
theorem flat_take (fs:List Fm) (k:Nat) (h:k < fs.length):(fs.take (k+1)).flatMap (·.l)=(fs.take k).flatMap (·.l)++fs[k].l:=by
  rw [List.take_succ_eq_append_getElem h,List.flatMap_append];simp
theorem nd_front {fs:List Fm} {ts:List Nat} (h:(fs.flatMap (·.l)++ts).Nodup) (k:Nat) (hk:k < fs.length):((fs.take k).flatMap (·.l)++fs[k].l).Nodup:=by
  rw [← flat_take fs k hk];have h1:=(List.nodup_append.1 h).1;have e:fs.flatMap (·.l)=(fs.take (k+1)).flatMap (·.l)++(fs.drop (k+1)).flatMap (·.l):=by rw [← List.flatMap_append,List.take_append_drop]
  rw [e] at h1;exact (List.nodup_append.1 h1).1
theorem bool_row (n:Nat):(madeCells #[.bool false] n)=(bools (tkU n [])).toArray:=by
  rw [tkU_nil];apply Array.ext
  · simp [size_madeCells]
  · intro i h1 h2;simp [madeCells,Nat.mod_one]
set_option maxHeartbeats 4000000 in
set_option maxRecDepth 20000 in
theorem areForms_any {w:World} {A T:Option Addr} {n c tn tc D:Nat} {fs:List Fm} {ts:List Nat} (hF:FmS w A fs) (hn:fs.length=n) (hn2:n≤100000) (G:Fms fs ts D) (hl:∀ f∈fs,f.l.length≤100000) (hT:RdC w [] T (ints ts)) (htn:ts.length=tn) (htl:ts.length≤100000) (hD:D≤1000000) :
    Calls Tryd.prog 18 #[.slice A n c,.slice T tn tc,num D] w fun e w'=>e = .returned (.bool true)∧MM.Far [] w w':=by
  have HF:=Lib.hid hF;have HN:=Lib.hid hn;have HG:=Lib.hid G;have HL:=Lib.hid hl;have HT:=Lib.hid hT;have HTN:=Lib.hid htn;have HTL:=Lib.hid htl;clear hF hn G hl hT htl htn;have hmk:=run_make_row' (P:=Tryd.prog) 87 4 (.bool false) 1 bools_slice bool_info rfl .i64 .i64 n (by omega) (by omega);rw [bool_row] at hmk;unfold num;go_enter Tryd.func18,Tryd.ntmps18
  go_wp2;have hr0:=MM.Row.new w 4 (bools (tkU n []));obtain ⟨g,hg⟩:∃ g,w.heap.size=g:=⟨_,rfl⟩
  have HG0:=Lib.hid hg;have H0:Hid (MM.Row (w.alloc (.cells (bools (tkU n [])).toArray 4)) g 4 (bools (tkU n ((fs.take 0).flatMap (·.l))))∧MM.Far [] w (w.alloc (.cells (bools (tkU n [])).toArray 4))):=Lib.hid ⟨hg ▸ hr0,(MM.Far.refl [] w).alloc _⟩;rw [hg];clear hr0 hmk hg
  go_loopw [17] (fun s17 wr=>∃ k:Nat,k≤n∧s17 = .int .i64 (k:Int)∧Hid (MM.Row wr g 4 (bools (tkU n ((fs.take k).flatMap (·.l))))∧MM.Far [] w wr)) (fun s17 _=>n - (intOf s17).toNat)
  case atStart=>exact ⟨0,by omega,rfl,H0⟩
  case round =>
    clear H0;obtain ⟨k,hk,rfl,hH⟩:=hrel;by_cases hlt:k < n
    · have hkl:k < fs.length:=by rw [HN.out];exact hlt
      obtain ⟨b,o,PA,pc,LA,lc,rfl,hb,d0,d1,d2,d3,d4,d5,d6,d7,hP,hI⟩:=HF.out k hkl;have gc (x:Nat):wr.cell? ⟨b,x,none⟩=w.cell? ⟨b,x,none⟩:=hH.out.2.cell (p:=⟨b,x,none⟩) hb (by simp);have c0:=(gc _).trans d0;have c1:=(gc _).trans d1;have c2:=(gc _).trans d2;have c3:=(gc _).trans d3;have c4:=(gc _).trans d4;have c5:=(gc _).trans d5;have c6:=(gc _).trans d6;have c7:=(gc _).trans d7;have HSL:=Lib.hid ((hI.more (Z':=[g]) (fun b hb=>.inr (by have:=HG0.out;rw [List.mem_singleton.1 hb];omega))).far hH.out.2 (by simp));clear d0 d1 d2 d3 d4 d5 d6 d7 gc hb hP hI;obtain ⟨hgk,hl1,hl2⟩:=goodK_kind (HG.out.good k hkl);have hquo:=HG.out.quo k hkl;have HFW:=Lib.hid (fun W=>fewest_any fs[k].kind hgk W);have hnd:=nd_front HG.out.nd k hkl;have hllk:fs[k].l.length≤100000:=HL.out _ (List.getElem_mem hkl);have hltk:=HG.out.lt k hkl;have hkk:=Lib.hid (flat_take fs k hkl);have HFin:=Lib.hid (And.intro hnd (And.intro hltk hllk));clear hnd hltk hgk;generalize fs[k]=f at *;obtain ⟨fk,fa,fn,fS,fp,fl⟩:=f;simp only at c0 c1 c2 c3 c4 c5 c6 c7 hl1 hl2 hllk hquo HFW HSL HFin hkk
      generalize lst fk=le at *;obtain ⟨m,hm⟩:∃ m,fl.length=m:=⟨_,rfl⟩
      rw [hm] at c7 hl1 hllk HSL;have HM:=Lib.hid hm;have HU:=Lib.hid (show k≤n by omega);obtain ⟨bx,hbx⟩:∃ bx,wr.heap.size=bx:=⟨_,rfl⟩
      have HBX:=Lib.hid (hbx ▸ MM.Row.new wr 33 [.int .u8 fk,.int .i64 fa,.int .i64 fn,.int .i64 0,.string fS,.slice PA fp.length pc,.int .u64 0,.slice LA m lc]);have hgx:bx≠g:=by have:=hH.out.1.lt;omega
      have HGX:=Lib.hid hgx;have HH2:Hid (MM.Row (wr.alloc (.cells #[.int .u8 fk,.int .i64 fa,.int .i64 fn,.int .i64 0,.string fS,.slice PA fp.length pc,.int .u64 0,.slice LA m lc] 33)) g 4 (bools (tkU n ((fs.take k).flatMap (·.l))))∧MM.Far [] w (wr.alloc (.cells #[.int .u8 fk,.int .i64 fa,.int .i64 fn,.int .i64 0,.string fS,.slice PA fp.length pc,.int .u64 0,.slice LA m lc] 33))):=Lib.hid ⟨hH.out.1.alloc _,hH.out.2.alloc _⟩;have HSL2:=Lib.hid (HSL.out.far ((MM.Far.refl [] wr).alloc (.cells #[.int .u8 fk,.int .i64 fa,.int .i64 fn,.int .i64 0,.string fS,.slice PA fp.length pc,.int .u64 0,.slice LA m lc] 33)) (by simp));clear hH hgx hm HSL
      go_upto_region 5 with (fail)
      rw [show wr.alloc (.cells [Value.int .u8 fk,.int .i64 fa,.int .i64 fn,.int .i64 0,.string fS,.slice PA fp.length pc,.int .u64 0,.slice LA m lc].toArray 33)=wr.alloc (.cells #[.int .u8 fk,.int .i64 fa,.int .i64 fn,.int .i64 0,.string fS,.slice PA fp.length pc,.int .u64 0,.slice LA m lc] 33) from rfl] at HBX;generalize wr.alloc (.cells #[.int .u8 fk,.int .i64 fa,.int .i64 fn,.int .i64 0,.string fS,.slice PA fp.length pc,.int .u64 0,.slice LA m lc] 33)=W at *;clear c0 c1 c2 c3 c4 c5 c6 c7 hbx;have z0:=HBX.out.at (i:=0) rfl;have z2:=HBX.out.at (i:=2) rfl;have z7:=HBX.out.at (i:=7) rfl;have hle:¬ (m:Int) < le:=by omega
      have hleb:decide ((m:Int) < le)=false:=by rw [decide_eq_false_iff_not];exact hle
      have hkm:(k:Int)≤(n:Int):=by omega
      have HTK:=Lib.hid (fun (wx:World) (f:MM.Far [] W wx)=>take_w (A:=LA) (k:=m) (lc:=lc) (m:=k) (c:=n) HH2.out.1 f HU.out HU.out (by omega) (rd_sl HSL2.out) HM.out HFin.out.2.1 HFin.out.1 (by have:=HFin.out.2.2;omega))
      go_wp2_with (first | (go_at_call 35;refine (HFW.out _).mono ?_;rintro e w' ⟨rfl,rfl⟩))
      go_upto_region 6 with (fail)
      go_region_held3 (fun w'=>w'.cell? ⟨bx,7,none⟩=some (.slice LA m lc)) (go_keep) (first
        | (go_at_call 36
           (with_reducible refine (HTK.out _ (by first | exact MM.Far.refl [] _ | exact (MM.Far.refl [] _).drew)).mono ?_)
           rintro e w5 ⟨rfl,hR5,hF5⟩;have hx5:=HBX.out.far hF5 (by simp [HGX.out]);have y7:=hx5.at (i:=7) rfl;have HR5:=Lib.hid hR5;have HF5:=Lib.hid hF5;have HX5:=Lib.hid hx5;clear hR5 hF5 hx5))
      have y0:=HX5.out.at (i:=0) rfl;have y2:=HX5.out.at (i:=2) rfl;have HE:Hid (MM.Row w5 g 4 (bools (tkU n ((fs.take (k+1)).flatMap (·.l))))∧MM.Far [] w w5):=Lib.hid ⟨by rw [hkk.out];exact HR5.out,HH2.out.2.trans HF5.out (fun b hb hl=>by have:=HG0.out;rw [List.mem_singleton.1 hb] at hl;omega)⟩;clear z0 z2 z7;by_cases h3:fk=3
      · obtain ⟨q1,q2⟩:=hquo h3;subst h3;have q3:decide (fn < 0)=false:=by rw [decide_eq_false_iff_not];omega
        have q4:decide ((D:Int)≤fn)=false:=by rw [decide_eq_false_iff_not];omega
        go_wp2;go_roundw
        case rel=>exact ⟨k+1,by omega,by go_num,Lib.hid ⟨by first | exact HE.out.1 | exact HE.out.1.drew | exact HE.out.1.drewN _,by first | exact HE.out.2 | exact HE.out.2.drew | exact HE.out.2.drewN _⟩⟩
        case measure=>simp [intOf];omega
      · have q3:(fk == 3)=false:=by simpa using h3
        go_wp2;go_roundw
        case rel=>exact ⟨k+1,by omega,by go_num,Lib.hid ⟨by first | exact HE.out.1 | exact HE.out.1.drew | exact HE.out.1.drewN _,by first | exact HE.out.2 | exact HE.out.2.drew | exact HE.out.2.drewN _⟩⟩
        case measure=>simp [intOf];omega
    · obtain rfl:k=n:=by omega
      have hr:=hH.out.1;rw [List.take_of_length_le (by rw [HN.out];exact Nat.le_refl _)] at hr;have HSL:=Lib.hid ((HT.out.more (Z':=[g]) (fun b hb=>.inr (by have:=HG0.out;rw [List.mem_singleton.1 hb];omega))).far hH.out.2 (by simp));have HTK:=Lib.hid (take_any (A:=T) (k:=tn) (lc:=tc) (m:=k) (c:=k) hr (Nat.le_refl _) (Nat.le_refl _) (by omega) HSL.out HTN.out (fun x hx=>by have:=HG.out.tlt x hx;have:=HN.out;omega) HG.out.nd (by have:=HTL.out;omega));have HFF:=Lib.hid hH.out.2;clear hH hr
      go_wp2_with (go_at_call 36;(with_reducible refine HTK.out.mono ?_);rintro e w5 ⟨rfl,hR5,hF5⟩;have HF5:=Lib.hid hF5;clear hR5 hF5)
      go_ret
      exact ⟨rfl,HFF.out.trans HF5.out (fun b hb hl=>by have:=HG0.out;rw [List.mem_singleton.1 hb] at hl;omega)⟩
end SM
end Go.Proofs.YtodjaabcjojlkaaDoor
