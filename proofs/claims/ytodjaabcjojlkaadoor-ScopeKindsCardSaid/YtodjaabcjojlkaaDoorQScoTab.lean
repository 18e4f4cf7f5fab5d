/-
  Several texts in one: NamesRef,ScoC4,WordWalks2,ScoC5,ScoTab.
-/
import Derived.Test.YtodjaabcjojlkaaDoorQNamesAll
import Derived.Test.YtodjaabcjojlkaaDoorQScoM1
import Derived.Test.YtodjaabcjojlkaaDoorProg
import Derived.Test.YtodjaabcjojlkaaDoorQScoRf
import Derived.Test.YtodjaabcjojlkaaDoorQExpDta
import Derived.Deep.DeepCutAuto
import Derived.Lib.Hide
import Derived.Lib.LaidTab
import Derived.ChangeSame
namespace Go.Proofs.YtodjaabcjojlkaaDoor
open Go.RowKit Go.Maps
namespace NW
theorem eq_yes {a b:ByteArray} (h:a=b):(a.toList == b.toList)=true:=by subst h;simp
theorem eq_no {a b:ByteArray} (h:a≠b):(a.toList == b.toList)=false:=by
  rw [beq_eq_false_iff_ne];intro e;rw [Lib.toList_data,Lib.toList_data] at e;exact h (ByteArray.ext (Array.toList_inj.1 e))
def Miss (L:List ByteArray) (s:ByteArray) (k:Nat):Prop:=∀ j,j < k→L[j]?≠some s
theorem Miss.step {L:List ByteArray} {s:ByteArray} {k:Nat} (h:Miss L s k) (hk:k < L.length) (e:L[k]≠s):Miss L s (k+1):=by
  intro j hj;by_cases hjk:j=k
  · subst hjk;rw [List.getElem?_eq_getElem hk];simpa using e
  · exact h j (by omega)
theorem Miss.none_ {L:List ByteArray} {s:ByteArray} (h:Miss L s L.length):NP.findI L s=0∧NP.findB L s=false:=by
  have hm:s∉L:=by
    intro hm;obtain ⟨j,hj,e⟩:=List.mem_iff_getElem.1 hm;exact h j hj (by rw [List.getElem?_eq_getElem hj,e])
  exact ⟨NP.findI_no hm,NP.findB_no hm⟩
section
variable {w:World} {L:List ByteArray} {v:Value} {base:Nat}
end
end NW
end Go.Proofs.YtodjaabcjojlkaaDoor
namespace Go.Proofs.YtodjaabcjojlkaaDoor
open Go.RowKit
set_option linter.unusedVariables false
namespace SM
open LX RW6 EX SC
open EW (Sl Bx ptr num strs)
def primC:List Value:=[.string emp,.int .i64 0]++(primN.zip primM).flatMap fun x=>[.string x.1,.int .i64 (x.2:Nat)]
def PT (w : World) : Prop := w.var? Tryd.prog "eddywheel/scope.primitives" = some primC.toArray
theorem pt_named : Tryd.prog.globalNamed "eddywheel/scope.primitives" = some 0 := by kernel_rfl
theorem PT.far {W w:World} (h:PT W) (f:MM.Far [] W w):PT w:=by
  unfold PT World.var? at *;rw [pt_named] at h ⊢;simp only [Option.bind_some] at h ⊢
  have hlt:0 < W.heap.size:=by
    rcases Nat.lt_or_ge 0 W.heap.size with hb | hb
    · exact hb
    · rw [Array.getElem?_eq_none hb] at h;cases h
  rw [f.block _ hlt (by simp)];exact h
theorem PT.obj {w:World} (h:PT w):∃ t fr,w.heap[0]? = some (.cells primC.toArray t fr):=by
  unfold PT World.var? at h;rw [pt_named] at h;simp only [Option.bind_some] at h
  split at h
  · rename_i cs t fr e;injection h with h;subst h;exact ⟨t,fr,e⟩
  · cases h
theorem pt_size:(Tryd.prog.info? 147).map (·.size)=some 62:=by kernel_rfl
theorem primC_size:primC.toArray.size=62:=by decide
def nmP (k:Nat):ByteArray:=if k=0 then emp else primN.getD (k - 1) emp
def mnP (k:Nat):Nat:=if k=0 then 0 else primM.getD (k - 1) 0
theorem prim_ix (W:World) (k:Nat) (hk:k < 31):(Instr.index 147 (.agg primC.toArray) (.int .i64 (k:Nat))).run Tryd.prog W = .ok (.agg #[.string (nmP k),.int .i64 (mnP k:Nat)]) W :=
  match k,hk with
  | 0,_=>by kernel_rfl
  | 1,_=>by kernel_rfl
  | 2,_=>by kernel_rfl
  | 3,_=>by kernel_rfl
  | 4,_=>by kernel_rfl
  | 5,_=>by kernel_rfl
  | 6,_=>by kernel_rfl
  | 7,_=>by kernel_rfl
  | 8,_=>by kernel_rfl
  | 9,_=>by kernel_rfl
  | 10,_=>by kernel_rfl
  | 11,_=>by kernel_rfl
  | 12,_=>by kernel_rfl
  | 13,_=>by kernel_rfl
  | 14,_=>by kernel_rfl
  | 15,_=>by kernel_rfl
  | 16,_=>by kernel_rfl
  | 17,_=>by kernel_rfl
  | 18,_=>by kernel_rfl
  | 19,_=>by kernel_rfl
  | 20,_=>by kernel_rfl
  | 21,_=>by kernel_rfl
  | 22,_=>by kernel_rfl
  | 23,_=>by kernel_rfl
  | 24,_=>by kernel_rfl
  | 25,_=>by kernel_rfl
  | 26,_=>by kernel_rfl
  | 27,_=>by kernel_rfl
  | 28,_=>by kernel_rfl
  | 29,_=>by kernel_rfl
  | 30,_=>by kernel_rfl
  | n+31,h=>absurd h (by omega)
section
variable {w:World}
set_option maxHeartbeats 4000000 in
set_option maxRecDepth 20000 in
theorem prim_any (h:PT w) (s:ByteArray):Calls Tryd.prog 86 #[.string s] w fun e w'=>e = .returned (.tuple #[num (primO s),num (primK s),.bool (isPrim s)])∧MM.Far [] w w':=by
  obtain ⟨tt,fr,hg⟩:=h.obj;obtain ⟨cs,hcs⟩:∃ cs,primC.toArray=cs:=⟨_,rfl⟩
  have hsz:=primC_size;rw [hcs] at hg hsz;have HCS:=Lib.hid hcs;have hi:(Tryd.prog.info? 147).map (·.size)=some cs.size:=by rw [hsz];exact pt_size
  have HG:=Lib.hid hg;have HSZ:=Lib.hid hsz;have HI:=Lib.hid hi;clear hcs h hg hsz hi;go_enter Tryd.func86,Tryd.ntmps86
  go_wp2_with (first
    | (refine wpList_load_row rfl 147 (.global 0) rfl 0 rfl tt cs fr _ HG.out Tryd.underlying147 rfl HI.out ?_)
    | (refine wp_load_row 147 (.global 0) rfl 0 rfl tt cs fr _ HG.out Tryd.underlying147 rfl HI.out ?_))
  go_loopw [8] (fun s8 wr=>∃ k:Nat,k≤31∧s8 = .int .i64 (k:Int)∧Hid (MM.Far [] w wr∧∀ j,j+1 < k→primN.getD j emp≠s)) (fun s8 _=>31 - (intOf s8).toNat)
  case atStart=>exact ⟨0,by omega,rfl,Lib.hid ⟨MM.Far.refl _ _,fun j hj=>by omega⟩⟩
  case round =>
    obtain ⟨k,hk,rfl,hH⟩:=hrel;by_cases hlt:k < 31
    · have hi0:(0:Int)≤(k:Int):=by omega
      have hi1:(k:Int) < 31:=by omega
      have hidx:=fun W=>prim_ix W k hlt
      rw [HCS.out] at hidx;have HN:Hid (nmP k=if k=0 then emp else primN.getD (k - 1) emp):=Lib.hid rfl;have HK:Hid (mnP k=if k=0 then 0 else primM.getD (k - 1) 0):=Lib.hid rfl;generalize nmP k=x at *;generalize mnP k=y at *;by_cases hk0:k=0
      · have hg0:¬ (0:Int) < (k:Int):=by omega
        have HK0:=Lib.hid hk0;clear hk0 HN HK;go_wp2;go_roundw
        case rel=>exact ⟨k+1,by omega,by go_num,Lib.hid ⟨hH.out.1.alloc _,fun j hj=>by have:=HK0.out;omega⟩⟩
        case measure=>simp [intOf];omega
      · have hg0:(0:Int) < (k:Int):=by omega
        rw [if_neg hk0] at HN HK;by_cases hx:x=s
        · subst hx;go_wp2;go_quiet (fail)
          go_wp2;go_ret3
          have hpp:primO x=k∧primK x=y∧isPrim x=true:=by
            have hN:=HN.out;have hl:primN.length=30:=rfl;rw [List.getD_eq_getElem?_getD,List.getElem?_eq_getElem (by omega)] at hN;have hN:x=primN[k - 1]:=hN;have hm:x∈primN:=by rw [hN];exact List.getElem_mem _
            have hix:primN.idxOf x=k - 1:=by
              have hnd:primN.Nodup:=by decide
              rw [hN];exact hnd.idxOf_getElem _ _
            unfold primO primK isPrim;rw [if_pos hm,if_pos hm,decide_eq_true hm,hix,HK.out];exact ⟨by omega,rfl,rfl⟩
          rw [hpp.1,hpp.2.1,hpp.2.2];exact ⟨rfl,(hH.out.1.alloc _).drewN _⟩
        · have heq:(x.toList == s.toList)=false:=NW.eq_no hx;go_wp2;go_roundw
          case rel =>
            refine ⟨k+1,by omega,by go_num,Lib.hid ⟨hH.out.1.alloc _,fun j hj=>?_⟩⟩
            by_cases e:j+1=k
            · have:=HN.out;rw [show k - 1=j by omega] at this;rw [← this];exact hx
            · exact hH.out.2 j (by omega)
          case measure=>simp [intOf];omega
    · obtain rfl:k=31:=by omega
      go_wp2;go_ret3
      refine ⟨?_,hH.out.1⟩
      have hno:s∉primN:=fun hm=>by
        obtain ⟨j,hj,e⟩:=List.getElem_of_mem hm;have hl:primN.length=30:=rfl;refine hH.out.2 j (by omega) ?_
        rw [List.getD_eq_getElem?_getD,List.getElem?_eq_getElem hj];exact e
      unfold primO primK isPrim;rw [if_neg hno,if_neg hno,decide_eq_false hno];rfl
end
end SM
end Go.Proofs.YtodjaabcjojlkaaDoor
namespace Go.Proofs.YtodjaabcjojlkaaDoor
open Go.RowKit
namespace WW
theorem bool_any (b:Bool) (w:World):Calls Tryd.prog 59 #[.bool b] w fun e w'=>e = .returned (.int .u64 (WP.boolW b))∧w=w':=by
  cases b
  all_goals
    go_enter Tryd.func59,Tryd.ntmps59
    go_wp2;go_ret
    exact ⟨rfl,rfl⟩
end WW
end Go.Proofs.YtodjaabcjojlkaaDoor
namespace Go.Proofs.YtodjaabcjojlkaaDoor
open Go.RowKit
set_option linter.unusedVariables false
namespace SM
open LX RW6 EX SC
open EW (Sl Bx ptr num strs bx_new z_alloc sz_alloc z_far z_drew)
theorem isPrim_any {w:World} (h:PT w) (s:ByteArray):Calls Tryd.prog 75 #[.string s] w fun e w'=>e = .returned (.bool (isPrim s))∧MM.Far [] w w':=by
  have HC:=Lib.hid (prim_any h s);clear h;unfold num at HC;go_enter Tryd.func75,Tryd.ntmps75
  go_wp2_with (go_at_call 86;refine HC.out.mono ?_;rintro e w1 ⟨rfl,hF1⟩;have HF1:=Lib.hid hF1;clear hF1)
  go_ret
  exact ⟨rfl,HF1.out⟩
section
variable (w:World) {Z:List Nat} (q:Nat)
theorem constant_any (a wd:Int) (R:Rws):Calls Tryd.prog 58 #[num a,.int .u64 wd] w (SnQ w Z q (.mk (cst a wd) R [])):=by
  unfold num;go_enter Tryd.func58,Tryd.ntmps58
  go_wp2;exact bodyPost_ret (v:=snV 0 (cst a wd) (.slice none 0 0)) (by simp [snV,num,cst,LX.emp,results,Tryd.results58,go_sem]) rfl ⟨_,rfl,⟨rfl,_,[],rfl,Sl.nil _ _,Ips.nil _ _ _⟩,(MM.Far.refl [] w).alloc _⟩
theorem wrong_any (a e:Int) (he:e≠0):Calls Tryd.prog 69 #[num a,.int .i64 e] w (SnQ w Z q (.bad a e)):=by
  have HE:=Lib.hid he;clear he;unfold num;go_enter Tryd.func69,Tryd.ntmps69
  go_wp2;exact bodyPost_ret (v:=snV e (badF a) (.slice none 0 0)) (by simp [snV,num,badF,LX.emp,results,Tryd.results69,go_sem]) rfl ⟨_,rfl,⟨rfl,HE.out⟩,(MM.Far.refl [] w).alloc _⟩
theorem primOf_any (a op:Int) (R:Rws) {A:Option Addr} {n c:Nat} {vs:List Value} {ps:List Sp} (hv:Sl w Z (.slice A n c) vs) (hi:Ips w Z q vs ps):Calls Tryd.prog 78 #[num a,num op,.slice A n c] w (SnQ w Z q (.mk ⟨12,a,op,0,emp,0,[]⟩ R ps)):=by
  have HS:=Lib.hid hv;have HI:=Lib.hid hi;clear hv hi;unfold num;go_enter Tryd.func78,Tryd.ntmps78
  go_wp2;exact bodyPost_ret (v:=snV 0 ⟨12,a,op,0,emp,0,[]⟩ (.slice A n c)) (by simp [snV,num,LX.emp,results,Tryd.results78,go_sem]) rfl ⟨_,rfl,⟨rfl,_,vs,rfl,HS.out.far ((MM.Far.refl [] w).alloc _) (by simp),HI.out.far ((MM.Far.refl [] w).alloc _) (by simp)⟩,(MM.Far.refl [] w).alloc _⟩
set_option maxHeartbeats 4000000 in
set_option maxRecDepth 20000 in
theorem number_any (a n:Int) (hn:WP.inR n=true) (R:Rws):Calls Tryd.prog 57 #[num a,num n] w (SnQ w Z q (.mk (cst a (WP.intW n)) R [])):=by
  obtain ⟨k,hk⟩:∃ k,w.heap.size=k:=⟨_,rfl⟩
  obtain ⟨W,hW⟩:∃ W,w.alloc zS=W:=⟨_,rfl⟩
  have HB:Hid (SnBox W k):=Lib.hid (by rw [← hW];exact SnBox.new hk);have HF:Hid (MM.Far [] w W):=Lib.hid (by rw [← hW];exact (MM.Far.refl [] w).alloc _);have HI:=Lib.hid (WW.int_any n W);have he:WP.intE n=0:=by unfold WP.intE;rw [if_pos hn]
  rw [he] at HI;have HC:=Lib.hid (constant_any W (Z:=k::Z) q a (WP.intW n) R);have HK:=Lib.hid hk;clear he hn;subst hW;subst hk;unfold num at *;unfold zS at *;go_enter Tryd.func57,Tryd.ntmps57
  go_wp2_with (first
    | (go_at_call 68;refine HI.out.mono ?_;rintro e w1 ⟨rfl,rfl⟩)
    | (go_at_call 58;refine HC.out.mono ?_;rintro e w1 ⟨v,rfl,hI,hF⟩;obtain ⟨e1,f1,A1,m1,c1,rfl,hl1⟩:=hI.form;have HI1:=Lib.hid hI;have HF1:=Lib.hid hF;have HB1:=Lib.hid (HB.out.far hF (by simp));clear hI hF;obtain ⟨v0,v1,v2,v3,v4,v5,v6,v7,v8,v9,y0,y1,y2,y3,y4,y5,y6,y7,y8,y9,hfz⟩:=HB1.out.cells;obtain ⟨fk,fa,fn,fA,fs,fw,fl⟩:=f1;simp only at hl1;subst hl1;unfold snV num))
  exact fin_sn rfl rfl rfl HB1.out (HF.out.trans HF1.out (by simp)) (Nat.le_refl _) HI1.out
end
end SM
end Go.Proofs.YtodjaabcjojlkaaDoor
namespace Go.Proofs.YtodjaabcjojlkaaDoor
open Go.RowKit
set_option linter.unusedVariables false
namespace SM
open LX RW6 EX SC
open EW (Sl Bx ptr num strs)
def primL:List (ByteArray × Int):=(emp,0)::(primN.zip primM).map fun x=>(x.1,(x.2:Int))
theorem primC_eq:primC=primL.flatMap fun x=>[.string x.1,.int .i64 x.2]:=by kernel_rfl
def primD:DataW Unit:=.agg (primL.map fun x=>.agg [.lit (.string x.1.data.toList),.lit (.int .i64 x.2)])
theorem laid_at9 {P:Program} {w:World}:∀ (L:List (String × DataW Unit)) (ps:List MemPlace) (i:Nat) (n:String) (d:DataW Unit),DataW.LaidVars P w L ps→L[i]? = some (n,d) →
    ∃ g t cs fuel p,P.globalNamed n=some g∧(P.globals[g]?).map (·.type)=some t∧w.var? P n=some cs∧DataW.trod (fun _=>()) P w 0 (fun _=>true) false fuel t cs.toList=some (d,p):=by
  intro L;induction L with
  | nil=>intro ps i n d _ h;simp at h
  | cons x L ih =>
    intro ps i n d h hi;obtain ⟨m,e⟩:=x;obtain ⟨g,t,cs,fuel,p,q,h1,h2,h3,h4,h5,_⟩:=h;cases i with
    | zero =>
      simp only [List.getElem?_cons_zero,Option.some.injEq,Prod.mk.injEq] at hi
      obtain ⟨rfl,rfl⟩:=hi;exact ⟨g,t,cs,fuel,p,h1,h2,h3,h4⟩
    | succ i=>exact ih q i n d h5 (by simpa using hi)
theorem trod_arr {H:Type} {enc:TypeId × Value→H} {P:Program} {w:World} {base:Nat} {sp:Nat→Bool} {held:Bool} {fuel:Nat} {t e:TypeId} {n c:Nat} {cs:List Value} {ds:List (DataW H)} {p:List MemPlace}
    (ht:P.underlying t=some (.array n e)) (hce:P.cellsOf e=c) (hct:P.cellsOf t=n*c) (h:DataW.trod enc P w base sp held fuel t cs=some (.agg ds,p)) :
    cs.length=n*c∧∃ m,∀ i,i < n→∃ x,ds[i]? = some x.1∧DataW.trod enc P w base sp held m e ((cs.drop (i*c)).take c)=some x:=by
  cases fuel with
  | zero=>simp [DataW.trod] at h
  | succ fuel =>
    simp only [DataW.trod,ht,hce,hct] at h
    split at h
    · rename_i hl;obtain ⟨xs,hm,hx⟩:=Option.map_eq_some_iff.1 h;have hxs:xs.map (·.1)=ds:=by
        have:=congrArg Prod.fst hx;simpa using this
      refine ⟨by simpa using hl,fuel,fun i hi=>?_⟩
      obtain ⟨b,hb,hf⟩:=Lib.mapM_at hm i i (by simp [hi]);exact ⟨b,by rw [← hxs];simp [hb],hf⟩
    · cases h
theorem prim_type : (Tryd.prog.globals[(Tryd.prog.globalNamed "eddywheel/scope.primitives").getD 0]?).map (·.type) = some 147 := by kernel_rfl
theorem pt_of {W : World} {L : List (String × DataW Unit)} (h : laidMetH Tryd.prog L W) (hH : (L.filter fun x => x.2.handleName?.isSome) = []) (i : Nat) (hi : L[i]? = some ("eddywheel/scope.primitives", primD)) : PT W := by
  unfold laidMetH at h;rw [hH] at h;obtain ⟨ps,hv,_⟩:=h;obtain ⟨g,t,cs,fuel,p,h1,h2,h3,h4⟩:=laid_at9 _ _ _ _ _ hv hi;have ht:=prim_type;rw [h1] at ht;obtain rfl:=Option.some.inj (ht.symm.trans h2);unfold PT;rw [h3];obtain ⟨hl,m,hx⟩:=trod_arr (c:=2) Tryd.underlying147 (by kernel_rfl) (by kernel_rfl) h4;have hcs:cs.toList=primC:=by
    rw [primC_eq];apply List.ext_getElem?
    intro j;obtain ⟨k,r,rfl,hr⟩:∃ k r,j=k*2+r∧r < 2:=⟨j / 2,j % 2,by omega,by omega⟩
    by_cases hk:k < 31
    · obtain ⟨x,hd,hf⟩:=hx k hk;obtain ⟨y0,y1,n,rfl,hl2,g0,g1⟩:=Go.ChangeShapes.trod_struct2 Tryd.underlying146 hf;obtain ⟨s,e0,rfl,_⟩:=DataW.trod_string Tryd.underlying9 g0;obtain ⟨z,e1,rfl,_⟩:=DataW.trod_int Tryd.underlying3 g1;have hk2:k < primL.length:=hk;rw [List.getElem?_map,List.getElem?_eq_getElem hk2] at hd;simp only [Option.map_some,Option.some.injEq,DataW.agg.injEq,List.cons.injEq,DataW.lit.injEq,Lit.string.injEq,Lit.int.injEq,true_and,and_true] at hd
      obtain ⟨d1,d2⟩:=hd;have hs:s=primL[k].1:=by
        obtain ⟨⟨l⟩⟩:=s;generalize primL[k].1=q at d1;obtain ⟨⟨l2⟩⟩:=q;simp only at d1
        rw [d1]
      have f0:cs.toList[k*2]? = some (.string s):=by
        have:=congrArg (·[0]?) e0;have:0 < Tryd.prog.cellsOf 9∧cs[k*2]? = some (Value.string s):=by simpa [List.getElem?_take,List.getElem?_drop] using this
        simpa using this.2
      have f1:cs.toList[k*2+1]? = some (.int .i64 z):=by
        have:=congrArg (·[0]?) e1;have:0 < Tryd.prog.cellsOf 3∧cs[k*2+1]? = some (Value.int .i64 z):=by simpa [List.getElem?_take,List.getElem?_drop] using this
        simpa using this.2
      have key:∀ (l:List (ByteArray × Int)) (k:Nat) (hk:k < l.length) (r:Nat),r < 2→(l.flatMap fun x=>[Value.string x.1,.int .i64 x.2])[k*2+r]? = ([Value.string l[k].1,.int .i64 l[k].2]:List Value)[r]?:=by
        intro l;induction l with
        | nil=>intro k hk;simp at hk
        | cons x l ih =>
          intro k hk r hr;rw [List.flatMap_cons];cases k with
          | zero=>rw [Nat.zero_mul,Nat.zero_add,List.getElem?_append_left (by simp;omega)];rfl
          | succ k =>
            rw [List.getElem?_append_right (by simp;omega)];rw [show (k+1)*2+r - [Value.string x.1,Value.int IntKind.i64 x.2].length=k*2+r from by simp;omega];exact ih k (by simpa using hk) r hr
      rw [key primL k hk2 r hr,← hs,d2]
      match r,hr with
      | 0,_=>exact f0
      | 1,_=>exact f1
    · have hlen:(primL.flatMap fun x=>[Value.string x.1,.int .i64 x.2]).length=62:=by rw [← primC_eq];rfl
      rw [List.getElem?_eq_none (by omega),List.getElem?_eq_none (by omega)]
  rw [← hcs]
end SM
end Go.Proofs.YtodjaabcjojlkaaDoor
