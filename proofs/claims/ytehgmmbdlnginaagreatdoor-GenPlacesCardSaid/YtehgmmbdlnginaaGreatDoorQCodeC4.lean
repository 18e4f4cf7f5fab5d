/-
  Several texts in one: CodeRep,CodeC3,CodeC4.
-/
import Derived.Test.YtehgmmbdlnginaaGreatDoorQCodeC2
import Derived.Deep.RegionHeld3
import Derived.Deep.LoopGhost
namespace Go.Proofs.YtehgmmbdlnginaaGreatDoor
open Go.RowKit
set_option linter.unusedVariables false
namespace KW
open KP
theorem wrap_id (x:Int) (h0:0≤x) (h:x≤1000000000):IntKind.i64.wrap x=x:=by
  unfold IntKind.wrap;simp [IntKind.bits,IntKind.signed]
  omega
theorem made_list (z:Value) (n:Nat):madeCells #[z] n=(List.replicate n z).toArray:=by
  apply Array.ext
  · simp [size_madeCells]
  · intro i h1 h2;simp [madeCells,Nat.mod_one]
theorem add_zero_ (a:Addr):a.add 0=a:=by unfold Addr.add;simp
theorem ints_slice:Tryz.prog.underlying 24=some (.slice 3):=by kernel_rfl
theorem int_info:(Tryz.prog.info? 3).map (fun i=>(i.zero,i.size,i.bytes))=some (some (.int .i64 0),1,8):=by kernel_rfl
theorem int_size:(Tryz.prog.info? 3).map (·.size)=some 1:=by kernel_rfl
theorem and32 (n:Nat) (h:n < 4294967296):bits .and .u64 (n:Int) 4294967295=n:=by
  rw [u64_and (n:Int) 4294967295 (by omega) (by omega) (by omega) (by omega)];have e:(n:Int).toNat &&& (4294967295:Int).toNat=n % 4294967296:=by
    rw [Int.toNat_natCast];exact Nat.and_two_pow_sub_one_eq_mod n 32
  rw [e];omega
theorem mul64_any (n:Nat) (hn:n < 1000000000) (w:World):Calls Tryz.prog 147 #[.int .u64 1,.int .u64 n] w fun e w'=>e = .returned (.tuple #[.int .u64 0,.int .u64 n])∧w=w':=by
  have h1:=and32 n (by omega);have h2:bits .and .u64 1 4294967295=1:=by decide
  have h3:(n:Int) / 4294967296=0:=by omega
  have h4:bits .and .u64 0 4294967295=0:=by decide
  go_enter Tryz.func147,Tryz.ntmps147
  go_wp2;go_ret2
  refine ⟨?_,rfl⟩
  simp
theorem mul_any (n:Nat) (hn:n < 1000000000) (w:World):Calls Tryz.prog 124 #[.int .u64 1,.int .u64 n] w fun e w'=>e = .returned (.tuple #[.int .u64 0,.int .u64 n])∧w=w':=by
  go_enter Tryz.func124,Tryz.ntmps124
  go_wp2_with (first | (go_at_call 147;refine (mul64_any n hn _).mono ?_;rintro e w' ⟨rfl,rfl⟩))
  go_ret2
  exact ⟨rfl,rfl⟩
def fillL (k n:Nat):List Int:=List.replicate k (-1)++List.replicate (n - k) 0
theorem fill_more (k m n:Nat) (h:k+m≤n):splice (ints (fillL k n)) k (ints (List.replicate m (-1)))=ints (fillL (k+m) n):=by
  unfold splice fillL ints;simp only [List.map_append,List.map_replicate,List.length_replicate]
  rw [List.take_append_of_le_length (by simp),List.take_of_length_le (by simp),List.drop_append];simp only [List.length_replicate,List.drop_replicate]
  rw [show k - (k+m)=0 by omega,show k+m - k=m by omega,show n - k - m=n - (k+m) by omega];simp [← List.append_assoc]
theorem fill_len (k n:Nat) (h:k≤n):(ints (fillL k n)).length=n:=by simp [fillL,ints];omega
theorem rep_len (m:Nat):(ints (List.replicate m (-1))).length=m:=by simp [ints]
theorem rep_one (m:Nat):∀ v∈ints (List.replicate m (-1)),v.oneCell'=true:=by
  intro v hv;simp only [ints,List.map_replicate] at hv
  obtain ⟨_,rfl⟩:=List.mem_replicate.1 hv;rfl
theorem rep_at {m j:Nat} {v:Value} (h:(ints (List.replicate m (-1)))[j]? = some v):j < m∧v=num (-1):=by
  have hj:=(List.getElem?_eq_some_iff.1 h).1;rw [rep_len] at hj;simp only [ints,List.map_replicate,List.getElem?_replicate,hj,if_true,Option.some.injEq] at h
  exact ⟨hj,h.symm⟩
theorem fill_all (n:Nat):fillL n n=List.replicate n (-1):=by simp [fillL]
theorem fill_at (k n j:Nat) (h:j < k):(ints (fillL k n))[j]? = some (num (-1)):=by
  unfold fillL ints;rw [List.map_append,List.getElem?_append_left (by simpa using h)];simp [h]
set_option maxHeartbeats 4000000 in
set_option maxRecDepth 20000 in
theorem repeat_any (n:Nat) (h1:1≤n) (h2:n < 1000000000) (b c:Nat) (w:World) (hb:w.cell? ⟨b,0,none⟩=some (num (-1))) (hbl:b < w.heap.size) :
    Calls Tryz.prog 89 #[.slice (some ⟨b,0,none⟩) 1 c,num n] w fun e w'=>∃ g,e = .returned (.slice (some ⟨g,0,none⟩) n n)∧MM.Row w' g 3 (ints (List.replicate n (-1)))∧w.heap.size≤g∧MM.Far [] w w':=by
  go_enter Tryz.func89,Tryz.ntmps89
  have hmk:=run_make_row' (P:=Tryz.prog) 24 3 (.int .i64 0) 8 ints_slice int_info rfl .i64 .i64 n (by omega) (by omega);rw [made_list] at hmk;have hrow:MM.Row (w.alloc (.cells (List.replicate n (.int .i64 0)).toArray 3)) w.heap.size 3 (ints (fillL 0 n)):=by
    have:=MM.Row.new w 3 (List.replicate n (.int .i64 0));unfold fillL ints;simpa using this
  have hb1:Below w.heap.size w (w.alloc (.cells (List.replicate n (.int .i64 0)).toArray 3)):=((MM.Far.refl [] w).alloc _).below_nil;have HB:=Lib.hid hb;have HROW:=Lib.hid hrow;have HB1:=Lib.hid hb1;clear hrow hb1;have HP1:Hid (∀ dp:Option Addr,dp=some ⟨w.heap.size,0,none⟩→0 < (ints (List.replicate 1 (-1))).length→dp=some ⟨w.heap.size,0,none⟩∧∃ ad:Addr,(some ⟨b,0,none⟩:Option Addr)=some ad∧∀ j v,(ints (List.replicate 1 (-1)))[j]? = some v→(w.alloc (.cells (List.replicate n (.int .i64 0)).toArray 3)).cell? (ad.add j)=some v):=Lib.hid (by
    intro dp e _;refine ⟨e,_,rfl,fun j v hj=>?_⟩
    obtain ⟨hj1,rfl⟩:=rep_at hj;obtain rfl:j=0:=by omega
    rw [add_zero_];exact (Below.cell (HB1.out) hbl).trans HB.out)
  have HN1:Hid ((ints (List.replicate 1 (-1))).length=Nat.min 1 n):=Lib.hid (by rw [rep_len];show 1=min 1 n;omega);have HF1:Hid (0+(ints (List.replicate 1 (-1))).length≤(ints (fillL 0 n)).length):=Lib.hid (by rw [rep_len,fill_len 0 n (by omega)];omega)
  go_upto_region 7 with (first | (go_at_call 124;refine (mul_any n h2 _).mono ?_;rintro e w' ⟨rfl,rfl⟩))
  go_wp2_with (first
    | (refine wpList_copy_splice ?_ (.tmp 31) (.tmp 32) 24 24 ?_ 3 ints_slice int_size _ _ n n 1 c ?_ ?_ w.heap.size 0 (ints (fillL 0 n)) 3 HROW.out (ints (List.replicate 1 (-1))) HN1.out (HP1.out _ rfl) HF1.out (rep_one 1) w.heap.size w HB1.out (Nat.le_refl _) ?_
       · rfl
       · rfl
       · rfl
       · rfl
       intro w2 hg2 hb2))
  have HS0:Hid (MM.Row w2 w.heap.size 3 (ints (fillL 1 n))):=Lib.hid (by
    have:=hg2.out;rw [fill_more 0 1 n (by omega)] at this;exact this)
  have HB2:=Lib.hid hb2;clear hg2 hb2 hmk HP1 HN1 HF1 HROW HB1 HB;obtain ⟨g,hg⟩:∃ g,w.heap.size=g:=⟨_,rfl⟩
  rw [hg] at HS0;rw [hg];have HGG:=Lib.hid hg;clear hg
  go_loopw [8] (fun s8 wr=>∃ k:Nat,1≤k∧k≤n∧s8=num k∧Hid (MM.Row wr g 3 (ints (fillL k n)))∧Hid (Below w.heap.size w wr)) (fun s8 _=>n - (intOf s8).toNat)
  case atStart=>exact ⟨1,by omega,h1,rfl,HS0,HB2⟩
  case round =>
    obtain ⟨k,hk1,hk,rfl,HR,HBk⟩:=hrel;by_cases hlt:k < n
    · go_upto_region 9 with (fail)
      obtain ⟨m,hm⟩:∃ m,m=min k (n - k):=⟨_,rfl⟩
      have hm1:1≤m:=by omega
      have hm2:k+m≤n:=by omega
      have HM:=Lib.hid hm;have HP1:Hid (0 < (ints (List.replicate m (-1))).length→(if n=k then (some ⟨g,0,none⟩:Option Addr) else some ⟨g,k,none⟩)=some ⟨g,k,none⟩∧∃ ad:Addr,(some ⟨g,0,none⟩:Option Addr)=some ad∧∀ j v,(ints (List.replicate m (-1)))[j]? = some v→wr.drew.cell? (ad.add j)=some v):=Lib.hid (by
        intro _;refine ⟨by rw [if_neg (by omega)],_,rfl,fun j v hj=>?_⟩
        obtain ⟨hj1,rfl⟩:=rep_at hj;rw [MM.head_add];exact HR.out.drew.at (fill_at k n j (by have:=HM.out;omega)))
      have HN1:Hid ((ints (List.replicate m (-1))).length=Nat.min k (n - k)):=Lib.hid (by rw [rep_len];exact HM.out);have HBg:Hid (w.heap.size≤g):=Lib.hid (by rw [HGG.out];exact Nat.le_refl _);have HRd:Hid (wr.drew.heap[g]? = some (.cells (ints (fillL k n)).toArray 3 (0,0))):=HR;have HBd:Hid (Below w.heap.size w wr.drew):=Lib.hid ⟨HBk.out.os,HBk.out.tape,HBk.out.output,HBk.out.size,HBk.out.block⟩;have HF1:Hid (k+(ints (List.replicate m (-1))).length≤(ints (fillL k n)).length):=Lib.hid (by rw [rep_len,fill_len k n hk];exact hm2);have hgl:=HR.out.lt;have hwr:IntKind.i64.wrap ((k:Int)+(m:Int))=(k:Int)+(m:Int):=wrap_id _ (by omega) (by omega);clear hm
      first | refine wp_region_noPanic ?_ | skip
      refine wp_region_held_drew (S:=(fun w':World=>True)) (by kernel_rfl) trivial (fun hHeld=>?_)
      refine wpAnyH_take (i := 0) (oi := { dst := some 38, op := Op.move (Operand.tmp 8), type := 3, pos := "slices.go:528", after := #[], guard := none }) (v := ?v0) rfl (by kernel_rfl) (by kernel_rfl) (by kernel_rfl) (fun _ _ _ h => h) (Or.inl ⟨by rfl, ?hy0⟩) trivial ?rest0
      case hy0=>(intro w hSw;go_simp;try (with_reducible rfl))
      try simp only [Act.put,List.setIfInBounds_toArray,List.set_cons_zero,List.set_cons_succ]
      refine wpAnyH_take (i := 1) (oi := { dst := some 39, op := Op.move (Operand.tmp 7), type := 24, pos := "slices.go:528", after := #[], guard := none }) (v := ?v1) rfl (by kernel_rfl) (by kernel_rfl) (by kernel_rfl) (fun _ _ _ h => h) (Or.inl ⟨by rfl, ?hy1⟩) trivial ?rest1
      case hy1=>(intro w hSw;go_simp;try (with_reducible rfl))
      try simp only [Act.put,List.setIfInBounds_toArray,List.set_cons_zero,List.set_cons_succ]
      refine wpAnyH_take (i := 2) (oi := { dst := some 40, op := Op.move (Operand.tmp 8), type := 3, pos := "slices.go:528", after := #[], guard := none }) (v := ?v2) rfl (by kernel_rfl) (by kernel_rfl) (by kernel_rfl) (fun _ _ _ h => h) (Or.inl ⟨by rfl, ?hy2⟩) trivial ?rest2
      case hy2=>(intro w hSw;go_simp;try (with_reducible rfl))
      try simp only [Act.put,List.setIfInBounds_toArray,List.set_cons_zero,List.set_cons_succ]
      refine wpAnyH_take (i := 3) (oi := { dst := some 41, op := Op.slice 24 (Operand.tmp 39) (some (Operand.tmp 40)) none none, type := 24, pos := "slices.go:528", after := #[{ on := 1, ground := Ground.data }, { on := 2, ground := Ground.data }], guard := none }) (v := ?v3) rfl (by kernel_rfl) (by kernel_rfl) (by kernel_rfl) (fun _ _ _ h => h) (Or.inl ⟨by rfl, ?hy3⟩) trivial ?rest3
      case hy3=>(intro w hSw;go_simp;try (with_reducible rfl))
      try simp only [Act.put,List.setIfInBounds_toArray,List.set_cons_zero,List.set_cons_succ]
      refine wpAnyH_take (i := 4) (oi := { dst := some 42, op := Op.move (Operand.tmp 7), type := 24, pos := "slices.go:528", after := #[], guard := none }) (v := ?v4) rfl (by kernel_rfl) (by kernel_rfl) (by kernel_rfl) (fun _ _ _ h => h) (Or.inl ⟨by rfl, ?hy4⟩) trivial ?rest4
      case hy4=>(intro w hSw;go_simp;try (with_reducible rfl))
      try simp only [Act.put,List.setIfInBounds_toArray,List.set_cons_zero,List.set_cons_succ]
      refine wpAnyH_take (i := 5) (oi := { dst := some 43, op := Op.move (Operand.tmp 8), type := 3, pos := "slices.go:528", after := #[], guard := none }) (v := ?v5) rfl (by kernel_rfl) (by kernel_rfl) (by kernel_rfl) (fun _ _ _ h => h) (Or.inl ⟨by rfl, ?hy5⟩) trivial ?rest5
      case hy5=>(intro w hSw;go_simp;try (with_reducible rfl))
      try simp only [Act.put,List.setIfInBounds_toArray,List.set_cons_zero,List.set_cons_succ]
      refine wpAnyH_take (i := 6) (oi := { dst := some 44, op := Op.slice 24 (Operand.tmp 42) none (some (Operand.tmp 43)) none, type := 24, pos := "slices.go:528", after := #[{ on := 4, ground := Ground.data }, { on := 5, ground := Ground.data }], guard := none }) (v := ?v6) rfl (by kernel_rfl) (by kernel_rfl) (by kernel_rfl) (fun _ _ _ h => h) (Or.inl ⟨by rfl, ?hy6⟩) trivial ?rest6
      case hy6=>(intro w hSw;go_simp;try (with_reducible rfl))
      try simp only [Act.put,List.setIfInBounds_toArray,List.set_cons_zero,List.set_cons_succ]
      refine wpAnyH_ready (rs:=[7]) (by kernel_rfl) (by simp) ?_
      refine AllReadyH.cons (o := { dst := some 45, op := Op.call { callee := Callee.builtin Builtin.copy, args := #[Operand.tmp 41, Operand.tmp 44], argTypes := #[24, 24] }, type := 3, pos := "slices.go:528", after := #[{ on := 3, ground := Ground.data }, { on := 6, ground := Ground.data }], guard := none }) rfl (fun K hK => ?_) AllReadyH.nil
      refine step_copy_splice ?_ (.tmp 41) (.tmp 44) 24 24 ?_ 3 ints_slice int_size _ _ (n - k) (n - k) k n ?_ ?_ g k (ints (fillL k n)) 3 HRd.out (ints (List.replicate m (-1))) HN1.out HP1.out HF1.out (rep_one m) w.heap.size w HBd.out HBg.out ?_
      · rfl
      · rfl
      · rfl
      · rfl
      intro w3 hg3 hb3;have HR3:Hid (MM.Row w3 g 3 (ints (fillL (k+m) n))):=Lib.hid (by
        have:=hg3.out;rw [fill_more k m n hm2] at this;exact this)
      have HB3:=Lib.hid hb3;clear hg3 hb3;refine hK.out _ _ trivial (fun hHeld=>?_)
      clear hK K;rw [rep_len]
      try simp only [Act.put,List.setIfInBounds_toArray,List.set_cons_zero,List.set_cons_succ]
      refine wpAnyH_take (i := 8) (oi := { dst := some 46, op := Op.binOp BinOp.add 3 (Operand.tmp 38) (Operand.tmp 45) 3, type := 3, pos := "slices.go:528", after := #[{ on := 0, ground := Ground.data }, { on := 7, ground := Ground.data }], guard := none }) (v := ?v8) rfl (by kernel_rfl) (by kernel_rfl) (by kernel_rfl) (fun _ _ _ h => h) (Or.inl ⟨by rfl, ?hy8⟩) trivial ?rest8
      case hy8=>(intro w hSw;go_simp;try (with_reducible rfl))
      try simp only [Act.put,List.setIfInBounds_toArray,List.set_cons_zero,List.set_cons_succ]
      refine wpAnyH_take (i := 9) (oi := { dst := some 8, op := Op.assign (Operand.tmp 46), type := 3, pos := "slices.go:528", after := #[{ on := 8, ground := Ground.data }, { on := 7, ground := Ground.chain }, { on := 0, ground := Ground.phase }, { on := 1, ground := Ground.phase }, { on := 2, ground := Ground.phase }, { on := 3, ground := Ground.phase }, { on := 4, ground := Ground.phase }, { on := 5, ground := Ground.phase }, { on := 6, ground := Ground.phase }, { on := 7, ground := Ground.phase }, { on := 8, ground := Ground.phase }], guard := none }) (v := ?v9) rfl (by kernel_rfl) (by kernel_rfl) (by kernel_rfl) (fun _ _ _ h => h) (Or.inl ⟨by rfl, ?hy9⟩) trivial ?rest9
      case hy9=>(intro w hSw;go_simp;try (with_reducible rfl))
      try simp only [Act.put,List.setIfInBounds_toArray,List.set_cons_zero,List.set_cons_succ]
      refine wpAnyH_done (by kernel_rfl) ?_ _
      first | refine NoPanic.normal ?_ | skip
      go_wp2_with (fail)
      go_roundw
      case rel=>exact ⟨k+m,by omega,hm2,by go_num,HR3,HB3⟩
      case measure=>simp [intOf];omega
    · obtain rfl:k=n:=by omega
      go_wp2_with (fail)
      go_ret
      refine ⟨g,rfl,by rw [← fill_all];exact HR.out,by rw [HGG.out];exact Nat.le_refl _,MM.Far.of_below HBk.out []⟩
end KW
end Go.Proofs.YtehgmmbdlnginaaGreatDoor
namespace Go.Proofs.YtehgmmbdlnginaaGreatDoor
open Go.RowKit
set_option linter.unusedVariables false
namespace KW
open KP
def DepthQ (R:Option (List Int)) (w:World) (e:Ending) (w':World):Prop :=
  ∃ v,e = .returned (.tuple #[v,.bool R.isSome])∧MM.Far [] w w'∧(R=none→v = .slice none 0 0)∧∀ d,R=some d→∃ g,v = .slice (some ⟨g,0,none⟩) d.length d.length∧MM.Row w' g 3 (ints d)∧w.heap.size≤g
theorem DepthQ.none {w w':World} (f:MM.Far [] w w'):DepthQ none w (.returned (.tuple #[.slice Option.none 0 0,.bool false])) w':=⟨_,rfl,f,fun _=>rfl,fun d e=>by cases e⟩
theorem rep_get {n j:Nat} (h:j < n):(ints (List.replicate n (-1)))[j]? = some (num (-1)):=by simp [ints,h]
set_option maxHeartbeats 4000000 in
set_option maxRecDepth 20000 in
theorem depth_any (l:List Ki) (n:Nat) (hn:l.length=n) (h9:n < 1000000000) (many:Int) (A:Option Addr) (c:Nat) (w:World) (hI:Ir w [] A l) :
    Calls Tryz.prog 46 #[.agg #[num many,.slice A n c]] w (DepthQ (depth l) w):=by
  obtain ⟨R,hR⟩:∃ R,depth l=R:=⟨_,rfl⟩
  rw [hR];unfold depth at hR;have HN:=Lib.hid hn;have HR:=Lib.hid hR;have HI:=Lib.hid hI;clear hn hR hI;have F1:=Lib.hid ((MM.Far.refl [] w).alloc (.cells #[num many,.slice A n c] 42));go_enter Tryz.func46,Tryz.ntmps46
  by_cases h0:n=0
  · obtain rfl:R=none:=by have:=HR.out;rw [if_pos (List.length_eq_zero_iff.1 (HN.out.trans h0))] at this;exact this.symm
    subst h0
    go_wp2_with (fail)
    go_ret2
    exact DepthQ.none F1.out
  · have hR2:Hid (run l 0 (KP.start n)=R):=Lib.hid (by
      have:=HR.out;rw [if_neg (fun h=>h0 (by rw [← HN.out,h];rfl)),HN.out] at this;exact this)
    clear HR;have hn0:((n:Int) == 0)=false:=by simpa using h0
    have HRW:=Lib.hid (fun (W:World) (bb:Nat) (hb:W.cell? ⟨bb,0,none⟩=some (num (-1))) (hl:bb < W.heap.size)=>repeat_any n (by omega) h9 bb 1 W hb hl);have hm1:=MM.Row.new (w.alloc (.cells #[num many,.slice A n c] 42)) 3 [num (-1)];rw [World.size_alloc] at hm1;have HM1:=Lib.hid hm1;have F2:=Lib.hid (F1.out.alloc (.cells #[num (-1)] 3));have hb1:=((MM.Row.new w 42 [num many,.slice A n c]).alloc (.cells #[num (-1)] 3))
    have HB1:=Lib.hid hb1;clear hm1 hb1
    go_wp2_with (first
      | (go_at_call 89
         refine (HRW.out _ _ (HM1.out.at (i:=0) rfl) HM1.out.lt).mono ?_
         rintro e w2 ⟨g,rfl,hr,hg,hF⟩;have hs2:w.heap.size+2≤g:=by simpa using hg
         have hr0:w2.frozen? ⟨g,0,none⟩=false:=hr.frozen 0;have hc0:w2.cell? ⟨g,0,none⟩=some (num (-1)):=hr.at (i:=0) (rep_get (by omega));have HR2:=Lib.hid hr;have HF2:=Lib.hid hF;have hbx:=HB1.out.far hF (by simp);have hx1:w2.cell? ⟨w.heap.size,1,none⟩=some (.slice A n c):=hbx.at (i:=1) rfl;clear hr hF hbx hg))
    have HR3:Hid (MM.Row (w2.setCell ⟨g,0,none⟩ (num 0)) g 3 (ints (KP.start n))):=Lib.hid (by
      have:=HR2.out.put 0 (num 0);rw [ints_set] at this;exact this)
    have HF3:Hid (MM.Far [] w (w2.setCell ⟨g,0,none⟩ (num 0))):=Lib.hid ((F2.out.trans HF2.out (by simp)).setCell (fun h=>by simp at h;omega) _);have HL0:=Lib.hid (start_low n);have HZ0:=Lib.hid (start_len n);have HN0:=Lib.hid (start_nn n);clear HR2 HF2 HM1 HB1 HRW hr0 hc0 hx1;have hgl:=HR3.out.lt;generalize w2.setCell ⟨g,0,none⟩ (num 0)=w3 at *
    go_loopw [21] (fun s21 wr=>∃ (k:Nat) (d:List Int),k≤n∧s21=num k∧Hid (d.length=n)∧Hid (MM.Row wr g 3 (ints d))∧Hid (MM.Far [] w wr)∧Hid (run (l.drop k) k d=R)∧Hid (Low d)∧Hid (Nn d)) (fun s21 _=>n - (intOf s21).toNat)
    case atStart=>exact ⟨0,KP.start n,by omega,rfl,HZ0,HR3,HF3,hR2,HL0,HN0⟩
    case round =>
      obtain ⟨k,d,hk,rfl,HZ,HR,HF,HE,HLo,HNn⟩:=hrel;by_cases hlt:k < n
      · have hkl:k < l.length:=by rw [HN.out];exact hlt
        obtain ⟨b,o,rfl,-,hb,c0,c1,c2,c3⟩:=(HI.out.far HF.out (by simp)).at hkl;have hE:=HE.out;rw [List.drop_eq_getElem_cons hkl] at hE;generalize l[k]=x at *;obtain ⟨op,xa,xb,xw⟩:=x;simp only at c0 c1 c2 c3
        unfold KP.run at hE;have hdk:wr.cell? ⟨g,k,none⟩=some (num (at_ d k)):=HR.out.at (ints_at (by rw [HZ.out];exact hlt));have hgr:=HR.out.lt;have q1:=HLo.out k;have q2:=HNn.out k;have HW:=Lib.hid (HR.out.alloc (.cells #[.int .u8 op,.int .i64 xa,.int .i64 xb,.int .u64 xw] 44));have HFW:=Lib.hid (HF.out.alloc (.cells #[.int .u8 op,.int .i64 xa,.int .i64 xb,.int .u64 xw] 44));have HE2:=Lib.hid hE;have HL:=Lib.hid (fun (e0:0≤at_ d k)=>lead_any d n HZ.out n k ⟨op,xa,xb,xw⟩ g (wr.alloc (.cells #[.int .u8 op,.int .i64 xa,.int .i64 xb,.int .u64 xw] 44)) HW.out hlt h9 e0 (by omega));obtain ⟨q,hq⟩:∃ q,at_ d k=q:=⟨_,rfl⟩
        rw [hq] at hdk q1 q2;have HQ:=Lib.hid hq;clear hE hq;by_cases hm:q = -1
        · subst hm;have HE3:Hid (run (l.drop (k+1)) (k+1) d=R):=Lib.hid (by have:=HE2.out;rw [if_pos HQ.out] at this;exact this);clear HE2 HL
          go_wp2_with (fail)
          go_roundw
          case rel=>exact ⟨k+1,d,by omega,by go_num,HZ,HW,HFW,HE3,HLo,HNn⟩
          case measure=>simp [intOf];omega
        · have e5:(q != -1)=true:=by simpa using hm
          have hE3:=HE2.out;rw [if_neg (by rw [HQ.out];exact hm)] at hE3;have HL2:=Lib.hid (HL.out (by rw [HQ.out];omega));have HLW:Hid (∀ e,KP.lead d k ⟨op,xa,xb,xw⟩=some e→Low e∧Nn e):=Lib.hid (fun e he=>⟨lead_low he HLo.out,(lead_kept he).1.nn HNn.out⟩);generalize KP.lead d k ⟨op,xa,xb,xw⟩=RL at *;clear HL HE2;cases RL with
          | none =>
            have hR0:R=none:=hE3.symm;subst hR0;clear hE3
            go_wp2_with (first
              | (go_at_call 90
                 refine HL2.out.mono ?_
                 rintro e w4 ⟨d2,rfl,hr4,hz4,-,hF4⟩))
            go_ret2
            exact DepthQ.none (HFW.out.trans hF4 (fun b1 h1 h2=>by simp at h1;omega))
          | some d1 =>
            have HE3:Hid (run (l.drop (k+1)) (k+1) d1=R):=Lib.hid hE3;clear hE3
            go_wp2_with (first
              | (go_at_call 90
                 refine HL2.out.mono ?_
                 rintro e w4 ⟨d2,rfl,hr4,hz4,h4,hF4⟩;obtain rfl:=h4 d1 rfl;have HZ4:=Lib.hid hz4;have HR4:=Lib.hid hr4;have HF4:=Lib.hid (HFW.out.trans hF4 (fun b1 h1 h2=>by simp at h1;omega));clear hz4 hr4 hF4 h4))
            go_roundw
            case rel=>exact ⟨k+1,_,by omega,by go_num,HZ4,HR4,HF4,HE3,Lib.hid (HLW.out _ rfl).1,Lib.hid (HLW.out _ rfl).2⟩
            case measure=>simp [intOf];omega
      · have hd:R=some d:=by
          have:=HE.out;rw [List.drop_eq_nil_of_le (by rw [HN.out];omega)] at this;exact this.symm
        subst hd;have hz:=HZ.out;subst hz
        go_wp2_with (fail)
        go_ret2
        exact ⟨_,rfl,HF.out,(fun e=>by cases e),fun d' e=>by injection e with e;subst e;exact ⟨g,rfl,HR.out,by omega⟩⟩
end KW
end Go.Proofs.YtehgmmbdlnginaaGreatDoor
namespace Go.Proofs.YtehgmmbdlnginaaGreatDoor
open Go.RowKit
set_option linter.unusedVariables false
namespace KW
open KP
def IxQ (R:Bool) (w:World) (e:Ending) (w':World):Prop:=∃ r,e = .returned (num r)∧decide (0≤r)=R∧w=w'
theorem index_any (d:List Int) (n:Nat) (hn:d.length=n) (h9:n < 1000000000) (v:Int) (g c:Nat) (w:World) (hr:MM.Row w g 3 (ints d)) :
    Calls Tryz.prog 91 #[.slice (some ⟨g,0,none⟩) n c,num v] w (IxQ (d.contains v) w):=by
  have HN:=Lib.hid hn;have HR:=Lib.hid hr;have hgl:=hr.lt;obtain ⟨R,hR⟩:∃ R,d.contains v=R:=⟨_,rfl⟩
  rw [hR];have HC:=Lib.hid hR;clear hn hr hR;go_enter Tryz.func91,Tryz.ntmps91
  go_wp2_with (fail)
  go_loopw [8] (fun s8 wr=>∃ k:Nat,k≤n∧s8=num k∧w=wr∧Hid (∀ j,j < k→at_ d j≠v)) (fun s8 _=>n - (intOf s8).toNat)
  case atStart=>exact ⟨0,by omega,rfl,rfl,Lib.hid (fun j hj=>by omega)⟩
  case round =>
    obtain ⟨k,hk,rfl,rfl,hA⟩:=hrel;by_cases hlt:k < n
    · have hck:w.cell? ⟨g,k,none⟩=some (num (at_ d k)):=HR.out.at (ints_at (by rw [HN.out];exact hlt));obtain ⟨q,hq⟩:∃ q,at_ d k=q:=⟨_,rfl⟩
      rw [hq] at hck;have HQ:=Lib.hid hq;clear hq;by_cases he:v=q
      · subst he;have hRt:R=true:=by
          rw [← HC.out];rw [List.contains_iff_mem];have h1:=HQ.out;have hkl:k < d.length:=by rw [HN.out];exact hlt
          unfold at_ at h1;rw [List.getD_eq_getElem?_getD,List.getElem?_eq_getElem hkl,Option.getD_some] at h1;rw [← h1];exact List.getElem_mem hkl
        subst hRt
        go_wp2_with (fail)
        go_ret
        refine ⟨_,rfl,?_⟩
        first | trivial | (simp;done) | exact ⟨decide_eq_true (by omega),rfl⟩
      · have hee:(v == q)=false:=by simpa using he
        go_wp2_with (fail)
        go_roundw
        case rel=>exact ⟨k+1,by omega,by go_num,by first | rfl | trivial,Lib.hid (fun j hj=>by
          by_cases e:j=k
          · subst e;rw [HQ.out];exact fun h=>he h.symm
          · exact hA.out j (by omega))⟩
        case measure=>simp [intOf];omega
    · have hRf:R=false:=by
        rw [← HC.out,← Bool.not_eq_true,List.contains_iff_mem];intro hm;obtain ⟨j,hj,e⟩:=List.getElem_of_mem hm;refine hA.out j (by rw [HN.out] at hj;omega) ?_
        unfold at_;rw [List.getD_eq_getElem?_getD,List.getElem?_eq_getElem hj,Option.getD_some];exact e
      subst hRf
      go_wp2_with (fail)
      go_ret
      exact ⟨-1,rfl,by first | trivial | exact ⟨by decide,rfl⟩⟩
theorem contains_any (d:List Int) (n:Nat) (hn:d.length=n) (h9:n < 1000000000) (v:Int) (g c:Nat) (w:World) (hr:MM.Row w g 3 (ints d)) :
    Calls Tryz.prog 47 #[.slice (some ⟨g,0,none⟩) n c,num v] w fun e w'=>e = .returned (.bool (d.contains v))∧w=w':=by
  have HX:=Lib.hid (index_any d n hn h9 v g c w hr);clear hn hr;generalize d.contains v=R at *;go_enter Tryz.func47,Tryz.ntmps47
  go_wp2_with (first
    | (go_at_call 91
       refine HX.out.mono ?_
       rintro e w' ⟨r,rfl,hr,rfl⟩;have HRR:=Lib.hid hr;clear hr))
  all_goals
    go_ret
    refine ⟨?_,rfl⟩
    have:=HRR.out
    simp_all
structure FT (w:World):Prop where
  lt:3 < w.heap.size
  slot:∀ k:Nat,k < 17→∃ A c,w.cell? ⟨3,k,none⟩=some (.slice A (own k).length c)∧(own k).length≤c∧c≤maxLen∧∀ (j:Nat) (v:Int),(own k)[j]? = some v→∃ b o,A=some ⟨b,o,none⟩∧b < w.heap.size∧w.cell? ⟨b,o+j,none⟩=some (num v)
theorem FT.far {w w':World} (h:FT w) (f:MM.Far [] w w'):FT w':=by
  refine ⟨Nat.lt_of_lt_of_le h.lt f.size,fun k hk=>?_⟩
  obtain ⟨A,c,h1,h2,h3,h4⟩:=h.slot k hk;refine ⟨A,c,(f.cell (p:=⟨3,k,none⟩) h.lt (by simp)).trans h1,h2,h3,fun j v hv=>?_⟩
  obtain ⟨b,o,e,hb,hc⟩:=h4 j v hv;exact ⟨b,o,e,Nat.lt_of_lt_of_le hb f.size,(f.cell (p:=⟨b,o+j,none⟩) hb (by simp)).trans hc⟩
set_option maxHeartbeats 2000000 in
set_option maxRecDepth 20000 in
theorem others_any (x:Ki) (k:Nat) (hx:x.op=k) (hk:k < 17) (w:World) (hT:FT w):Calls Tryz.prog 92 #[val x] w fun e w'=>e = .returned (.bool (others x))∧MM.Far [] w w':=by
  have HF:=Lib.hid (fun f hf W=>filled_any x f hf W);have HO:Hid (∀ f,other x f=(!(own k).contains f && fld x f != 0)):=Lib.hid (fun f=>by unfold other;rw [hx]);have HE:Hid (others x=(other x 0 || (other x 1 || other x 2))):=Lib.hid rfl;obtain ⟨op,xa,xb,xw⟩:=x;obtain rfl:op=k:=hx;generalize others ⟨k,xa,xb,xw⟩=R at *;generalize fld ⟨k,xa,xb,xw⟩=fl at *;generalize other ⟨k,xa,xb,xw⟩=ot at *;have HT:=Lib.hid hT;clear hT;show Calls Tryz.prog 92 #[.agg #[.int .u8 k,.int .i64 xa,.int .i64 xb,.int .u64 xw]] w _
  go_enter Tryz.func92,Tryz.ntmps92
  go_wp2
  go_step3
  go_wp2
  go_step3
  go_wp2;have F1:=Lib.hid ((MM.Far.refl [] w).alloc (.cells #[.int .u8 k,.int .i64 xa,.int .i64 xb,.int .u64 xw] 44));have HB1:=Lib.hid (MM.Row.new w 44 [.int .u8 k,.int .i64 xa,.int .i64 xb,.int .u64 xw]);generalize hw1:w.alloc (.cells #[.int .u8 k,.int .i64 xa,.int .i64 xb,.int .u64 xw] 44)=w1 at *;have HB2:=Lib.hid HB1.out;have F0:Hid (MM.Far [] w1 w1):=Lib.hid (MM.Far.refl _ _);clear hw1 HB1
  go_loopg [6] 3 (fun gg s6 wr=>∃ f:Nat,f+gg=3∧s6=num f∧Hid (MM.Far [] w1 wr)∧Hid (∀ j:Nat,j < f→ot j=false))
  case atStart=>exact ⟨0,by omega,rfl,F0,Lib.hid (fun j hj=>by omega)⟩
  case round =>
    obtain ⟨f,hf,rfl,HFr,HA⟩:=hrel;by_cases hlt:f < 3
    · obtain ⟨A,c,t1,t2,t3,t4⟩:=(HT.out.far (F1.out.trans HFr.out (by simp))).slot k hk;have htl:=(HT.out.far (F1.out.trans HFr.out (by simp))).lt;have T4:=Lib.hid t4;have hB:=HB2.out.far HFr.out (by simp);have b0:wr.cell? ⟨w.heap.size,0,none⟩=some (.int .u8 k):=hB.at (i:=0) rfl;have HBr:=Lib.hid hB;have HOk:=HO.out;generalize own k=ow at *;obtain ⟨m,hm⟩:∃ m,ow.length=m:=⟨_,rfl⟩
      rw [hm] at t1 t2;have HM:=Lib.hid hm;have HOW:=Lib.hid HOk;clear hm t4 hB HOk HO;unfold maxLen at t3;generalize wr=w4 at *;generalize gk=gg at *;have HFb:Hid (∀ W,f < 3→Calls Tryz.prog 126 #[.agg #[.int .u8 k,.int .i64 xa,.int .i64 xb,.int .u64 xw],num f] W fun e w'=>e = .returned (.bool (fl f != 0))∧w'=W.alloc (.cells #[.int .u8 k,.int .i64 xa,.int .i64 xb,.int .u64 xw] 44)):=Lib.hid (fun W h=>HF.out f (by omega) W);have b1:w4.cell? ⟨w.heap.size,1,none⟩=some (.int .i64 xa):=HBr.out.at (i:=1) rfl;have b2:w4.cell? ⟨w.heap.size,2,none⟩=some (.int .i64 xb):=HBr.out.at (i:=2) rfl;have b3:w4.cell? ⟨w.heap.size,3,none⟩=some (.int .u64 xw):=HBr.out.at (i:=3) rfl
      go_wp2_with (fail)
      go_loopg [14] m (fun gi s14 wz=>∃ j:Nat,j+gi=m∧s14=num j∧w4=wz∧Hid (∀ i:Nat,i < j→ow[i]?≠some (f:Int)))
      case atStart=>exact ⟨0,by omega,rfl,rfl,Lib.hid (fun j hj=>by omega)⟩
      case round =>
        obtain ⟨j,hj,rfl,rfl,HJ⟩:=hrel;by_cases hjm:j < m
        · have hjl:j < ow.length:=by rw [HM.out];exact hjm
          obtain ⟨b,o,rfl,hbl,hcv⟩:=T4.out j _ (List.getElem?_eq_getElem hjl);have HV:Hid (ow[j]? = some ow[j]):=Lib.hid (List.getElem?_eq_getElem hjl);generalize ow[j]=v at *;by_cases hv:(f:Int)=v
          · obtain rfl:=hv;have HOT:Hid (ot f=false):=Lib.hid (by
              rw [HOW.out];have:ow.contains (f:Int)=true:=by rw [List.contains_iff_mem];exact List.mem_of_getElem? HV.out
              rw [this];rfl)
            go_wp2_with (fail)
            go_roundg (gg - 1)
            case measure=>omega
            case rel=>exact ⟨f+1,by omega,by go_num,HFr,Lib.hid (fun i hi=>by
              by_cases e:i=f
              · subst e;exact HOT.out
              · exact HA.out i (by omega))⟩
          · have hve:((f:Int) == v)=false:=by simpa using hv
            go_wp2_with (fail)
            go_roundg (gk - 1)
            case measure=>omega
            case rel=>exact ⟨j+1,by omega,by go_num,rfl,Lib.hid (fun i hi=>by
              by_cases e:i=j
              · subst e;rw [HV.out];exact fun h=>hv (by injection h with h;exact h.symm)
              · exact HJ.out i (by omega))⟩
        · have hno:ow.contains (f:Int)=false:=by
            rw [← Bool.not_eq_true,List.contains_iff_mem];intro hm;obtain ⟨i,hi,e⟩:=List.getElem_of_mem hm;refine HJ.out i (by rw [HM.out] at hi;omega) ?_
            rw [List.getElem?_eq_getElem hi,e]
          have HOT:Hid (ot f=(fl f != 0)):=Lib.hid (by rw [HOW.out,hno];rfl);clear hno;cases hfl:(fl f != 0) with
          | true =>
            have HOT2:Hid (ot f=true):=Lib.hid (HOT.out.trans hfl);rw [hfl] at HFb;clear HOT hfl
            go_wp2_with (first | (go_at_call 126;refine (HFb.out _ hlt).mono ?_;rintro e w' ⟨rfl,rfl⟩))
            (try rw [Exit.noGoto_ret])
            go_ret
            refine ⟨?_,(F1.out.trans HFr.out (by simp)).alloc _⟩
            have h2:=HOT2.out;have:R=true:=by
              rw [HE.out]
              rcases (show f=0∨f=1∨f=2 by omega) with rfl | rfl | rfl
              · have h2':ot 0=true:=h2;rw [h2'];rfl
              · have h2':ot 1=true:=h2;rw [h2'];simp
              · have h2':ot 2=true:=h2;rw [h2'];simp
            rw [this];rfl
          | false =>
            have HOT2:Hid (ot f=false):=Lib.hid (HOT.out.trans hfl);rw [hfl] at HFb;clear HOT hfl
            go_wp2_with (first | (go_at_call 126;refine (HFb.out _ hlt).mono ?_;rintro e w' ⟨rfl,rfl⟩))
            go_roundg (gg - 1)
            case measure=>omega
            case rel=>exact ⟨f+1,by omega,by go_num,Lib.hid (HFr.out.alloc _),Lib.hid (fun i hi=>by
              by_cases e:i=f
              · subst e;exact HOT2.out
              · exact HA.out i (by omega))⟩
    · go_wp2_with (fail)
      (try rw [Exit.noGoto_ret])
      go_ret
      refine ⟨?_,F1.out.trans HFr.out (by simp)⟩
      obtain rfl:f=3:=by omega
      rw [HE.out];have h0:=HA.out 0 (by omega);have h1:=HA.out 1 (by omega);have h2:=HA.out 2 (by omega);simp only [Int.natCast_zero,Int.natCast_one] at h0 h1
      rw [h0,h1];have h2':ot 2=false:=h2;rw [h2'];rfl
end KW
end Go.Proofs.YtehgmmbdlnginaaGreatDoor
