/-
  Layer 12: the blocks of forms that are resolved may be. No condition.
-/
import Derived.Test.YtehgmmbdlnginaaGreatDoorQGenTy
namespace Go.Proofs.YtehgmmbdlnginaaGreatDoor
namespace GP
open KP SC
theorem const_int {n:Int} (h:WP.inR n=true):const (WP.intW n)=true:=by
  have h1:=(WP.toInt_intW n h).1;have h2:=(WP.toIntB_iff _).1 h1;unfold const;rw [WP.may_yes _ h1];have:WP.toB 1 (WP.intW n)=false:=by
    rw [← Bool.not_eq_true,WP.toB_iff];omega
  rw [this];rfl
theorem const_of {n:Int} (h:WP.ofB 3 n=true):const (WP.ofW 3 n)=true:=by
  have h1:=(WP.to_of 3 n h).1;have h2:=(WP.toB_iff _ _).1 h1;have h3:WP.toB 1 (WP.ofW 3 n)=false:=by
    rw [← Bool.not_eq_true,WP.toB_iff];omega
  unfold const WP.mayB;rw [h1,h3];simp
theorem const_bool (b:Bool):const (WP.boolW b)=true:=by cases b <;> decide
theorem oth {op a b w:Int} (h0:0∈own op∨a=0) (h1:1∈own op∨b=0) (h2:2∈own op∨w=0):others (ki op a b w)=false:=by
  have e0:other (ki op a b w) 0=false:=by
    unfold other fld ki
    rcases h0 with h | h
    · simp [h]
    · simp [h]
  have e1:other (ki op a b w) 1=false:=by
    unfold other fld ki
    rcases h1 with h | h
    · simp [h]
    · simp [h]
  have e2:other (ki op a b w) 2=false:=by
    unfold other fld ki
    rcases h2 with h | h
    · simp [h]
    · simp [h]
  unfold others;rw [e0,e1,e2];rfl
theorem wl_mk {T op a b w:Int} (h1:1≤op∧op≤16) (o0:0∈own op∨a=0) (o1:1∈own op∨b=0) (o2:2∈own op∨w=0) (ha:0≤a) (hb:0≤b) (hc:const w=true) (h10:op≠10) (h11:op≠11):Wl T (ki op a b w) :=
  ⟨whole_iff.2 ⟨h1.1,h1.2,oth o0 o1 o2,ha,hb,hc⟩,fun e=>absurd e h10,fun e=>absurd e h11⟩
theorem c0:const 0=true:=by decide
theorem c26:const 26=true:=by decide
theorem wl_push {T:Int}:Wl T (ki 7 0 0 0):=wl_mk (by decide) (.inr rfl) (.inr rfl) (.inr rfl) (by decide) (by decide) c0 (by decide) (by decide)
theorem wl_ret {T:Int}:Wl T (ki 16 0 0 0):=wl_mk (by decide) (.inr rfl) (.inr rfl) (.inr rfl) (by decide) (by decide) c0 (by decide) (by decide)
theorem wl_a {T:Int} (op:Int) (a:Nat) (h:op=3∨op=5∨op=6∨op=8∨op=9∨op=12∨op=13):Wl T (ki op a 0 0):=by
  rcases h with rfl | rfl | rfl | rfl | rfl | rfl | rfl <;> exact wl_mk (by decide) (.inl (by decide)) (.inr rfl) (.inr rfl) (by omega) (by decide) c0 (by decide) (by decide)
theorem wl_ab {T:Int} (op:Int) (a b:Nat) (h:op=2∨op=4):Wl T (ki op a b 0):=by
  rcases h with rfl | rfl <;> exact wl_mk (by decide) (.inl (by decide)) (.inl (by decide)) (.inr rfl) (by omega) (by omega) c0 (by decide) (by decide)
theorem wl_cc {T:Int} (op:Int) (h:op=14∨op=15):Wl T (ki op 0 0 0):=by
  rcases h with rfl | rfl <;> exact wl_mk (by decide) (.inr rfl) (.inr rfl) (.inr rfl) (by decide) (by decide) c0 (by decide) (by decide)
theorem wl_w {T w:Int} (h:const w=true):Wl T (ki 1 0 0 w):=wl_mk (by decide) (.inr rfl) (.inr rfl) (.inl (by decide)) (by decide) (by decide) h (by decide) (by decide)
theorem wl_fn {T:Int} (a:Nat) (h:0 < a) (h2:(a:Int) < T):Wl T (ki 10 a 0 0) :=
  ⟨whole_iff.2 ⟨by show (1:Int)≤10;decide,by show (10:Int)≤16;decide,oth (.inl (by decide)) (.inr rfl) (.inr rfl),by show (0:Int)≤a;omega,by show (0:Int)≤0;decide,c0⟩,fun _=>⟨by show (0:Int) < a;omega,h2⟩,fun e=>absurd (show (10:Int)=11 from e) (by decide)⟩
theorem ar_all:∀ n:Nat,n < 31→1≤n→n≠18→arity (n:Int)=some ((SC.primM.getD (n - 1) 0:Nat):Int):=by decide
theorem wl_prim {T:Int} (n m:Nat) (h1:1≤n) (h2:n≤30) (h3:n≠18) (hm:m=SC.primM.getD (n - 1) 0):Wl T (ki 11 n m 0) :=
  ⟨whole_iff.2 ⟨by show (1:Int)≤11;decide,by show (11:Int)≤16;decide,oth (.inl (by decide)) (.inl (by decide)) (.inr rfl),by show (0:Int)≤n;omega,by show (0:Int)≤m;omega,c0⟩,fun e=>absurd (show (11:Int)=10 from e) (by decide),fun _=>by subst hm;exact ar_all n (by omega) h1 h3⟩
def Ty (T:Int) (c:Cd) (p D:Nat) (e:Bool):Prop:=Fg T c.1 p D (if e=true then none else some D)∧∀ b∈c.2,(0≤b.many∧b.many≤100)∧Fg T b.l 0 0 none
def GOk (T:Int) (G:Gn) (i:Nat):Prop:=∀ e p nb D,(e=true→D=0)→1≤nb→((nb+(G i e p nb).2.length:Nat):Int)≤T→Ty T (G i e p nb) p D e
theorem fin_ty {T:Int} {c:List Ki} {p D0 D:Nat} {e:Bool} (h:Fg T c p D0 (some D)) (he:e=true→D=0):Fg T (c++endK e) p D0 (if e=true then none else some D):=by
  cases e with
  | false=>simpa [endK] using h
  | true =>
    have hD:=he rfl;subst hD;exact h.app (Fg.end_ (x:=ki 16 0 0 0) rfl rfl (.inr (.inr rfl)) (by decide) wl_ret)
theorem op_ty {T:Int} {x:Ki} {p D D':Nat} {e:Bool} (hs:succs (p:Int) x=[(p:Int)+1]) (h0:0≤pops x) (h1:pops x≤D) (h2:(D':Int)=D - pops x+pushes x) (h3:¬ isEnd x) (h9:x.op≠9) (hw:Wl T x) (he:e=true→D'=0):Fg T (x::endK e) p D (if e=true then none else some D') :=
  fin_ty (c:=[x]) (Fg.one hs h0 h1 h2 h3 h9 hw) he
theorem push_ty {T:Int} {G:Gn}:∀ (l:List Nat),(∀ i∈l,GOk T G i)→∀ p nb D,1≤nb→((nb+(gPush G l p nb).2.length:Nat):Int)≤T →
    (∀ c2 o,Fg T c2 (p+(gPush G l p nb).1.length) (D+l.length) o→Fg T ((gPush G l p nb).1++c2) p D o)∧∀ b∈(gPush G l p nb).2,(0≤b.many∧b.many≤100)∧Fg T b.l 0 0 none:=by
  intro l;induction l with
  | nil=>intro _ p nb D _ _;exact ⟨fun c2 o h=>h,fun b hb=>by cases hb⟩
  | cons i l ih =>
    intro hG p nb D hnb hT;simp only [gPush] at hT ⊢
    rw [List.length_append] at hT;have hx:=hG i (List.mem_cons_self ..) false p nb D (fun e=>by cases e) hnb (by omega);obtain ⟨y1,y2⟩:=ih (fun j hj=>hG j (List.mem_cons_of_mem _ hj)) (p+(G i false p nb).1.length+1) (nb+(G i false p nb).2.length) (D+1) (by omega) (by omega);refine ⟨fun c2 o h=>?_,fun b hb=>?_⟩
    · rw [List.append_assoc,List.cons_append];have h1:Fg T (ki 7 0 0 0::((gPush G l (p+(G i false p nb).1.length+1) (nb+(G i false p nb).2.length)).1++c2)) (p+(G i false p nb).1.length) D o:=by
        refine Fg.app (a:=[ki 7 0 0 0]) (D1:=D+1) (Fg.one rfl (by show (0:Int)≤0;decide) (by show (0:Int)≤D;omega) (by show ((D+1:Nat):Int)=D - 0+1;omega) (not_end (by decide)) (by decide) wl_push) (y1 c2 o ?_)
        have e1:p+((G i false p nb).1++ki 7 0 0 0::(gPush G l (p+(G i false p nb).1.length+1) (nb+(G i false p nb).2.length)).1).length=p+(G i false p nb).1.length+1+(gPush G l (p+(G i false p nb).1.length+1) (nb+(G i false p nb).2.length)).1.length:=by simp;omega
        rw [e1] at h;rw [show D+1+l.length=D+(i::l).length by simp;omega];exact h
      exact hx.1.app h1
    · rcases List.mem_append.1 hb with hb | hb
      · exact hx.2 b hb
      · exact y2 b hb
theorem seq_ty {T:Int} {G:Gn} {e:Bool}:∀ (l:List Nat),(∀ i∈l,GOk T G i)→∀ p nb D,(e=true→D=0)→1≤nb→((nb+(gSeq G e l p nb).2.length:Nat):Int)≤T→Ty T (gSeq G e l p nb) p D e:=by
  intro l;induction l with
  | nil =>
    intro _ p nb D he _ _;exact ⟨op_ty rfl (by show (0:Int)≤0;decide) (by show (0:Int)≤D;omega) (by show (D:Int)=D - 0+0;omega) (not_end (by decide)) (by decide) (wl_w c26) he,fun b hb=>by cases hb⟩
  | cons i l ih =>
    intro hG p nb D he hnb hT;cases l with
    | nil=>exact hG i (List.mem_cons_self ..) e p nb D he hnb hT
    | cons j l =>
      simp only [gSeq] at hT ⊢
      rw [List.length_append] at hT;have hx:=hG i (List.mem_cons_self ..) false p nb D (fun e=>by cases e) hnb (by omega);have hy:=ih (fun j hj=>hG j (List.mem_cons_of_mem _ hj)) (p+(G i false p nb).1.length) (nb+(G i false p nb).2.length) D he (by omega) (by omega);refine ⟨hx.1.app hy.1,fun b hb=>?_⟩
      rcases List.mem_append.1 hb with hb | hb
      · exact hx.2 b hb
      · exact hy.2 b hb
theorem leaf_ty {T:Int} {x:Ki} {p D:Nat} {e:Bool} (h:x.op=1∨x.op=2∨x.op=3) (hw:Wl T x) (he:e=true→D=0):Ty T (x::endK e,[]) p D e:=by
  refine ⟨op_ty ?_ ?_ ?_ ?_ ?_ ?_ hw he,fun b hb=>by cases hb⟩
  · unfold succs;rcases h with h | h | h <;> simp [h]
  · unfold pops;rcases h with h | h | h <;> simp [h]
  · unfold pops;rcases h with h | h | h <;> simp [h] <;> omega
  · unfold pops pushes;rcases h with h | h | h <;> simp [h]
  · unfold isEnd;omega
  · omega
theorem set_ty {T:Int} {x:Ki} {c:Cd} {p D:Nat} {e:Bool} (hc:Ty T c p D false) (h:x.op=4∨x.op=5∨x.op=6) (hw:Wl T x) (he:e=true→D=0):Ty T (c.1++(x::endK e),c.2) p D e:=by
  refine ⟨hc.1.app (op_ty ?_ ?_ ?_ ?_ ?_ ?_ hw he),hc.2⟩
  · unfold succs;rcases h with h | h | h <;> simp [h]
  · unfold pops;rcases h with h | h | h <;> simp [h]
  · unfold pops;rcases h with h | h | h <;> simp [h] <;> omega
  · unfold pops pushes;rcases h with h | h | h <;> simp [h]
  · unfold isEnd;omega
  · omega
def Rok (row:List Rf):Prop:=∀ i,i < row.length→(∃ N R R',Shp N R { rfAt row i with l:=[] } R' (rfAt row i).l.length)∧∀ p∈(rfAt row i).l,p < i
theorem form_ty {T:Int} {G:Gn} {f:Rf} (hG:∀ i∈f.l,GOk T G i) {N:List ByteArray} {R R':Rws} (hs:Shp N R { f with l:=[] } R' f.l.length):∀ e p nb D,(e=true→D=0)→1≤nb→((nb+(gForm G f e p nb).2.length:Nat):Int)≤T→Ty T (gForm G f e p nb) p D e:=by
  intro e p nb D he hnb hT;have hget:∀ k,k < f.l.length→GOk T G (f.l.getD k 0):=fun k hk=>hG _ (by rw [List.getD_eq_getElem?_getD,List.getElem?_eq_getElem hk];exact List.getElem_mem hk)
  have hin:∀ {a n:Int},InR R a n→∃ (k m:Nat),a=k∧n=m:=fun ⟨k,j,r,e1,e2,_⟩=>⟨k,j,e1,e2⟩
  unfold gForm at hT ⊢;have hk:=hs.kinds;simp only at hk
  by_cases k5:f.kind=5
  · rw [if_pos k5] at hT ⊢;have hl:f.l.length=3:=by omega
    simp only [gIf,List.length_append] at hT ⊢
    have hx:=hget 0 (by omega) false p nb D (fun e=>by cases e) hnb (by omega);have hy:=hget 1 (by omega) e (p+(G (f.l.getD 0 0) false p nb).1.length+1) (nb+(G (f.l.getD 0 0) false p nb).2.length) D he (by omega) (by omega);have hz:=hget 2 (by omega) e (p+(G (f.l.getD 0 0) false p nb).1.length+1+(G (f.l.getD 1 0) e (p+(G (f.l.getD 0 0) false p nb).1.length+1) (nb+(G (f.l.getD 0 0) false p nb).2.length)).1.length+(if e=true then 0 else 1)) (nb+(G (f.l.getD 0 0) false p nb).2.length+(G (f.l.getD 1 0) e (p+(G (f.l.getD 0 0) false p nb).1.length+1) (nb+(G (f.l.getD 0 0) false p nb).2.length)).2.length) D he (by omega) (by have:=hT;omega);refine ⟨?_,fun b hb=>?_⟩
    · cases e with
      | false =>
        simp only [Bool.false_eq_true,if_false] at hx hy hz ⊢
        exact Fg.if_on (by omega) hx.1 hy.1 hz.1 (wl_a 9 _ (by decide)) (wl_a 8 _ (by decide))
      | true =>
        simp only [if_true,List.nil_append] at hx hy hz ⊢
        exact Fg.if_end (by omega) hx.1 hy.1 hz.1 (wl_a 9 _ (by decide))
    · rcases List.mem_append.1 hb with hb | hb
      · exact hx.2 b hb
      · rcases List.mem_append.1 hb with hb | hb
        · exact hy.2 b hb
        · exact hz.2 b hb
  rw [if_neg k5] at hT ⊢;by_cases k6:f.kind=6
  · rw [if_pos k6] at hT ⊢;simp only [List.length_cons] at hT ⊢
    obtain ⟨hl,hn⟩:f.l.length=1∧(0≤f.n∧f.n≤100):=by
      rcases hk with h | h | h | h | h | h | h | h | h | h
      · omega
      · omega
      · omega
      · obtain ⟨_,h1,r,_,h2,h3⟩:=h;exact ⟨h1,by omega,by omega⟩
      · omega
      · omega
      · omega
      · omega
      · omega
      · omega
    have hb:=hget 0 (by omega) true 0 (nb+1) 0 (fun _=>rfl) (by omega) (by omega);refine ⟨op_ty rfl (by show (0:Int)≤0;decide) (by show (0:Int)≤D;omega) (by show (D:Int)=D - 0+0;omega) (not_end (by decide)) (by show (10:Int)≠9;decide) (wl_fn nb (by omega) (by omega)) he,fun b hb2=>?_⟩
    rcases List.mem_cons.1 hb2 with rfl | hb2
    · exact ⟨hn,hb.1⟩
    · exact hb.2 b hb2
  rw [if_neg k6] at hT ⊢;by_cases k79:f.kind=7∨f.kind=9
  · rw [if_pos k79] at hT ⊢;simp only at hT ⊢
    have hl:f.l.length=1:=by omega
    have hx:=hget 0 (by omega) false p nb D (fun e=>by cases e) hnb hT;refine set_ty hx ?_ ?_ he
    · unfold setK ki;split
      · exact .inr (.inr rfl)
      · split
        · exact .inr (.inl rfl)
        · exact .inl rfl
    · unfold setK;split
      · rename_i k9;obtain ⟨n,hn⟩:∃ n:Nat,f.n=n:=⟨f.n.toNat,by omega⟩
        rw [hn];exact wl_a 6 n (by decide)
      · rename_i k9;have h7:f.kind=7:=by omega
        have hloc:(InR R f.a f.n∨f.a = -1∧0≤f.n∧f.n < N.length):=by
          rcases hk with h | h | h | h | h | h | h | h | h | h
          · omega
          · omega
          · omega
          · omega
          · exact h.2.2
          · omega
          · omega
          · omega
          · omega
          · omega
        split
        · rename_i ha
          rcases hloc with h | h
          · obtain ⟨k,m,e1,e2⟩:=hin h;omega
          · obtain ⟨n,hn⟩:∃ n:Nat,f.n=n:=⟨f.n.toNat,by omega⟩
            rw [hn];exact wl_a 5 n (by decide)
        · rename_i ha
          rcases hloc with h | h
          · obtain ⟨k,m,e1,e2⟩:=hin h;rw [e1,e2];exact wl_ab 4 k m (by decide)
          · omega
  rw [if_neg k79] at hT ⊢;by_cases k8:f.kind=8
  · rw [if_pos k8] at hT ⊢;exact seq_ty f.l hG p nb D he hnb hT
  rw [if_neg k8] at hT ⊢;by_cases k10:f.kind=10
  · rw [if_pos k10] at hT ⊢;simp only [List.length_append] at hT ⊢
    have hl:1≤f.l.length:=by omega
    obtain ⟨h1,h2⟩:=push_ty (T:=T) (f.l.drop 1) (fun i hi=>hG i (List.mem_of_mem_drop hi)) p nb D hnb (by omega);have hy:=hget 0 (by omega) false (p+(gPush G (f.l.drop 1) p nb).1.length) (nb+(gPush G (f.l.drop 1) p nb).2.length) (D+(f.l.drop 1).length) (fun e=>by cases e) (by omega) (by omega);refine ⟨h1 _ _ ?_,fun b hb=>?_⟩
    · refine hy.1.app ?_
      have hdl:(f.l.drop 1).length=f.l.length - 1:=List.length_drop ..;cases e with
      | true =>
        have hD:=he rfl;subst hD;refine Fg.end_ rfl ?_ (.inl rfl) (by show (13:Int)≠9;decide) (wl_a 13 _ (by decide))
        show ((f.l.length - 1:Nat):Int)=_
        rw [hdl];simp
      | false =>
        refine Fg.one (x:=ki 12 (f.l.length - 1:Nat) 0 0) rfl ?_ ?_ ?_ (not_end (by decide)) (by show (12:Int)≠9;decide) (wl_a 12 _ (by decide))
        · show (0:Int)≤(f.l.length - 1:Nat);omega
        · show ((f.l.length - 1:Nat):Int)≤_;rw [hdl];omega
        · show (D:Int)=_ - ((f.l.length - 1:Nat):Int)+0;rw [hdl];omega
    · rcases List.mem_append.1 hb with hb | hb
      · exact h2 b hb
      · exact hy.2 b hb
  rw [if_neg k10] at hT ⊢;by_cases k12:f.kind=12
  · rw [if_pos k12] at hT ⊢;obtain ⟨n,hn⟩:∃ n:Nat,f.n=n:=⟨f.n.toNat,by omega⟩
    have hpr:1≤n∧n≤30∧f.l.length=SC.primM.getD (n - 1) 0:=by
      rcases hk with h | h | h | h | h | h | h | h | h | h
      · omega
      · omega
      · omega
      · omega
      · omega
      · omega
      · obtain ⟨_,q1,q2,q3⟩:=h;rw [hn] at q1 q2 q3;exact ⟨by omega,by omega,by simpa using q3⟩
      · omega
      · omega
      · omega
    by_cases k18:f.n=18
    · rw [if_pos k18] at hT ⊢;have h18:n=18:=by omega
      have hl:f.l.length=1:=by rw [hpr.2.2,h18];rfl
      simp only at hT ⊢
      have hx:=hget 0 (by omega) false p nb D (fun e=>by cases e) hnb hT;refine ⟨hx.1.app ?_,hx.2⟩
      cases e with
      | true =>
        have hD:=he rfl;subst hD;exact Fg.end_ rfl rfl (.inr (.inl rfl)) (by decide) (wl_cc 15 (by decide))
      | false=>exact Fg.one (x:=ki 14 0 0 0) rfl (by decide) (by show (0:Int)≤D;omega) (by show (D:Int)=D - 0+0;omega) (not_end (by decide)) (by decide) (wl_cc 14 (by decide))
    · rw [if_neg k18] at hT ⊢;simp only at hT ⊢
      obtain ⟨h1,h2⟩:=push_ty (T:=T) f.l hG p nb D hnb hT;refine ⟨h1 _ _ (op_ty (x:=ki 11 f.n f.l.length 0) (D':=D) rfl ?_ ?_ ?_ (not_end (by decide)) (by show (11:Int)≠9;decide) ?_ he),h2⟩
      · show (0:Int)≤f.l.length;omega
      · show (f.l.length:Int)≤(D+f.l.length:Nat);omega
      · show (D:Int)=(D+f.l.length:Nat) - (f.l.length:Int)+0;omega
      · rw [hn];exact wl_prim n f.l.length hpr.1 hpr.2.1 (by omega) hpr.2.2
  rw [if_neg k12] at hT ⊢;refine leaf_ty ?_ ?_ he
  · unfold leafK ki;split
    · exact .inr (.inl rfl)
    · split
      · exact .inr (.inr rfl)
      · exact .inl rfl
  · unfold leafK;split
    · rename_i k11;have h:=hk
      rcases h with h | h | h | h | h | h | h | h | h | h
      · omega
      · obtain ⟨k,m,e1,e2⟩:=hin h.2.2;rw [e1,e2];exact wl_ab 2 k m (by decide)
      · omega
      · omega
      · omega
      · omega
      · omega
      · omega
      · omega
      · omega
    · split
      · rename_i k11 k4;obtain ⟨m,hm⟩:∃ m:Nat,f.n=m:=⟨f.n.toNat,by omega⟩
        rw [hm];exact wl_a 3 m (by decide)
      · rename_i k11 k4
        rcases hk with h | h | h | h | h | h | h | h | h | h
        · obtain ⟨_,_,_,hw⟩:=h;refine wl_w ?_
          rcases hw with hw | ⟨n,h1,hw⟩ | ⟨b,hw⟩ | ⟨n,h1,hw⟩
          · rw [hw];decide
          · rw [hw];exact const_int h1
          · rw [hw];exact const_bool b
          · rw [hw];exact const_of h1
        · omega
        · omega
        · omega
        · omega
        · omega
        · omega
        · omega
        · omega
        · omega
theorem gF_ty {T:Int} {row:List Rf} (hr:Rok row):∀ n i,i < n→i < row.length→GOk T (gF row n) i:=by
  intro n;induction n with
  | zero=>intro i hi;omega
  | succ n ih =>
    intro i hi hl e p nb D he hnb hT;obtain ⟨⟨N,R,R',hs⟩,hp⟩:=hr i hl;exact form_ty (fun q hq=>ih q (by have:=hp q hq;omega) (by have:=hp q hq;omega)) hs e p nb D he hnb hT
theorem genB_ty {row:List Rf} (hr:Rok row) {tops:List Nat} (ht:∀ t∈tops,t < row.length):∀ b∈genB row tops,(0≤b.many∧b.many≤100)∧Fg ((genB row tops).length:Nat) b.l 0 0 none:=by
  have h:=seq_ty (T:=((genB row tops).length:Nat)) (e:=true) tops (fun i hi=>gF_ty hr row.length i (ht i hi) (ht i hi)) 0 1 0 (fun _=>rfl) (Nat.le_refl _) (by unfold genB;simp;omega);intro b hb;unfold genB at hb
  rcases List.mem_cons.1 hb with rfl | hb
  · exact ⟨⟨Int.le_refl _,by show (0:Int)≤100;decide⟩,h.1⟩
  · exact h.2 b hb
theorem marks_ok {i:Nat} {left:Int}:∀ (ss:List Int) (d:List Int),(∀ s∈ss,(i:Int) < s∧s < d.length∧(at_ d s.toNat = -1∨at_ d s.toNat=left))→∃ d',marks d i left ss=some d'∧d'.length=d.length∧∀ j:Nat,at_ d' j=if (j:Int)∈ss then left else at_ d j:=by
  intro ss;induction ss with
  | nil=>intro d _;exact ⟨d,rfl,rfl,fun j=>by simp⟩
  | cons s ss ih =>
    intro d h;obtain ⟨h1,h2,h3⟩:=h s (List.mem_cons_self ..);have hm:KP.mark d i left s=some (d.set s.toNat left):=by
      unfold KP.mark;rw [if_neg (by omega),if_neg (by omega),if_neg (fun c=>by rcases h3 with h3 | h3 <;> omega)]
    obtain ⟨d',e1,e2,e3⟩:=ih (d.set s.toNat left) (fun t ht=>by
      obtain ⟨g1,g2,g3⟩:=h t (List.mem_cons_of_mem _ ht);refine ⟨g1,by rw [List.length_set];exact g2,?_⟩
      rw [at_set];split
      · exact .inr rfl
      · exact g3)
    refine ⟨d',by unfold marks;rw [hm];exact e1,by rw [e2,List.length_set],fun j=>?_⟩
    rw [e3 j,at_set];by_cases hj:(j:Int)∈ss
    · rw [if_pos hj,if_pos (List.mem_cons_of_mem _ hj)]
    · rw [if_neg hj];by_cases hs:(j:Int)=s
      · rw [if_pos ⟨by omega,by omega⟩,if_pos (by rw [hs];exact List.mem_cons_self ..)]
      · rw [if_neg (fun c=>hs (by omega)),if_neg (fun c=>by rcases List.mem_cons.1 c with c | c;exact hs c;exact hj c)]
theorem run_ok {c:List Ki} {dp:Nat→Nat} (hT:Tp c.length dp 0 c) (hR:∀ q,0 < q→q < c.length→Rc 0 c q):∀ (r:List Ki) (i:Nat) (d:List Int),r=c.drop i→i≤c.length→d.length=c.length →
    (∀ j:Nat,j < c.length→at_ d j = -1∨at_ d j=dp j)→(∀ q:Nat,q < c.length→(q=0∨∃ (k:Nat) (x:Ki),k < i∧c[k]? = some x∧(q:Int)∈succs (k:Int) x)→at_ d q=dp q)→∃ e,run r i d=some e∧e.length=c.length∧∀ q:Nat,q < c.length→at_ e q=dp q:=by
  intro r;induction r with
  | nil =>
    intro i d hr hi hd hn hq;have hi2:c.length≤i:=by
      have:=congrArg List.length hr;rw [List.length_drop,List.length_nil] at this;omega
    refine ⟨d,rfl,hd,fun q hl=>hq q hl ?_⟩
    by_cases h0:q=0
    · exact .inl h0
    · obtain ⟨k,x,h1,h2,h3⟩:=hR q (by omega) hl;rw [Nat.zero_add] at h2 h3;exact .inr ⟨k,x,by omega,h1,h3⟩
  | cons x r ih =>
    intro i d hr hi hd hn hq;have hil:i < c.length:=by
      have:=congrArg List.length hr;rw [List.length_drop,List.length_cons] at this;omega
    have hx:c[i]? = some x:=by
      have:=congrArg (fun l:List Ki=>l[0]?) hr;simp only [List.getElem?_cons_zero,List.getElem?_drop,Nat.add_zero] at this
      exact this.symm
    have hr2:r=c.drop (i+1):=by
      have:=congrArg List.tail hr;rw [List.tail_cons,List.tail_drop] at this;exact this
    have hdi:at_ d i=dp i:=by
      refine hq i hil ?_
      by_cases h0:i=0
      · exact .inl h0
      · obtain ⟨k,y,h1,h2,h3⟩:=hR i (by omega) hil;rw [Nat.zero_add] at h2 h3;exact .inr ⟨k,y,h2,h1,h3⟩
    obtain ⟨t1,t2,t3,_⟩:=hT i x hx;rw [Nat.zero_add] at t2 t3;obtain ⟨d',m1,m2,m3⟩:=marks_ok (i:=i) (left:=dp i - pops x+pushes x) (succs (i:Int) x) d (fun s hs=>by
      obtain ⟨g1,g2,g3⟩:=t3 s hs;refine ⟨g1,by rw [hd];exact g2,?_⟩
      rcases hn s.toNat (by omega) with h | h
      · exact .inl h
      · exact .inr (by rw [h,g3]))
    have hlead:lead d i x=some d':=by
      unfold lead;rw [hdi,if_neg (by omega),if_neg (by omega)];exact m1
    unfold run;rw [if_neg (by rw [hdi];omega),hlead];have hval:∀ q:Nat,(q:Int)∈succs (i:Int) x→(dp i:Int) - pops x+pushes x=dp q:=fun q hm=>by
      have:=(t3 _ hm).2.2;rw [Int.toNat_natCast] at this;exact this.symm
    refine ih (i+1) d' hr2 (by omega) (by rw [m2,hd]) (fun j hj=>?_) (fun q hl h=>?_)
    · rw [m3 j];split
      · rename_i hm;exact .inr (hval j hm)
      · exact hn j hj
    · rw [m3 q];split
      · rename_i hm;exact hval q hm
      · rename_i hm;refine hq q hl ?_
        rcases h with h | ⟨k,y,h1,h2,h3⟩
        · exact .inl h
        · by_cases hki:k=i
          · subst hki;rw [hx] at h2;injection h2 with h2;subst h2;exact absurd h3 hm
          · exact .inr ⟨k,y,by omega,h2,h3⟩
theorem fits_ok {T:Int} {x:Ki} {D:Nat} (h:Wl T x) (he:x.op=13∨x.op=15∨x.op=16→(D:Int)=pops x):may T x D=true:=by
  unfold may;rw [h.w,Bool.true_and];unfold fits;split
  · rename_i h10;obtain ⟨h1,h2⟩:=h.f h10;simp [h1,h2]
  · split
    · rename_i h10 h11;rw [h.p h11];simp
    · split
      · rename_i h;rw [he h];simp
      · rfl
theorem wrong_ok {T:Int} {b:Kb} {most:Int} (h0:0≤b.many) (h1:b.many≤most) (h:Fg T b.l 0 0 none):wrongAt T b most=none:=by
  obtain ⟨ds,d1,d2,d3⟩:=h.ty;have hpos:=h.pos;have hT:=d3 b.l.length (fun k=>ds.getD k 0) (fun k d hk=>by show ds.getD (0+k) 0=d;rw [Nat.zero_add,List.getD_eq_getElem?_getD,hk];rfl) (fun D' e=>by cases e) (by omega);obtain ⟨e,r1,r2,r3⟩:=run_ok (c:=b.l) (dp:=fun k=>ds.getD k 0) hT (fun q hq hl=>h.rc q hq (.inl (by omega))) b.l 0 (KP.start b.l.length) rfl (Nat.zero_le _) (by simp [KP.start]) (fun j hj=>by
    unfold KP.start;rw [at_set];split
    · rename_i hz
      right
      rw [hz.1,List.getD_eq_getElem?_getD,d2];rfl
    · left
      unfold at_;simp only [List.getD,List.getElem?_replicate]
      split <;> simp) (fun q hl hq=>by
    rcases hq with rfl | ⟨k,x,h,_⟩
    · unfold KP.start;rw [at_set,if_pos ⟨rfl,by simpa using hpos⟩];rw [List.getD_eq_getElem?_getD,d2];rfl
    · omega)
  refine wrong_none.2 ⟨h0,h1,e,?_,?_,fun k x hx=>?_⟩
  · unfold depth;rw [if_neg (fun hc=>by rw [hc] at hpos;exact absurd hpos (by simp))];exact r1
  · rw [← Bool.not_eq_true,List.contains_iff_mem];intro hm;obtain ⟨j,hj,ej⟩:=List.getElem_of_mem hm;have:=r3 j (by omega);unfold at_ at this;rw [List.getD_eq_getElem?_getD,List.getElem?_eq_getElem hj,Option.getD_some,ej] at this;omega
  · have hk:=(List.getElem?_eq_some_iff.1 hx).1;rw [r3 k hk];have ht:=hT k x hx;rw [Nat.zero_add] at ht;exact fits_ok (h.wl x (List.mem_of_getElem? hx)) ht.2.2.2
theorem genB_check {row:List Rf} (hr:Rok row) {tops:List Nat} (ht:∀ t∈tops,t < row.length):check (genB row tops)=(0,0,0):=by
  have h:=genB_ty hr ht;rw [check_cons (by unfold genB;simp)];refine checkL_ok _ _ _ (fun k b hb=>?_)
  obtain ⟨⟨h1,h2⟩,h3⟩:=h b (List.mem_of_getElem? hb);cases k with
  | zero =>
    have hb0:b.many=0:=by
      unfold genB at hb;simp only [List.getElem?_cons_zero,Option.some.injEq] at hb
      rw [← hb]
    exact wrong_ok h1 (by rw [hb0];decide) h3
  | succ k=>exact wrong_ok h1 (by unfold mst;simpa using h2) h3
end GP
end Go.Proofs.YtehgmmbdlnginaaGreatDoor
