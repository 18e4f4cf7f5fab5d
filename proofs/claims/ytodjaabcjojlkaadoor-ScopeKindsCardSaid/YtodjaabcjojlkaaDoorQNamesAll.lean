/-
  Several texts in one: NamesPlain,NamesWalks1,NamesWalks2,LawPost,NamesWalks3. Each one's own head tells its conditions.
-/
import Derived.Test.YtodjaabcjojlkaaDoorMemAll
import Derived.Test.YtodjaabcjojlkaaDoorProg
import Derived.Maps.OwnSet
import Derived.Lib.Hide
import Derived.Lib.Strings
import Derived.Maps.OwnOps
import Derived.WalkSpells
import Derived.Below
import Derived.ChangeSame
import Derived.Carry
namespace Go.Proofs.YtodjaabcjojlkaaDoor
open Go.Maps Go.WideShapes
namespace NP
def key (s:ByteArray):Lit:=.string s.data.toList
theorem key_inj {a b:ByteArray} (h:key a=key b):a=b:=by
  unfold key at h;injection h with h;apply ByteArray.ext
  exact Array.toList_inj.1 h
instance:LawfulBEq ByteArray where
  eq_of_beq {a b} h:=by
    exact ByteArray.ext (eq_of_beq (α:=Array UInt8) h)
  rfl {a}:=by
    cases a
    exact beq_self_eq_true (α:=Array UInt8) _
theorem key_is (s:ByteArray):WideAt.IsKeyLit (key s):=trivial
structure Tab (D:DataW Unit) (f:ByteArray→Option Int):Prop where
  isMap:IsMap D
  has:∀ s,Maps.has D (key s)=(f s).isSome
  at_:∀ s,D.atKey (key s) (.lit (.int .i64 0)) = .lit (.int .i64 ((f s).getD 0))
theorem Tab.none_:Tab (.map []) (fun _=>none):=⟨isMap_empty,fun _=>rfl,fun _=>rfl⟩
theorem Tab.put {D:DataW Unit} {f:ByteArray→Option Int} (h:Tab D f) (s:ByteArray) (v:Int):Tab (D.put (key s) (.lit (.int .i64 v))) (fun x=>if x=s then some v else f x):=by
  refine ⟨h.isMap.put _ _,fun x=>?_,fun x=>?_⟩
  · by_cases e:x=s
    · subst e;rw [has_put_same h.isMap (key_is _)];simp
    · rw [has_put_other (fun e'=>e (key_inj e')),h.has];simp [e]
  · by_cases e:x=s
    · subst e;rw [atKey_put_same h.isMap (key_is _)];simp
    · rw [atKey_put_other (fun e'=>e (key_inj e')),h.at_];simp [e]
theorem Tab.congr {D:DataW Unit} {f g:ByteArray→Option Int} (h:Tab D f) (e:∀ x,f x=g x):Tab D g:=⟨h.isMap,fun s=>by rw [h.has,e],fun s=>by rw [h.at_,e]⟩
def num (L:List ByteArray) (s:ByteArray):Option Int:=if s∈L then some (L.idxOf s:Int) else none
theorem num_snoc (L:List ByteArray) (s:ByteArray) (h:s∉L) (x:ByteArray):(if x=s then some (L.length:Int) else num L x)=num (L++[s]) x:=by
  unfold num;by_cases e:x=s
  · subst e;simp [List.idxOf_append,h]
  · by_cases hx:x∈L
    · simp [e,hx,List.idxOf_append]
    · simp [e,hx]
def findI (L:List ByteArray) (s:ByteArray):Int:=(num L s).getD 0
def findB (L:List ByteArray) (s:ByteArray):Bool:=(num L s).isSome
theorem findB_yes {L:List ByteArray} {s:ByteArray} (h:s∈L):findB L s=true:=by simp [findB,num,h]
theorem findB_no {L:List ByteArray} {s:ByteArray} (h:s∉L):findB L s=false:=by simp [findB,num,h]
theorem findI_yes {L:List ByteArray} {s:ByteArray} (h:s∈L):findI L s=(L.idxOf s:Nat):=by simp [findI,num,h]
theorem findI_no {L:List ByteArray} {s:ByteArray} (h:s∉L):findI L s=0:=by simp [findI,num,h]
def fits (s:ByteArray):Prop:=1≤s.size∧s.size≤32
instance (s:ByteArray):Decidable (fits s):=by unfold fits;infer_instance
def putL (L:List ByteArray) (s:ByteArray):List ByteArray:=if fits s∧s∉L∧L.length < 4096 then L++[s] else L
def putI (L:List ByteArray) (s:ByteArray):Int:=if ¬ fits s then 0 else if s∈L then (L.idxOf s:Nat) else if L.length < 4096 then (L.length:Nat) else 0
def putE (L:List ByteArray) (s:ByteArray):Int:=if ¬ fits s then 1 else if s∈L then 0 else if L.length < 4096 then 0 else 3
def none:ByteArray:=⟨#[]⟩
structure Ok (L:List ByteArray):Prop where
  nd:L.Nodup
  len:L.length≤4096
  each:∀ s∈L,fits s
theorem Ok.nil:Ok []:=⟨List.nodup_nil,by simp,by simp⟩
theorem Ok.putL {L:List ByteArray} (h:Ok L) (s:ByteArray):Ok (putL L s):=by
  unfold NP.putL;by_cases c:fits s∧s∉L∧L.length < 4096
  · rw [if_pos c];refine ⟨?_,by simp;omega,?_⟩
    · rw [List.nodup_append];refine ⟨h.nd,by simp,?_⟩
      intro a ha b hb e;simp at hb
      subst hb;subst e;exact c.2.1 ha
    · intro x hx
      rcases List.mem_append.1 hx with hx | hx
      · exact h.each x hx
      · simp at hx;subst hx;exact c.1
  · rw [if_neg c];exact h
end NP
end Go.Proofs.YtodjaabcjojlkaaDoor
namespace Go.Proofs.YtodjaabcjojlkaaDoor
open Go.RowKit Go.Maps
namespace NW
abbrev ptr (p:Nat):Value:=.pointer (some ⟨p,0,none⟩)
def strs (L:List ByteArray):List Value:=L.map Value.string
theorem string_keyed_:Keyed Tryd.prog 9:=string_keyed Tryd.underlying9
theorem int_zero (w:World):(zeroValue 3).run Tryd.prog w = .ok (.int .i64 0) w:=by kernel_rfl
theorem string_info:(Tryd.prog.info? 9).map (fun i=>(i.zero,i.size,i.bytes))=some (some (.string ⟨#[]⟩),1,16):=by kernel_rfl
theorem strs_one (L:List ByteArray):∀ u∈strs L,u.oneCell'=true:=by
  intro u hu;obtain ⟨s,_,rfl⟩:=List.mem_map.1 hu;rfl
theorem key_of {s:ByteArray} (hs:s.size≤maxLen):keyOf Tryd.prog 9 (.string s)=some (NP.key s):=WideMaps.keyOf_string_mk (P:=Tryd.prog) Tryd.underlying9 hs
def Mp (w:World) (S:List Nat) (mv:Value) (n:Nat) (f:ByteArray→Option Int):Prop :=
  (mv = .map none∧∀ s,f s=none)∨∃ b D,mv = .map (some b)∧b∈S∧w.ownsMap Tryd.prog 9 (plainElem Tryd.prog 3) b n D∧NP.Tab D f
structure Nm (w:World) (g:Nat) (S:List Nat) (L:List ByteArray) (mv sv:Value):Prop where
  ok:NP.Ok L
  mem:g∈S
  head:MM.Row w g 50 [mv,sv]
  map:Mp w S mv L.length (NP.num L)
  row:w.ownsRow 0 9 1 sv L.length (strs L)
  own:∀ b,sv.ownBlock=some b→b∈S
  lt:∀ b,b∈S→b < w.heap.size
theorem Mp.far {a w:World} {S T:List Nat} {mv:Value} {n:Nat} {f:ByteArray→Option Int} (h:Mp a S mv n f) (k:MM.Far T a w) (hd:∀ b,b∈S→b∉T):Mp w S mv n f:=by
  rcases h with h | ⟨b,D,h1,h2,h3,h4⟩
  · exact .inl h
  · refine .inr ⟨b,D,h1,h2,?_,h4⟩
    have hlt:=h3.lt;obtain ⟨es,clock,hb,F,hs,hD⟩:=h3;exact ⟨es,clock,(k.block b hlt (hd b h2)).trans hb,F,hs,hD⟩
theorem Nm.far {a w:World} {g:Nat} {S T:List Nat} {L:List ByteArray} {mv sv:Value} (h:Nm a g S L mv sv) (k:MM.Far T a w) (hd:∀ b,b∈S→b∉T):Nm w g S L mv sv :=
  ⟨h.ok,h.mem,h.head.far k (hd g h.mem),h.map.far k hd,MM.own_far h.row k (fun b hb=>hd b (h.own b hb)),h.own,fun b hb=>Nat.lt_of_lt_of_le (h.lt b hb) k.size⟩
theorem Nm.nil {a w:World} {g:Nat} {S:List Nat} {L:List ByteArray} {mv sv:Value} (h:Nm a g S L mv sv) (k:MM.Far [] a w):Nm w g S L mv sv:=h.far k (by simp)
def Nxt (w:World) (g:Nat) (S:List Nat) (L:List ByteArray) (w':World):Prop :=
  ∃ S' mv sv,Nm w' g S' L mv sv∧MM.Far S w w'∧∀ b,b∈S'→b∈S∨w.heap.size≤b
set_option maxRecDepth 20000 in
theorem look {w:World} {S:List Nat} {mv:Value} {n:Nat} {f:ByteArray→Option Int} (h:Mp w S mv n f) (s:ByteArray) (hs:s.size≤maxLen) :
    (Instr.lookup 48 mv (.string s) true).run Tryd.prog w = .ok (.tuple #[.int .i64 ((f s).getD 0),.bool (f s).isSome]) w:=by
  rcases h with ⟨rfl,h0⟩ | ⟨b,D,rfl,_,h3,h4⟩
  · rw [Maps.look_nil true string_keyed_ Tryd.underlying48 (int_zero w) (key_of hs),h0 s];rfl
  · obtain ⟨v,ps,hrun,hv⟩:=h3.look_ok string_keyed_ Tryd.underlying48 (int_zero w) (plainElem_int Tryd.underlying3 (by decide)) (key_of hs);obtain ⟨c,rfl,hc,_⟩:=plainElem_int_inv Tryd.underlying3 hv;have hc1:=congrArg Prod.fst hc;simp only at hc1
    rw [h4.at_ s] at hc1;have e:(f s).getD 0=c:=by injection hc1 with h1;injection h1
    rw [hrun,h4.has s,e]
section
variable {w:World} {g:Nat} {S:List Nat} {L:List ByteArray} {mv sv:Value}
theorem new_any (w:World):Calls Tryd.prog 11 #[] w fun e w'=>∃ g,e = .returned (ptr g)∧w.heap.size≤g∧Nm w' g [g] [] (.map none) (.slice none 0 0)∧MM.Far [] w w':=by
  go_enter Tryd.func11,Tryd.ntmps11
  go_wp2;go_ret
  exact ⟨_,rfl,Nat.le_refl _,⟨NP.Ok.nil,by simp,MM.Row.new _ _ [.map none,.slice none 0 0],.inl ⟨rfl,fun s=>by simp [NP.num]⟩,MO.none_ _ _ _ _,by simp [Value.ownBlock],by simp⟩,(MM.Far.refl _ _).alloc _⟩
theorem find_any (h:Nm w g S L mv sv) (s:ByteArray) (hs:s.size≤maxLen):Calls Tryd.prog 87 #[ptr g,.string s] w fun e w'=>e = .returned (.tuple #[.int .i64 (NP.findI L s),.bool (NP.findB L s)])∧w=w':=by
  have h0:=h.head.at (i:=0) rfl;have hl:=look h.map s hs;clear h;go_enter Tryd.func87,Tryd.ntmps87
  go_wp2;go_ret2
  exact ⟨rfl,rfl⟩
theorem len_any (h:Nm w g S L mv sv):Calls Tryd.prog 6 #[ptr g] w fun e w'=>e = .returned (.int .i64 L.length)∧w=w':=by
  have h1:=h.head.at (i:=1) rfl;obtain ⟨A,c,rfl,_⟩:=MO.form h.row;clear h;go_enter Tryd.func6,Tryd.ntmps6
  go_wp2;go_ret
  exact ⟨rfl,rfl⟩
end
end NW
end Go.Proofs.YtodjaabcjojlkaaDoor
namespace Go.Proofs.YtodjaabcjojlkaaDoor
open Go.RowKit Go.Maps
namespace NW
section
variable {w:World} {g:Nat} {S:List Nat} {L:List ByteArray} {mv sv:Value}
theorem own_block {w:World} {base:Nat} {e:TypeId} {size n:Nat} {v:Value} {xs:List Value} (h:w.ownsRow base e size v n xs) (b:Nat) (hb:v.ownBlock=some b):∃ cs,w.heap[b]? = some (.cells cs e (0,0)):=by
  rcases h.2 with ⟨rfl,_⟩ | ⟨g,cap,cur,rfl,_,hg,_⟩
  · simp [Value.ownBlock] at hb
  · have:g=b:=by simpa [Value.ownBlock] using hb
    subst this;exact ⟨_,hg⟩
theorem map_block {w:World} {k:TypeId} {R:Value→Option (DataW Unit × List MemPlace)} {b n:Nat} {D:DataW Unit} (h:w.ownsMap Tryd.prog k R b n D):∃ es clock,w.heap[b]? = some (.map es clock):=by
  obtain ⟨es,clock,hb,_⟩:=h;exact ⟨es,clock,hb⟩
theorem row_ne_map {w:World} {k:TypeId} {R:Value→Option (DataW Unit × List MemPlace)} {b n g:Nat} {D:DataW Unit} {t:TypeId} {l:List Value} (h:w.ownsMap Tryd.prog k R b n D) (hr:MM.Row w g t l):b≠g:=by
  rintro rfl;obtain ⟨es,clock,hb⟩:=map_block h;unfold MM.Row at hr;rw [hb] at hr;cases hr
theorem own_ne_map {w:World} {k:TypeId} {R:Value→Option (DataW Unit × List MemPlace)} {b n:Nat} {D:DataW Unit} {base:Nat} {e:TypeId} {size m:Nat} {v:Value} {xs:List Value} (h:w.ownsMap Tryd.prog k R b n D) (hr:w.ownsRow base e size v m xs):v.ownBlock≠some b:=by
  intro e;obtain ⟨es,clock,hb⟩:=map_block h;obtain ⟨cs,hc⟩:=own_block hr b e;rw [hb] at hc;cases hc
theorem added {w w1 w2 w3:World} {b:Nat} {D:DataW Unit} {s:ByteArray} {sv':Value} {o:Obj} (hok:NP.Ok (L++[s])) (h:Nm w g S L (.map (some b)) sv) (hb:b∈S) (hw1:MM.Far [] w w1)
    (hm:w2.ownsMap Tryd.prog 9 (plainElem Tryd.prog 3) b (L.length+1) D) (ht:NP.Tab D (NP.num (L++[s]))) (h2:w1.grownBy w2 (some b))
    (h3:w3.ownsRow 0 9 1 sv' (L.length+1) (strs L++[.string s])) (hg:(w2.alloc o).grownBy w3 sv.ownBlock) (hl:sv'.ownBlock=sv.ownBlock∨sv'.ownBlock=some (w2.alloc o).heap.size) :
    Nxt w g S (L++[s]) (w3.setCell ⟨g,1,none⟩ sv'):=by
  have F1:MM.Far S w w1:=hw1.mono (by simp);have F2:MM.Far S w w2:=F1.trans (MM.Far.of_grown (S:=[b]) h2 (fun x hx _=>by simp at hx;simp [hx])) (fun x hx _=>by simp at hx;subst hx;exact hb);have F3:MM.Far S w w3:=(F2.alloc o).trans (MM.Far.of_grown (S:=S) hg (fun x hx _=>h.own x hx)) (fun x hx _=>hx);have r1:MM.Row w1 g 50 [.map (some b),sv]:=h.head.far hw1 (by simp);have m1:∃ D',w1.ownsMap Tryd.prog 9 (plainElem (H:=Unit) Tryd.prog 3) b L.length D':=by
    rcases (h.map.far hw1 (by simp)) with ⟨h',_⟩ | ⟨b',D',e,_,h',_⟩
    · cases h'
    · cases e;exact ⟨D',h'⟩
  obtain ⟨D',m1⟩:=m1;have o1:=MM.own_far h.row hw1 (by simp);have r2:MM.Row w2 g 50 [.map (some b),sv]:=r1.of_block (h2.block g r1.lt (fun e=>row_ne_map m1 r1 (by simpa using e.symm)));have o2:(w2.alloc o).ownsRow 0 9 1 sv L.length (strs L):=(MM.own_far o1 (MM.Far.of_grown (S:=[b]) h2 (fun x hx _=>by simp at hx;simp [hx])) (fun x hx e=>by simp at e;subst e;exact own_ne_map m1 o1 hx)).alloc o;have r3:MM.Row w3 g 50 [.map (some b),sv]:=(r2.alloc o).of_block (hg.block g (r2.alloc o).lt (fun e=>MM.own_row_ne o2 (r2.alloc o) (by decide) e.symm));have m3:=(hm.alloc o).kept hg (fun e=>own_ne_map (hm.alloc o) o2 e.symm);have hne:g≠b:=fun e=>row_ne_map m3 r3 e.symm
  have hne2:sv'.ownBlock≠some g:=MM.own_row_ne h3 r3 (by decide);refine ⟨S++sv'.ownBlock.toList,_,_,⟨hok,by simp [h.mem],r3.put 1 sv',.inr ⟨b,D,rfl,by simp [hb],?_,ht⟩,?_,(fun x hx=>by simp [hx]),fun x hx=>?_⟩,F3.setCell (fun _=>h.mem) _,?_⟩
  · have:=m3.setCell (a:=⟨g,1,none⟩) (fun e=>hne e.symm) sv';simpa using this
  · have:=MM.own_far (S:=[g]) h3 ((MM.Far.refl [g] w3).setCell (p:=⟨g,1,none⟩) (by simp) sv') (fun x hx e=>by simp at e;subst e;exact hne2 hx);simpa [strs] using this
  · show x < (w3.setCell ⟨g,1,none⟩ sv').heap.size
    rw [show (w3.setCell ⟨g,1,none⟩ sv').heap.size=w3.heap.size from by simp [World.setCell]]
    rcases List.mem_append.1 hx with hx | hx
    · exact Nat.lt_of_lt_of_le (h.lt x hx) F3.size
    · exact (MM.own_lt h3 x (by simpa using hx)).1
  · intro x hx
    rcases List.mem_append.1 hx with hx | hx
    · exact .inl hx
    · have hx:sv'.ownBlock=some x:=by simpa using hx
      rcases hl with e | e
      · exact .inl (h.own x (by rw [← e];exact hx))
      · rw [e] at hx;have:=F2.size;simp at hx
        right;omega
theorem Nm.ok_snoc {s:ByteArray} (h:Nm w g S L mv sv) (hs:NP.fits s) (hL:s∉L) (hn:L.length < 4096):NP.Ok (L++[s]):=by
  have:=h.ok.putL s;unfold NP.putL at this
  rwa [if_pos ⟨hs,hL,hn⟩] at this
theorem added_map {s:ByteArray} (hL:s∉L) {w1:World} {b:Nat} (h:Nm w g S L (.map (some b)) sv) (hw1:MM.Far [] w w1):∃ D,w1.ownsMap Tryd.prog 9 (plainElem Tryd.prog 3) b L.length D∧b∈S∧NP.Tab (D.put (NP.key s) (.lit (.int .i64 L.length))) (NP.num (L++[s])):=by
  rcases (h.map.far hw1 (by simp)) with ⟨h',_⟩ | ⟨b',D',e,hb,h',ht⟩
  · cases h'
  · cases e;exact ⟨D',h',hb,(ht.put s L.length).congr (NP.num_snoc L s hL)⟩
theorem Nm.first (h:Nm w g S L (.map none) sv):Nm ((w.alloc (.map #[] 0)).setCell ⟨g,0,none⟩ (.map (some w.heap.size))) g (w.heap.size::S) L (.map (some w.heap.size)) sv∧MM.Far S w ((w.alloc (.map #[] 0)).setCell ⟨g,0,none⟩ (.map (some w.heap.size))):=by
  have hF:MM.Far S w (w.alloc (.map #[] 0)):=(MM.Far.refl S w).alloc _;have hlt:=h.head.lt;have hL:L=[]:=by
    rcases h.map with ⟨_,h0⟩ | ⟨_,_,e,_⟩
    · cases L with
      | nil=>rfl
      | cons a l=>have:=h0 a;simp [NP.num] at this
    · cases e
  subst hL;refine ⟨⟨h.ok,by simp [h.mem],(h.head.alloc _).put 0 _,.inr ⟨_,.map [],rfl,by simp,?_,?_⟩,?_,(fun x hx=>by simp [h.own x hx]),fun x hx=>?_⟩,hF.setCell (fun _=>h.mem) _⟩
  · exact (World.ownsMap_made w Tryd.prog 9 _).setCell (by simp;omega) _
  · exact NP.Tab.none_.congr (fun s=>by simp [NP.num])
  · exact MM.own_far (S:=[g]) (h.row.alloc _) ((MM.Far.refl [g] _).setCell (p:=⟨g,0,none⟩) (by simp) _) (fun x hx e=>by simp at e;subst e;exact MM.own_row_ne h.row h.head (by decide) hx)
  · rw [show ((w.alloc (.map #[] 0)).setCell ⟨g,0,none⟩ (.map (some w.heap.size))).heap.size=w.heap.size+1 from by simp [World.setCell]]
    rcases List.mem_cons.1 hx with e | e
    · omega
    · have:=h.lt x e;omega
theorem nxt_first {w0 w1 w2:World} {L':List ByteArray} (h:Nxt w1 g (w0.heap.size::S) L' w2) (hF:MM.Far S w0 w1):Nxt w0 g S L' w2:=by
  obtain ⟨S',mv',sv',h1,h2,h3⟩:=h;refine ⟨S',mv',sv',h1,hF.trans h2 (fun b hb hlt=>?_),fun b hb=>?_⟩
  · rcases List.mem_cons.1 hb with e | e
    · omega
    · exact e
  · rcases h3 b hb with h3 | h3
    · rcases List.mem_cons.1 h3 with e | e
      · right;omega
      · exact .inl e
    · right;have:=hF.size;omega
theorem added_row {w1 w2:World} {b:Nat} {D:DataW Unit} (h:Nm w1 g S L (.map (some b)) sv) (m1:w1.ownsMap Tryd.prog 9 (plainElem Tryd.prog 3) b L.length D) (h2:w1.grownBy w2 (some b)) :
    MM.Row w2 g 50 [.map (some b),sv]∧w2.ownsRow 0 9 1 sv L.length (strs L) :=
  ⟨h.head.of_block (h2.block g h.head.lt (fun e=>row_ne_map m1 h.head (by simpa using e.symm))),
   MM.own_far h.row (MM.Far.of_grown (S:=[b]) h2 (fun x hx _=>by simp at hx;simp [hx])) (fun x hx e=>by simp at e;subst e;exact own_ne_map m1 h.row hx)⟩
theorem added_head {w2 w3:World} {l:List Value} {o:Obj} (r:MM.Row w2 g 50 l) (o2:w2.ownsRow 0 9 1 sv L.length (strs L)) (hg:(w2.alloc o).grownBy w3 sv.ownBlock):MM.Row w3 g 50 l :=
  (r.alloc o).of_block (hg.block g (r.alloc o).lt (fun e=>MM.own_row_ne (o2.alloc o) (r.alloc o) (by decide) e.symm))
set_option maxHeartbeats 1000000 in
theorem add_some {b:Nat} (h:Nm w g S L (.map (some b)) sv) (s:ByteArray) (hs:NP.fits s) (hL:s∉L) (hn:L.length < 4096) :
    Calls Tryd.prog 88 #[ptr g,.string s] w fun e w'=>e = .returned (.int .i64 L.length)∧Nxt w g S (L++[s]) w':=by
  have hnil:=fun W r=>run_eql_map_nil (P:=Tryd.prog) W 48 9 3 r Tryd.underlying48
  have h0:=h.head.at (i:=0) rfl;have h32:=hs.2;have HL:=Lib.hid hL;have HS:=Lib.hid hs;have H:=Lib.hid h;clear h hL hs;go_enter Tryd.func88,Tryd.ntmps88
  go_wp2_with fail
  refine (MC.clone_any s _ (by omega)).mono ?_
  rintro e w1 ⟨rfl,hF1⟩;have N1:=Lib.hid (H.out.nil hF1)
  go_wp2_with fail
  refine (len_any N1.out).mono ?_
  rintro e w' ⟨rfl,rfl⟩;obtain ⟨D,m1,hb,ht⟩:=added_map HL.out H.out hF1;have HT:=Lib.hid ht;clear ht;have c0:=N1.out.head.at (i:=0) rfl
  go_wp2_with (first
    | (at_mapUpdate;refine wpList_mapUpdate_own _ rfl _ _ _ 48 rfl 9 3 string_keyed_ Tryd.underlying48 _ b L.length D rfl m1 (by unfold maxLen;omega) _ _ _ rfl rfl (key_of (by unfold maxLen;omega)) _ [] (plainElem_int Tryd.underlying3 (WalkArith.wf_i64 (by omega))) ?_;intro w2 m2 hg2;obtain ⟨r2,o2⟩:=added_row N1.out m1 hg2;have c1:=r2.at (i:=1) rfl)
    | (at_builtin;refine MO.wpList_append _ rfl (.tmp 30) (.tmp 32) 29 rfl 0 9 (.string ⟨#[]⟩) 1 16 Tryd.underlying29 string_info rfl (by omega) sv L.length (strs L) rfl (o2.alloc _) (some ⟨w2.heap.size,0,none⟩) 1 1 [.string s] rfl rfl (by simp) [] (MM.Src.row (MM.Row.new _ _ [.string s]) (by simp) _ (fun j u hu=>hu)) (strs_one [s]) (by unfold maxLen;omega) (by omega) (by omega) ?_;intro sv' w3 o3 hg3 hl3;have r3:=added_head r2 o2 hg3;have c3:=r3.at (i:=1) rfl;have f3:=r3.frozen 1;obtain ⟨A3,cap3,hv3,_⟩:=MO.form o3;rw [hv3];have HV:=Lib.hid hv3;clear hv3))
  go_ret
  exact ⟨rfl,HV.out ▸ added (H.out.ok_snoc HS.out HL.out hn) H.out hb hF1 m2 HT.out hg2 o3 hg3 hl3⟩
set_option maxHeartbeats 1000000 in
theorem add_none (h:Nm w g S L (.map none) sv) (s:ByteArray) (hs:NP.fits s) (hL:s∉L) (hn:L.length < 4096) :
    Calls Tryd.prog 88 #[ptr g,.string s] w fun e w'=>e = .returned (.int .i64 L.length)∧Nxt w g S (L++[s]) w':=by
  have hnil:=fun W r=>run_eql_map_nil (P:=Tryd.prog) W 48 9 3 r Tryd.underlying48
  have hmm:=@run_makeMap Tryd.prog;have h0:=h.head.at (i:=0) rfl;have c0:=(h.head.alloc (.map #[] 0)).at (i:=0) rfl;have f0:=(h.head.alloc (.map #[] 0)).frozen 0;have hfst:=Lib.hid (h.first);have h32:=hs.2;have HL:=Lib.hid hL;have HS:=Lib.hid hs;clear h hL hs;go_enter Tryd.func88,Tryd.ntmps88
  go_wp2_with fail
  obtain ⟨H0,hF0⟩:=hfst.out;have H:=Lib.hid H0;clear H0;refine (MC.clone_any s _ (by omega)).mono ?_
  rintro e w1 ⟨rfl,hF1⟩;have N1:=Lib.hid (H.out.nil hF1)
  go_wp2_with fail
  refine (len_any N1.out).mono ?_
  rintro e w' ⟨rfl,rfl⟩;obtain ⟨D,m1,hb,ht⟩:=added_map HL.out H.out hF1;have HT:=Lib.hid ht;clear ht;have c0:=N1.out.head.at (i:=0) rfl
  go_wp2_with (first
    | (at_mapUpdate;refine wpList_mapUpdate_own _ rfl _ _ _ 48 rfl 9 3 string_keyed_ Tryd.underlying48 _ w.heap.size L.length D rfl m1 (by unfold maxLen;omega) _ _ _ rfl rfl (key_of (by unfold maxLen;omega)) _ [] (plainElem_int Tryd.underlying3 (WalkArith.wf_i64 (by omega))) ?_;intro w2 m2 hg2;obtain ⟨r2,o2⟩:=added_row N1.out m1 hg2;have c1:=r2.at (i:=1) rfl)
    | (at_builtin;refine MO.wpList_append _ rfl (.tmp 30) (.tmp 32) 29 rfl 0 9 (.string ⟨#[]⟩) 1 16 Tryd.underlying29 string_info rfl (by omega) sv L.length (strs L) rfl (o2.alloc _) (some ⟨w2.heap.size,0,none⟩) 1 1 [.string s] rfl rfl (by simp) [] (MM.Src.row (MM.Row.new _ _ [.string s]) (by simp) _ (fun j u hu=>hu)) (strs_one [s]) (by unfold maxLen;omega) (by omega) (by omega) ?_;intro sv' w3 o3 hg3 hl3;have r3:=added_head r2 o2 hg3;have c3:=r3.at (i:=1) rfl;have f3:=r3.frozen 1;obtain ⟨A3,cap3,hv3,_⟩:=MO.form o3;rw [hv3];have HV:=Lib.hid hv3;clear hv3))
  go_ret
  have X:=added (H.out.ok_snoc HS.out HL.out hn) H.out hb hF1 m2 HT.out hg2 o3 hg3 hl3;rw [HV.out] at X;exact ⟨rfl,nxt_first X hF0⟩
end
end NW
end Go.Proofs.YtodjaabcjojlkaaDoor
namespace Go.Proofs.YtodjaabcjojlkaaDoor
open Go.RowKit Go.WideShapes Go.ChangeShapes
namespace LP
end LP
end Go.Proofs.YtodjaabcjojlkaaDoor
namespace Go.Proofs.YtodjaabcjojlkaaDoor
open Go.RowKit Go.Maps
namespace NW
section
variable {w:World} {g:Nat} {S:List Nat} {L:List ByteArray} {mv sv:Value}
theorem Nm.same (h:Nm w g S L mv sv):Nxt w g S L w:=⟨S,mv,sv,h,MM.Far.refl _ _,fun _ hb=>.inl hb⟩
theorem add_any (h:Nm w g S L mv sv) (s:ByteArray) (hs:NP.fits s) (hL:s∉L) (hn:L.length < 4096) :
    Calls Tryd.prog 88 #[ptr g,.string s] w fun e w'=>e = .returned (.int .i64 L.length)∧Nxt w g S (L++[s]) w':=by
  have h0:=h.map;unfold Mp at h0
  rcases h0 with ⟨e,_⟩ | ⟨b,D,e,_⟩
  · rw [e] at h;exact add_none h s hs hL hn
  · rw [e] at h;exact add_some h s hs hL hn
theorem put_short (s:ByteArray) (w:World) (hs:s.size < 1):Calls Tryd.prog 76 #[ptr g,.string s] w fun e w'=>e = .returned (.tuple #[.int .i64 0,.int .i64 1])∧w=w':=by
  go_enter Tryd.func76,Tryd.ntmps76
  go_wp2;go_ret2
  exact ⟨rfl,rfl⟩
theorem put_long (s:ByteArray) (w:World) (hm:s.size≤maxLen) (hs:32 < s.size):Calls Tryd.prog 76 #[ptr g,.string s] w fun e w'=>e = .returned (.tuple #[.int .i64 0,.int .i64 1])∧w=w':=by
  unfold maxLen at hm;go_enter Tryd.func76,Tryd.ntmps76
  go_wp2;go_ret2
  exact ⟨rfl,rfl⟩
theorem find_yes (h:Nm w g S L mv sv) (s:ByteArray) (hs:s.size≤maxLen) (hL:s∈L) (i:Int) (hi:(L.idxOf s:Int)=i):Calls Tryd.prog 87 #[ptr g,.string s] w fun e w'=>e = .returned (.tuple #[.int .i64 i,.bool true])∧w=w':=by
  subst hi;have:=find_any h s hs
  rwa [NP.findI_yes hL,NP.findB_yes hL] at this
theorem find_no (h:Nm w g S L mv sv) (s:ByteArray) (hs:s.size≤maxLen) (hL:s∉L):Calls Tryd.prog 87 #[ptr g,.string s] w fun e w'=>e = .returned (.tuple #[.int .i64 0,.bool false])∧w=w':=by
  have:=find_any h s hs
  rwa [NP.findI_no hL,NP.findB_no hL] at this
set_option maxHeartbeats 1000000 in
theorem put_any (h:Nm w g S L mv sv) (s:ByteArray) (hm:s.size≤maxLen) :
    Calls Tryd.prog 76 #[ptr g,.string s] w fun e w'=>e = .returned (.tuple #[.int .i64 (NP.putI L s),.int .i64 (NP.putE L s)])∧Nxt w g S (NP.putL L s) w':=by
  by_cases hf:NP.fits s
  · have H:=Lib.hid h;by_cases hL:s∈L
    · have e1:NP.putI L s=(L.idxOf s:Nat):=by simp [NP.putI,hf,hL]
      have e2:NP.putE L s=0:=by simp [NP.putE,hf,hL]
      have e3:NP.putL L s=L:=by simp [NP.putL,hL]
      rw [e1,e2,e3];obtain ⟨i,hi⟩:∃ i:Int,(L.idxOf s:Int)=i:=⟨_,rfl⟩
      rw [hi];have HI:=Lib.hid hi;have HL:=Lib.hid hL;have HM:=Lib.hid hm;obtain ⟨g1,g2⟩:=hf;clear h hi hL e1 e2 e3 hm;go_enter Tryd.func76,Tryd.ntmps76
      go_wp2_with (go_at_call 87;refine (find_yes H.out s HM.out HL.out i HI.out).mono ?_;rintro e w' ⟨rfl,rfl⟩)
      go_ret2
      exact ⟨rfl,H.out.same⟩
    · by_cases hn:L.length < 4096
      · have e1:NP.putI L s=(L.length:Nat):=by simp [NP.putI,hf,hL,hn]
        have e2:NP.putE L s=0:=by simp [NP.putE,hf,hL,hn]
        have e3:NP.putL L s=L++[s]:=by simp [NP.putL,hf,hL,hn]
        rw [e1,e2,e3];have HL:=Lib.hid hL;have HM:=Lib.hid hm;have HF:=Lib.hid hf;have HN:=Lib.hid hn;have ht:decide ((4096:Int)≤(L.length:Int))=false:=by simp;omega
        obtain ⟨g1,g2⟩:=hf;clear h hL e1 e2 e3 hm hn;go_enter Tryd.func76,Tryd.ntmps76
        go_wp2_with (first | (go_at_call 87;refine (find_no H.out s HM.out HL.out).mono ?_;rintro e w' ⟨rfl,rfl⟩) | (go_at_call 6;refine (len_any H.out).mono ?_;rintro e w' ⟨rfl,rfl⟩) | (go_at_call 88;refine (add_any H.out s HF.out HL.out HN.out).mono ?_;rintro e w1 ⟨rfl,hX⟩;have HX:=Lib.hid hX;clear hX))
        go_ret2
        exact ⟨rfl,HX.out⟩
      · have e1:NP.putI L s=0:=by simp [NP.putI,hf,hL,hn]
        have e2:NP.putE L s=3:=by simp [NP.putE,hf,hL,hn]
        have e3:NP.putL L s=L:=by simp [NP.putL,hn]
        rw [e1,e2,e3];have HL:=Lib.hid hL;have HM:=Lib.hid hm;have ht:decide ((4096:Int)≤(L.length:Int))=true:=by simp;omega
        obtain ⟨g1,g2⟩:=hf;clear h hL e1 e2 e3 hm hn;go_enter Tryd.func76,Tryd.ntmps76
        go_wp2_with (first | (go_at_call 87;refine (find_no H.out s HM.out HL.out).mono ?_;rintro e w' ⟨rfl,rfl⟩) | (go_at_call 6;refine (len_any H.out).mono ?_;rintro e w' ⟨rfl,rfl⟩))
        go_ret2
        exact ⟨rfl,H.out.same⟩
  · have e1:NP.putI L s=0:=by simp [NP.putI,hf]
    have e2:NP.putE L s=1:=by simp [NP.putE,hf]
    have e3:NP.putL L s=L:=by simp [NP.putL,hf]
    rw [e1,e2,e3];have hc:s.size < 1∨32 < s.size:=by unfold NP.fits at hf;omega
    rcases hc with hc | hc
    · exact (put_short s w hc).mono fun e w' ⟨h1,h2⟩=>⟨h1,h2 ▸ h.same⟩
    · exact (put_long s w hm hc).mono fun e w' ⟨h1,h2⟩=>⟨h1,h2 ▸ h.same⟩
end
end NW
end Go.Proofs.YtodjaabcjojlkaaDoor
