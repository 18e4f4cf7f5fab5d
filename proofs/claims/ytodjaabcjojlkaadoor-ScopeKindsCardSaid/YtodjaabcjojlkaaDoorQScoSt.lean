/-
  Layer 9's code in memory: the resolver, as far as it is its names that are around and the names' table; what turns it. No condition.
-/
import Derived.Test.YtodjaabcjojlkaaDoorQScoMem
namespace Go.Proofs.YtodjaabcjojlkaaDoor
open Go.RowKit
set_option linter.unusedVariables false
namespace SM
open LX RW6 EX SC
open EW (Sl Bx ptr num strs)
open RX (Nd)
open RM6 (Kin)
structure Hd where
  dv:Value
  lv:Value
  dm:Value
  fv:Value
  tv:Value
  hv:Value
def hdL (h:Hd) (g lev:Nat) (bv im:Value):List Value:=[h.dv,h.lv,ptr g,h.dm,num lev,bv,im,h.fv,h.tv,h.hv]
def bdL (b:Bd):List Value:=[.string b.name,num b.lev,num b.pl,num b.hid]
def bdC (row:List Bd):List Value:=row.flatMap bdL
theorem bdC_snoc (row:List Bd) (b:Bd):bdC (row++[b])=bdC row++bdL b:=by simp [bdC]
theorem bdC_take:∀ (row:List Bd) (k:Nat),(bdC row).take (k*4)=bdC (row.take k):=by
  intro row;induction row with
  | nil=>intro k;simp [bdC]
  | cons x r ih =>
    intro k;cases k with
    | zero=>simp [bdC]
    | succ k =>
      have e:bdC (x::r)=bdL x++bdC r:=by simp [bdC]
      have hl:(bdL x).length=4:=rfl;rw [e,List.take_succ_cons,show bdC (x::r.take k)=bdL x++bdC (r.take k) by simp [bdC],List.take_append,hl,show (k+1)*4 - 4=k*4 by omega,ih,List.take_of_length_le (by omega)]
theorem bdC_at:∀ (row:List Bd) (k:Nat) (h:k < row.length) (j:Nat) (_:j < 4),(bdC row)[k*4+j]? = (bdL row[k])[j]?:=by
  intro row;induction row with
  | nil=>intro k h;simp at h
  | cons x rs ih =>
    intro k h j hj;have e:bdC (x::rs)=bdL x++bdC rs:=by simp [bdC]
    have hl:(bdL x).length=4:=rfl;rw [e];cases k with
    | zero=>rw [Nat.zero_mul,Nat.zero_add,List.getElem?_append_left (by omega)];rfl
    | succ k =>
      rw [List.getElem?_append_right (by omega),hl];have:=ih k (by simpa using h) j hj;rw [show (k+1)*4+j - 4=k*4+j from by omega,this];rfl
structure Sb (w0 w:World) (Y:List Nat) (q g:Nat) (h:Hd) (own:ByteArray→Nat) (lev:Nat) (row:List Bd) (c:ByteArray→Nat) (N:List ByteArray) (bv im mv sv:Value) (S:List Nat):Prop where
  far:MM.Far [] w0 w
  head:MM.Row w q 76 (hdL h g lev bv im)
  bind:w.ownsRow w0.heap.size 137 4 bv row.length (bdC row)
  map:MapV w im c
  nm:NW.Nm w g S N mv sv
  dfd:MapV w h.dm own
  low:∀ b∈Y,w0.heap.size≤b
  lt:∀ b∈Y,b < w.heap.size
  yq:q∈Y
  yb:∀ b,bv.ownBlock=some b→b∈Y
  ym:∀ b,im = .map (some b)→b∈Y
  ys:∀ b∈S,b∈Y
  yd:∀ b,h.dm = .map (some b)→b∉Y∧b < w.heap.size
  sx:∀ b∈S,b≠q∧bv.ownBlock≠some b∧im≠.map (some b)
structure Yto (w:World) (Y Y':List Nat):Prop where
  sub:∀ b∈Y,b∈Y'
  new:∀ b∈Y',b∈Y∨w.heap.size≤b
theorem Yto.refl (w:World) (Y:List Nat):Yto w Y Y:=⟨fun _ h=>h,fun _ h=>.inl h⟩
theorem Yto.of {w w1:World} {Y Y' Y2:List Nat} (h:Yto w Y Y') (k:Yto w1 Y' Y2) (hs:w.heap.size≤w1.heap.size):Yto w Y Y2 :=
  ⟨fun b hb=>k.sub b (h.sub b hb),fun b hb=>by
    rcases k.new b hb with h1 | h1
    · exact h.new b h1
    · exact .inr (by omega)⟩
theorem far_y {S Y Y':List Nat} {w w1 w2:World} (f:MM.Far Y w w1) (zt:Yto w Y Y') (g:MM.Far S w1 w2) (hS:∀ b∈S,b < w1.heap.size→b∈Y'):MM.Far Y w w2 :=
  f.trans g (fun b hb hl=>by
    rcases zt.new b (hS b hb (Nat.lt_of_lt_of_le hl f.size)) with h | h
    · exact h
    · omega)
theorem cellF (w:World) (g i:Nat) (u:Value):MM.Far [g] w (w.setCell ⟨g,i,none⟩ u):=(MM.Far.refl [g] w).setCell (by simp) u
theorem lowF {S:List Nat} {w0 w w1:World} (h:MM.Far S w w1) (f:MM.Far [] w0 w) (hS:∀ b∈S,w0.heap.size≤b):MM.Far [] w0 w1:=f.trans h (fun b hb hl=>by have:=hS b hb;omega)
section
variable {w0 w w1:World} {Y S:List Nat} {q g:Nat} {h:Hd} {own:ByteArray→Nat} {lev:Nat} {row:List Bd} {c:ByteArray→Nat} {N:List ByteArray} {bv im mv sv:Value}
theorem Sb.off {T:List Nat} (s:Sb w0 w Y q g h own lev row c N bv im mv sv S) (f:MM.Far T w w1) (hT:∀ b∈T,b∉Y∧w0.heap.size≤b∧h.dm≠.map (some b)):Sb w0 w1 Y q g h own lev row c N bv im mv sv S :=
  ⟨lowF f s.far (fun b hb=>(hT b hb).2.1),s.head.far f (fun hm=>(hT _ hm).1 s.yq),MM.own_far s.bind f (fun b hb hm=>(hT _ hm).1 (s.yb b hb)),s.map.far f (fun b e hm=>(hT _ hm).1 (s.ym b e)),s.nm.far f (fun b hb hm=>(hT _ hm).1 (s.ys b hb)),
    s.dfd.far f (fun b e hm=>(hT _ hm).2.2 e),s.low,fun b hb=>Nat.lt_of_lt_of_le (s.lt b hb) f.size,s.yq,s.yb,s.ym,s.ys,fun b e=>⟨(s.yd b e).1,Nat.lt_of_lt_of_le (s.yd b e).2 f.size⟩,s.sx⟩
theorem Sb.to (s:Sb w0 w Y q g h own lev row c N bv im mv sv S) (f:MM.Far [] w w1):Sb w0 w1 Y q g h own lev row c N bv im mv sv S:=s.off f (fun b hb=>by cases hb)
theorem Sb.cell {h':Hd} {lev':Nat} {bv':Value} (s:Sb w0 w Y q g h own lev row c N bv im mv sv S) (i:Nat) (u:Value) (he:(hdL h g lev bv im).set i u=hdL h' g lev' bv' im) (hd:h'.dm=h.dm) (row':List Bd)
    (hb:(w.setCell ⟨q,i,none⟩ u).ownsRow w0.heap.size 137 4 bv' row'.length (bdC row')) (hbb:bv'.ownBlock=bv.ownBlock):Sb w0 (w.setCell ⟨q,i,none⟩ u) Y q g h' own lev' row' c N bv' im mv sv S:=by
  have f:=cellF w q i u;have hq:∀ b,b≠q→b∉[q]:=fun b hb hm=>hb (by simpa using hm)
  refine ⟨lowF f s.far (fun b hb=>by rw [List.mem_singleton.1 hb];exact s.low _ s.yq),by rw [← he];exact s.head.put i u,hb,s.map.far f (fun b e=>hq b (fun e2=>?_)),s.nm.far f (fun b hb=>hq b (s.sx b hb).1),?_,s.low,fun b hb=>Nat.lt_of_lt_of_le (s.lt b hb) f.size,s.yq,fun b hb=>s.yb b (hbb ▸ hb),s.ym,s.ys,fun b e=>?_,fun b hb=>⟨(s.sx b hb).1,hbb ▸ (s.sx b hb).2.1,(s.sx b hb).2.2⟩⟩
  · subst e2
    rcases s.map with ⟨h1,_⟩ | ⟨mb,h1,hm⟩
    · rw [h1] at e;cases e
    · rw [h1] at e;cases e;exact hm.row_ne s.head rfl
  · rw [hd];exact s.dfd.far f (fun b e=>hq b (fun e2=>(s.yd b e).1 (e2 ▸ s.yq)))
  · rw [hd] at e;exact ⟨(s.yd b e).1,Nat.lt_of_lt_of_le (s.yd b e).2 f.size⟩
theorem Sb.bindq (s:Sb w0 w Y q g h own lev row c N bv im mv sv S) (i:Nat) (u:Value):(w.setCell ⟨q,i,none⟩ u).ownsRow w0.heap.size 137 4 bv row.length (bdC row) :=
  MM.own_far s.bind (cellF w q i u) (fun b hb hm=>by
    rw [List.mem_singleton.1 hm] at hb;exact MM.own_row_ne s.bind s.head (by decide) hb)
theorem Sb.setLev (s:Sb w0 w Y q g h own lev row c N bv im mv sv S) (m:Nat):Sb w0 (w.setCell ⟨q,4,none⟩ (num m)) Y q g h own m row c N bv im mv sv S:=s.cell 4 (num m) rfl rfl row (s.bindq 4 _) rfl
theorem Sb.setF (s:Sb w0 w Y q g h own lev row c N bv im mv sv S) (u:Value):Sb w0 (w.setCell ⟨q,7,none⟩ u) Y q g { h with fv:=u } own lev row c N bv im mv sv S:=s.cell (h':={ h with fv:=u }) (lev':=lev) (bv':=bv) 7 u rfl rfl row (s.bindq 7 _) rfl
theorem Sb.setT (s:Sb w0 w Y q g h own lev row c N bv im mv sv S) (u:Value):Sb w0 (w.setCell ⟨q,8,none⟩ u) Y q g { h with tv:=u } own lev row c N bv im mv sv S:=s.cell (h':={ h with tv:=u }) (lev':=lev) (bv':=bv) 8 u rfl rfl row (s.bindq 8 _) rfl
theorem Sb.setH (s:Sb w0 w Y q g h own lev row c N bv im mv sv S) (u:Value):Sb w0 (w.setCell ⟨q,9,none⟩ u) Y q g { h with hv:=u } own lev row c N bv im mv sv S:=s.cell (h':={ h with hv:=u }) (lev':=lev) (bv':=bv) 9 u rfl rfl row (s.bindq 9 _) rfl
theorem Sb.cut {A:Option Addr} {n cp:Nat} (s:Sb w0 w Y q g h own lev row c N (.slice A n cp) im mv sv S) (k:Nat) (hk:k≤n) (hn:n=row.length):Sb w0 (w.setCell ⟨q,5,none⟩ (.slice A k cp)) Y q g h own lev (row.take k) c N (.slice A k cp) im mv sv S:=by
  subst hn;refine s.cell 5 _ rfl rfl _ ?_ (by cases A <;> rfl)
  have e:(row.take k).length=k:=by rw [List.length_take];omega
  have hb:=s.bindq 5 (.slice A k cp);obtain ⟨A',c',ev,_,_,_,_,hh⟩:=MO.form hb;injection ev with e1 e2 e3;subst e1;subst e3;rw [e,← bdC_take]
  rcases hh with ⟨rfl,hz,rfl⟩ | ⟨og,rfl,_⟩
  · have hk0:k=0:=by omega
    subst hk0;rw [Nat.zero_mul,List.take_zero];exact MO.none_ _ _ _ _
  · exact RC6.own_front (n:=row.length) hb k hk
theorem Sb.upd {mb:Nat} {c':ByteArray→Nat} (s:Sb w0 w Y q g h own lev row c N bv (.map (some mb)) mv sv S) (hm:MapN w1 mb c') (f:MM.Far [mb] w w1):Sb w0 w1 Y q g h own lev row c' N bv (.map (some mb)) mv sv S:=by
  have hmY:=s.ym mb rfl;have hq:∀ b,b≠mb→b∉[mb]:=fun b hb hm=>hb (by simpa using hm)
  have hM:MapN w mb c:=by
    rcases s.map with ⟨h1,_⟩ | ⟨mb',h1,hm⟩
    · cases h1
    · cases h1;exact hm
  refine ⟨lowF f s.far (fun b hb=>by rw [List.mem_singleton.1 hb];exact s.low _ hmY),s.head.far f (hq _ (fun e=>hM.row_ne s.head e.symm)),MM.own_far s.bind f (fun b hb=>hq b (fun e=>hM.own_ne s.bind (e ▸ hb))),.inr ⟨mb,rfl,hm⟩,s.nm.far f (fun b hb=>hq b (fun e=>(s.sx b hb).2.2 (by rw [e]))),
    s.dfd.far f (fun b e=>hq b (fun e2=>(s.yd b e).1 (e2 ▸ hmY))),s.low,fun b hb=>Nat.lt_of_lt_of_le (s.lt b hb) f.size,s.yq,s.yb,s.ym,s.ys,fun b e=>⟨(s.yd b e).1,Nat.lt_of_lt_of_le (s.yd b e).2 f.size⟩,s.sx⟩
theorem Sb.made (s:Sb w0 w Y q g h own lev row c N bv (.map none) mv sv S):Sb w0 ((w.alloc (.map #[] 0)).setCell ⟨q,6,none⟩ (.map (some w.heap.size))) (w.heap.size::Y) q g h own lev row (fun _=>0) N bv (.map (some w.heap.size)) mv sv S:=by
  have fa:=(MM.Far.refl [] w).alloc (.map #[] 0);have f:=cellF (w.alloc (.map #[] 0)) q 6 (.map (some w.heap.size));have s1:=s.to fa;have hq:∀ b,b≠q→b∉[q]:=fun b hb hm=>hb (by simpa using hm)
  have hqlt:=s.lt q s.yq;have hsz:=s.far.size;have hlt2:∀ b,b≤w.heap.size→b < ((w.alloc (.map #[] 0)).setCell ⟨q,6,none⟩ (.map (some w.heap.size))).heap.size:=fun b hb=>by
    have:=f.size;rw [EW.sz_alloc] at this;omega
  refine ⟨lowF f s1.far (fun b hb=>by rw [List.mem_singleton.1 hb];exact s.low _ s.yq),s1.head.put 6 _,s1.bindq 6 _,.inr ⟨_,rfl,(MapN.new w).far f (hq _ (by omega))⟩,s1.nm.far f (fun b hb=>hq b (s.sx b hb).1),s1.dfd.far f (fun b e=>hq b (fun e2=>(s.yd b e).1 (e2 ▸ s.yq))),fun b hb=>?_,fun b hb=>?_,List.mem_cons_of_mem _ s.yq,fun b hb=>List.mem_cons_of_mem _ (s.yb b hb),fun b hb=>?_,fun b hb=>List.mem_cons_of_mem _ (s.ys b hb),fun b e=>⟨fun hm=>?_,hlt2 b (by have:=(s.yd b e).2;omega)⟩,fun b hb=>⟨(s.sx b hb).1,(s.sx b hb).2.1,fun e=>?_⟩⟩
  · rcases List.mem_cons.1 hb with rfl | hb
    · exact hsz
    · exact s.low b hb
  · rcases List.mem_cons.1 hb with rfl | hb
    · exact hlt2 _ (Nat.le_refl _)
    · exact hlt2 b (Nat.le_of_lt (s.lt b hb))
  · cases hb;exact List.mem_cons_self ..
  · rcases List.mem_cons.1 hm with rfl | hm
    · exact Nat.lt_irrefl _ (s.yd _ e).2
    · exact (s.yd b e).1 hm
  · cases e
    exact Nat.lt_irrefl _ (s.lt _ (s.ys _ hb))
theorem Sb.add {bv':Value} (x:Bd) (s:Sb w0 w Y q g h own lev row c N bv im mv sv S) (hr:w1.ownsRow w0.heap.size 137 4 bv' (row.length+1) (bdC row++bdL x)) (f:MM.Far bv.ownBlock.toList w w1) (hat:bv'.ownBlock=bv.ownBlock∨∃ b,bv'.ownBlock=some b∧w.heap.size≤b) :
    Sb w0 (w1.setCell ⟨q,5,none⟩ bv') (bv'.ownBlock.toList++Y) q g h own lev (row++[x]) c N bv' im mv sv S:=by
  have hbY:∀ b∈bv.ownBlock.toList,b∈Y:=fun b hb=>s.yb b (by simpa using hb)
  have hq1:=MM.own_row_ne s.bind s.head (by decide);have hH:=s.head.far f (fun hm=>hq1 (by simpa using hm));have hM:MapV w1 im c:=s.map.far f (fun b e hm=>by
    rcases s.map with ⟨h1,_⟩ | ⟨mb,h1,hm1⟩
    · rw [h1] at e;cases e
    · rw [h1] at e;cases e;exact hm1.own_ne s.bind (by simpa using hm))
  have hN:=s.nm.far f (fun b hb hm=>(s.sx b hb).2.1 (by simpa using hm));have hD:=s.dfd.far f (fun b e hm=>(s.yd b e).1 (hbY b hm));have g1:=cellF w1 q 5 bv';have hq:∀ b,b≠q→b∉[q]:=fun b hb hm=>hb (by simpa using hm)
  have hin:∀ b,bv'.ownBlock=some b→b∈Y∨w.heap.size≤b:=fun b hb=>by
    rcases hat with e | ⟨k,e,hk⟩
    · exact .inl (s.yb b (e ▸ hb))
    · rw [e] at hb;injection hb with hb;exact .inr (by omega)
  have hlow:=s.far.size;refine ⟨?_,hH.put 5 bv',?_,hM.far g1 (fun b e=>hq b (fun e2=>?_)),hN.far g1 (fun b hb=>hq b (s.sx b hb).1),hD.far g1 (fun b e=>hq b (fun e2=>(s.yd b e).1 (e2 ▸ s.yq))),fun b hb=>?_,fun b hb=>?_,List.mem_append_right _ s.yq,fun b hb=>List.mem_append_left _ (by simpa using hb),fun b hb=>List.mem_append_right _ (s.ym b hb),fun b hb=>List.mem_append_right _ (s.ys b hb),fun b e=>⟨fun hm=>?_,Nat.lt_of_lt_of_le (s.yd b e).2 (Nat.le_trans f.size g1.size)⟩,fun b hb=>⟨(s.sx b hb).1,fun e=>?_,(s.sx b hb).2.2⟩⟩
  · exact lowF g1 (lowF f s.far (fun b hb=>s.low b (hbY b hb))) (fun b hb=>by rw [List.mem_singleton.1 hb];exact s.low _ s.yq)
  · rw [List.length_append,bdC_snoc];exact MM.own_far hr g1 (fun b hb=>hq b (fun e=>MM.own_row_ne hr hH (by decide) (e ▸ hb)))
  · subst e2
    rcases hM with ⟨h1,_⟩ | ⟨mb,h1,hm⟩
    · rw [h1] at e;cases e
    · rw [h1] at e;cases e;exact hm.row_ne hH rfl
  · rcases List.mem_append.1 hb with hb | hb
    · rcases hin b (by simpa using hb) with h1 | h1
      · exact s.low b h1
      · omega
    · exact s.low b hb
  · rcases List.mem_append.1 hb with hb | hb
    · exact Nat.lt_of_lt_of_le (MM.own_lt hr b (by simpa using hb)).1 g1.size
    · exact Nat.lt_of_lt_of_le (s.lt b hb) (Nat.le_trans f.size g1.size)
  · rcases List.mem_append.1 hm with hm | hm
    · rcases hin b (by simpa using hm) with h1 | h1
      · exact (s.yd b e).1 h1
      · have:=(s.yd b e).2;omega
    · exact (s.yd b e).1 hm
  · rcases hat with e2 | ⟨k,e2,hk⟩
    · exact (s.sx b hb).2.1 (e2 ▸ e)
    · rw [e2] at e;injection e with e
      have:=s.lt _ (s.ys _ hb);omega
theorem addY {w:World} {bv bv':Value} {Y:List Nat} (hy:∀ b,bv.ownBlock=some b→b∈Y) (hat:bv'.ownBlock=bv.ownBlock∨∃ b,bv'.ownBlock=some b∧w.heap.size≤b):Yto w Y (bv'.ownBlock.toList++Y) :=
  ⟨fun b hb=>List.mem_append_right _ hb,fun b hb=>by
    rcases List.mem_append.1 hb with h | h
    · have h:bv'.ownBlock=some b:=by simpa using h
      rcases hat with e | ⟨g,e,hg⟩
      · exact .inl (hy b (e ▸ h))
      · rw [e] at h;injection h with h;exact .inr (by omega)
    · exact .inl h⟩
theorem Sb.put {N':List ByteArray} (s:Sb w0 w Y q g h own lev row c N bv im mv sv S) (hx:NW.Nxt w g S N' w1):∃ Y' mv' sv' S',Yto w Y Y'∧MM.Far Y w w1∧Sb w0 w1 Y' q g h own lev row c N' bv im mv' sv' S':=by
  obtain ⟨S',mv',sv',h1,h2,h3⟩:=hx;have hSY:MM.Far Y w w1:=h2.mono (fun b hb _=>s.ys b hb);have hsz:=s.far.size;have hbn:∀ b,bv.ownBlock=some b→b < w.heap.size:=fun b hb=>s.lt b (s.yb b hb)
  refine ⟨S'++Y,mv',sv',S',⟨fun b hb=>List.mem_append_right _ hb,fun b hb=>?_⟩,hSY,?_⟩
  · rcases List.mem_append.1 hb with hb | hb
    · rcases h3 b hb with h | h
      · exact .inl (s.ys b h)
      · exact .inr h
    · exact .inl hb
  · refine ⟨lowF h2 s.far (fun b hb=>s.low b (s.ys b hb)),s.head.far h2 (fun hm=>(s.sx q hm).1 rfl),MM.own_far s.bind h2 (fun b hb hm=>(s.sx b hm).2.1 hb),s.map.far h2 (fun b e hm=>(s.sx b hm).2.2 e),h1,s.dfd.far h2 (fun b e hm=>(s.yd b e).1 (s.ys b hm)),fun b hb=>?_,fun b hb=>?_,List.mem_append_right _ s.yq,fun b hb=>List.mem_append_right _ (s.yb b hb),fun b hb=>List.mem_append_right _ (s.ym b hb),fun b hb=>List.mem_append_left _ hb,fun b e=>⟨fun hm=>?_,Nat.lt_of_lt_of_le (s.yd b e).2 h2.size⟩,fun b hb=>?_⟩
    · rcases List.mem_append.1 hb with hb | hb
      · rcases h3 b hb with h | h
        · exact s.low b (s.ys b h)
        · omega
      · exact s.low b hb
    · rcases List.mem_append.1 hb with hb | hb
      · exact h1.lt b hb
      · exact Nat.lt_of_lt_of_le (s.lt b hb) h2.size
    · rcases List.mem_append.1 hm with hm | hm
      · rcases h3 b hm with h | h
        · exact (s.yd b e).1 (s.ys b h)
        · have:=(s.yd b e).2;omega
      · exact (s.yd b e).1 hm
    · rcases h3 b hb with h | h
      · exact s.sx b h
      · refine ⟨fun e=>?_,fun e=>?_,fun e=>?_⟩
        · subst e;have:=s.lt _ s.yq;omega
        · have:=hbn b e;omega
        · have:=s.lt _ (s.ym b e);omega
end
def Sc (w0 w:World) (Y:List Nat) (q g:Nat) (h:Hd) (own:ByteArray→Nat) (R:Rws) (N:List ByteArray):Prop:=∃ bv im mv sv S,Sb w0 w Y q g h own R.length (bnd R) (inn (bnd R)) N bv im mv sv S
section
variable {w0 w w1:World} {Y:List Nat} {q g:Nat} {h:Hd} {own:ByteArray→Nat} {R:Rws} {N:List ByteArray}
theorem Sc.to (s:Sc w0 w Y q g h own R N) (f:MM.Far [] w w1):Sc w0 w1 Y q g h own R N:=by
  obtain ⟨bv,im,mv,sv,S,s⟩:=s;exact ⟨bv,im,mv,sv,S,s.to f⟩
theorem Sc.off {T:List Nat} (s:Sc w0 w Y q g h own R N) (f:MM.Far T w w1) (hT:∀ b∈T,b∉Y∧w0.heap.size≤b∧h.dm≠.map (some b)):Sc w0 w1 Y q g h own R N:=by
  obtain ⟨bv,im,mv,sv,S,s⟩:=s;exact ⟨bv,im,mv,sv,S,s.off f hT⟩
theorem Sc.head (s:Sc w0 w Y q g h own R N):∃ bv im,MM.Row w q 76 (hdL h g R.length bv im):=by
  obtain ⟨bv,im,mv,sv,S,s⟩:=s;exact ⟨bv,im,s.head⟩
def ScQ (w0 w:World) (Y:List Nat) (q g:Nat) (h:Hd) (own:ByteArray→Nat) (R:Rws) (N:List ByteArray) (w':World):Prop:=∃ Y',Yto w Y Y'∧MM.Far Y w w'∧Sc w0 w' Y' q g h own R N
theorem ScQ.same (s:Sc w0 w Y q g h own R N) (f:MM.Far [] w w1):ScQ w0 w Y q g h own R N w1:=⟨Y,Yto.refl _ _,f.mono (by simp),s.to f⟩
theorem ScQ.to {w2:World} (s:ScQ w0 w Y q g h own R N w1) (f:MM.Far [] w1 w2):ScQ w0 w Y q g h own R N w2:=by
  obtain ⟨Y',h1,h2,h3⟩:=s;exact ⟨Y',h1,h2.trans f (by simp),h3.to f⟩
theorem ScQ.from {w2:World} {R':Rws} {N':List ByteArray} (f:MM.Far [] w w1) (s:ScQ w0 w1 Y q g h own R' N' w2):ScQ w0 w Y q g h own R' N' w2:=by
  obtain ⟨Y',h1,h2,h3⟩:=s;exact ⟨Y',⟨h1.sub,fun b hb=>(h1.new b hb).imp id (fun h=>Nat.le_trans f.size h)⟩,(f.mono (S':=Y) (by simp)).trans h2 (fun b hb _=>hb),h3⟩
end
end SM
end Go.Proofs.YtodjaabcjojlkaaDoor
