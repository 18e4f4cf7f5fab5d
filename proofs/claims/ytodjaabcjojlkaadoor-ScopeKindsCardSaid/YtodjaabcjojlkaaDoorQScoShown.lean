/-
  Several texts in one: ScoOf,ScoSame,ScoShown.
-/
import Derived.Test.YtodjaabcjojlkaaDoorQScoS5
import Derived.Test.YtodjaabcjojlkaaDoorQScoFm
import Derived.Test.YtodjaabcjojlkaaDoorQExpDta
import Derived.Test.YtodjaabcjojlkaaDoorQScoRf
namespace Go.Proofs.YtodjaabcjojlkaaDoor
open Go.RowKit
set_option linter.unusedVariables false
namespace SM
open LX SX RW6 EX SC
open EW (Sl Bx ptr num strs NdR)
open RX (Nd)
open RM6 (Kin)
def OfQ (w:World):Fin→Ending→World→Prop
  | .error x,e,w'=>∃ g,e = .returned (.tuple #[.slice none 0 0,.slice none 0 0,num x.1,.int .i64 x.2.1,ptr g])∧MM.Far [] w w'∧NmAt w w' g x.2.2∧w.heap.size≤g
  | .ok r,e,w'=>∃ fv tv rs g,e = .returned (.tuple #[fv,tv,.int .i64 0,.int .i64 0,ptr g])∧MM.Far [] w w'∧NmAt w w' g r.1∧w.heap.size≤g∧rs.map (·.1)=r.2.1∧w'.ownsRow w.heap.size 33 8 fv rs.length (rfC rs)∧Kin w' w.heap.size ((tv,r.2.2)::kinsR rs)
theorem NmAt.wide {w w1 w':World} {g:Nat} {N:List ByteArray} (h:NmAt w1 w' g N) (hs:w.heap.size≤w1.heap.size):NmAt w w' g N:=by
  obtain ⟨S,mv,sv,h1,h2⟩:=h;exact ⟨S,mv,sv,h1,fun b hb=>(h2 b hb).imp id (fun h=>by omega)⟩
theorem kin_low {w:World} {b b':Nat} {ks:List (Value × List Nat)} (h:Kin w b ks) (hb:b'≤b):Kin w b' ks:=⟨fun k hk=>(h.each k hk).mono hb,h.apart⟩
theorem far_gg {w w1 w2 w3:World} {g:Nat} (f:MM.Far [] w w1) (f2:MM.Far [] w1 w2) (hg:w1.heap.size≤g) (k:MM.Far [g] w2 w3):MM.Far [] w w3 :=
  (f.trans f2 (by simp)).trans k (fun b hb hl=>by have:=f.size;simp at hb;omega)
section
variable {w0 w:World} {g:Nat}
theorem scope_empty {FA T:Option Addr} {fc tc:Nat} (h:PT w0) (f:MM.Far [] w0 w) (hN:NW.Nm w g [g] [] (.map none) (.slice none 0 0)) (hg:w0.heap.size≤g):Calls Tryd.prog 12 #[.slice none 0 0,.slice FA 0 fc,.slice T 0 tc,ptr g] w (ScpQ w0 w g (.ok ([],[],[]))):=by
  have hNd:NdR w0 none []:=fun k hk=>by simp at hk
  have hFm:FmS w0 FA []:=fun k hk=>by simp at hk
  have L:Lz w0 ⟨.slice none 0 0,.slice FA 0 fc,.nilFunc,.nilFunc,.nilFunc,.nilFunc⟩ (cx [] []) []:=⟨gd_none,h,⟨none,0,rfl,hNd⟩,⟨FA,fc,rfl,hFm⟩,fun i=>by simp [cx,ndAt];exact Nat.zero_le _,fun i=>by simp [cx,fmAt,fm0]⟩
  exact scope_any L rfl rfl rfl rfl rfl hNd hFm rfl (fms_nil 0) (fun k u hu=>by simp [ints] at hu) f hN hg (by simp) (by simp) (by simp) (fun x hx=>by cases hx) (fun x hx=>by cases hx) (by simp)
theorem scope_bare {s:ByteArray} {r:RX.Rd} {DA FA T:Option Addr} {n dc fc tc:Nat} (hR:RX.read s = .ok r) (hs:s.size≤1000) (hn:r.row.length=n) (hNd:NdR w0 DA r.row) (h:PT w0) (f:MM.Far [] w0 w) (hN:NW.Nm w g [g] [] (.map none) (.slice none 0 0)) (hg:w0.heap.size≤g):Calls Tryd.prog 12 #[.slice DA n dc,.slice FA 0 fc,.slice T 0 tc,ptr g] w (ScpQ w0 w g (.ok ([],[],[]))):=by
  have hsz:=RX.read_sizes hR;have hFm:FmS w0 FA []:=fun k hk=>by simp at hk
  have L:Lz w0 ⟨.slice DA n dc,.slice FA 0 fc,.nilFunc,.nilFunc,.nilFunc,.nilFunc⟩ (cx r.row []) (r.row.map (·.s)):=⟨gd_nil hR hs,h,⟨DA,dc,by rw [show (cx r.row []).ns.length=n from hn],hNd⟩,⟨FA,fc,rfl,hFm⟩,fun i=>by
    show (ndAt r.row i).l.length≤100000
    by_cases hi:i < r.row.length
    · rw [nd_in hi];have:=hsz.2.2 _ (List.getElem_mem hi);omega
    · rw [nd_out hi];exact Nat.zero_le _,fun i=>by simp [cx,fmAt,fm0]⟩
  exact scope_any L rfl rfl hn rfl rfl hNd hFm (RX.read_may hR) (fms_nil n) (fun k u hu=>by simp [ints] at hu) f hN hg (by omega) (by simp) (by simp) (fun x hx=>by have:=hsz.2.2 x hx;omega) (fun x hx=>by cases hx) (by simp)
theorem scope_text {s:ByteArray} {r:RX.Rd} {fs:List Fm} {ts:List Nat} {DA FA T:Option Addr} {n m tn dc fc tc:Nat} (hR:RX.read s = .ok r) (hE:EX.expand r.row r.tops = .ok (fs,ts)) (hs:s.size≤1000) (hn:r.row.length=n) (hm:fs.length=m) (htn:ts.length=tn) (hNd:NdR w0 DA r.row) (hFm:FmS w0 FA fs) (hT:IntRow w0 T ts) (h:PT w0) (f:MM.Far [] w0 w)
    (hN:NW.Nm w g [g] [] (.map none) (.slice none 0 0)) (hg:w0.heap.size≤g):Calls Tryd.prog 12 #[.slice DA n dc,.slice FA m fc,.slice T tn tc,ptr g] w (ScpQ w0 w g (SC.scope r.row fs ts)):=by
  have hsz:=RX.read_sizes hR;have hF:=forms_of hR hE;have hsm:=fms_small (fms_of hR hE);have hlen:=hF.len;have htl:=hF.tlen;have hll:∀ x∈fs,x.l.length≤100000:=fun x hx=>by have:=hsm x hx;omega
  have L:Lz w0 ⟨.slice DA n dc,.slice FA m fc,.nilFunc,.nilFunc,.nilFunc,.nilFunc⟩ (cx r.row fs) (r.row.map (·.s)):=⟨gd_of hR hE hs,h,⟨DA,dc,by rw [show (cx r.row fs).ns.length=n from hn],hNd⟩,⟨FA,fc,by rw [show (cx r.row fs).fs.length=m from hm],hFm⟩,fun i=>by
    show (ndAt r.row i).l.length≤100000
    by_cases hi:i < r.row.length
    · rw [nd_in hi];have:=hsz.2.2 _ (List.getElem_mem hi);omega
    · rw [nd_out hi];exact Nat.zero_le _,fun i=>by
    show (fmAt fs i).l.length≤100000
    by_cases hi:i < fs.length
    · rw [fm_in hi];exact hll _ (List.getElem_mem hi)
    · rw [fm_out hi];exact Nat.zero_le _⟩
  exact scope_any L rfl rfl hn hm htn hNd hFm (RX.read_may hR) (hn ▸ fms_of hR hE) (rd_int hT) f hN hg (by omega) (by omega) (by omega) (fun x hx=>by have:=hsz.2.2 x hx;omega) hll (Nat.le_trans (tops_F hR hE hs) (by omega))
end
theorem of_fin {w w2 w3 w':World} {g:Nat} {N:List ByteArray} (f1:MM.Far [] w w2) (f2:MM.Far [] w2 w3) (hg:w2.heap.size≤g) (k:MM.Far [g] w3 w') (hN:NmAt w3 w' g N):MM.Far [] w w'∧NmAt w w' g N∧w.heap.size≤g:=by
  have h1:=f1.size;have h2:=f2.size;exact ⟨far_gg f1 f2 hg k,hN.wide (by omega),by omega⟩
set_option maxHeartbeats 2000000 in
set_option maxRecDepth 20000 in
theorem of_any (s:ByteArray) (hs:s.size≤1000) (w:World) (hPT:PT w):Calls Tryd.prog 5 #[.string s] w (OfQ w (ofS s)):=by
  have HR:=Lib.hid (RM6.rread_any s (by omega) w);have HPT:=Lib.hid hPT;unfold ofS;clear hPT;cases hR:RX.read s with
  | error px =>
    obtain ⟨p,x⟩:=px;rw [hR] at HR;clear hR;show Calls _ _ _ _ (OfQ w (.ok ([],[],[])))
    go_enter Tryd.func5,Tryd.ntmps5
    go_wp2_with (first
      | (go_at_call 9;(with_reducible refine HR.out.mono ?_);rintro e w1 hQ;obtain ⟨rfl,hF1⟩:e = .returned (.tuple #[.slice none 0 0,.slice none 0 0,.int .i64 p,.int .i64 x])∧MM.Far [] w w1:=hQ;have HF1:=Lib.hid hF1;clear hF1)
      | (go_at_call 10;(with_reducible refine (EW.dnilS_any _).mono ?_);rintro e w2 ⟨A2,c2,T2,d2,rfl,hFm2,hT2,hF2⟩;have HF2:=Lib.hid (HF1.out.trans hF2 (by simp));clear hFm2 hT2 hF2)
      | (go_at_call 11;(with_reducible refine (NW.new_any _).mono ?_);rintro e w3 ⟨g,rfl,hg3,hN3,hF3⟩;have HN3:=Lib.hid hN3;have HF3:=Lib.hid hF3;have HG3:=Lib.hid hg3;clear hN3 hF3 hg3))
    go_wp2_with (first
      | (go_at_call 12;(with_reducible refine (scope_empty (HPT.out.far HF2.out) HF3.out HN3.out HG3.out).mono ?_);rintro e w4 ⟨fv,tv,rs,rfl,hF4,hN4,hrs4,hrow4,hk4⟩;have HF4:=Lib.hid hF4;have HN4:=Lib.hid hN4;have HRS4:=Lib.hid hrs4;have HRow4:=Lib.hid hrow4;have HK4:=Lib.hid hk4;clear hF4 hN4 hrs4 hrow4 hk4))
    refine bodyPost_ret (v:=.tuple #[fv,tv,.int .i64 0,.int .i64 0,.pointer (some ⟨g,0,none⟩)]) (by simp [results,Tryd.results5,go_sem]) rfl ?_
    obtain ⟨g1,g2,g3⟩:=of_fin HF2.out HF3.out HG3.out HF4.out HN4.out;exact ⟨fv,tv,rs,g,rfl,g1,g2,g3,HRS4.out,HRow4.out.mono HF2.out.size,kin_low HK4.out HF2.out.size⟩
  | ok r =>
    rw [hR] at HR;have HRD:=Lib.hid hR;have HS:=Lib.hid hs;have HC:=Lib.hid (fun (w1:World) (rv tv:Value) (rs:List (Nd × Value)) (h:Done w w1 rv tv rs r.tops) (hrs:rs.map (·.1)=r.row)=>EW.dcodeS_any hR h hrs (by have:=read_len hR;omega) (MM.Far.refl [] w1));clear hR hs;show Calls _ _ _ _ (OfQ w (match EX.expand r.row r.tops with | .error _=>.ok ([],[],[]) | .ok x=>scope r.row x.1 x.2))
    cases hX:EX.expand r.row r.tops with
    | error a =>
      rw [hX] at HC;clear hX;show Calls _ _ _ _ (OfQ w (.ok ([],[],[])))
      go_enter Tryd.func5,Tryd.ntmps5
      go_wp2_with (first
        | (go_at_call 9;(with_reducible refine HR.out.mono ?_);rintro e w1 ⟨rv,tv0,rs0,rfl,hD0,hrs0⟩;have HD0:=Lib.hid hD0;have HC1:=Lib.hid (HC.out _ _ _ _ hD0 hrs0);have HRS0:=Lib.hid hrs0;clear hD0 hrs0)
        | (go_at_call 10;(with_reducible refine HC1.out.mono ?_);rintro e w2 hQ2;obtain ⟨rfl,hF2⟩:e = .returned (.tuple #[.slice none 0 0,.slice none 0 0,.int .i64 a,.int .i64 80])∧MM.Far [] w1 w2:=hQ2;have HF12:=Lib.hid hF2;have HF2:=Lib.hid (HD0.out.far.trans hF2 (by simp));clear hF2)
        | (go_at_call 11;(with_reducible refine (NW.new_any _).mono ?_);rintro e w3 ⟨g,rfl,hg3,hN3,hF3⟩;have HN3:=Lib.hid hN3;have HF3:=Lib.hid hF3;have HG3:=Lib.hid hg3;clear hN3 hF3 hg3))
      obtain ⟨DA,dc,rfl,hNd⟩:=EW.done_rows HD0.out;rw [HRS0.out] at hNd;have hn:r.row.length=rs0.length:=by rw [← HRS0.out,List.length_map]
      have HNd:=Lib.hid (hNd.far HF12.out);have HLn:=Lib.hid hn;clear hNd hn HC1
      go_wp2_with (first
        | (go_at_call 12;(with_reducible refine (scope_bare HRD.out HS.out HLn.out HNd.out (HPT.out.far HF2.out) HF3.out HN3.out HG3.out).mono ?_);rintro e w4 ⟨fv,tv,rs,rfl,hF4,hN4,hrs4,hrow4,hk4⟩;have HF4:=Lib.hid hF4;have HN4:=Lib.hid hN4;have HRS4:=Lib.hid hrs4;have HRow4:=Lib.hid hrow4;have HK4:=Lib.hid hk4;clear hF4 hN4 hrs4 hrow4 hk4))
      refine bodyPost_ret (v:=.tuple #[fv,tv,.int .i64 0,.int .i64 0,.pointer (some ⟨g,0,none⟩)]) (by simp [results,Tryd.results5,go_sem]) rfl ?_
      obtain ⟨g1,g2,g3⟩:=of_fin HF2.out HF3.out HG3.out HF4.out HN4.out;exact ⟨fv,tv,rs,g,rfl,g1,g2,g3,HRS4.out,HRow4.out.mono HF2.out.size,kin_low HK4.out HF2.out.size⟩
    | ok x =>
      obtain ⟨fs,ts⟩:=x;rw [hX] at HC;have HEx:=Lib.hid hX;clear hX;show Calls _ _ _ _ (OfQ w (scope r.row fs ts))
      go_enter Tryd.func5,Tryd.ntmps5
      go_wp2_with (first
        | (go_at_call 9;(with_reducible refine HR.out.mono ?_);rintro e w1 ⟨rv,tv0,rs0,rfl,hD0,hrs0⟩;have HD0:=Lib.hid hD0;have HC1:=Lib.hid (HC.out _ _ _ _ hD0 hrs0);have HRS0:=Lib.hid hrs0;clear hD0 hrs0)
        | (go_at_call 10;(with_reducible refine HC1.out.mono ?_);rintro e w2 ⟨FA,fc,T,tc,rfl,hFm,hT,hF2⟩;have HF12:=Lib.hid hF2;have HFm:=Lib.hid hFm;have HT:=Lib.hid hT;have HF2:=Lib.hid (HD0.out.far.trans hF2 (by simp));clear hF2 hFm hT)
        | (go_at_call 11;(with_reducible refine (NW.new_any _).mono ?_);rintro e w3 ⟨g,rfl,hg3,hN3,hF3⟩;have HN3:=Lib.hid hN3;have HF3:=Lib.hid hF3;have HG3:=Lib.hid hg3;clear hN3 hF3 hg3))
      obtain ⟨DA,dc,rfl,hNd⟩:=EW.done_rows HD0.out;rw [HRS0.out] at hNd;have hn:r.row.length=rs0.length:=by rw [← HRS0.out,List.length_map]
      have HNd:=Lib.hid (hNd.far HF12.out);have HLn:=Lib.hid hn;clear hNd hn HC1;have hScp:=scope_text (dc:=dc) (fc:=fc) (tc:=tc) HRD.out HEx.out HS.out HLn.out rfl rfl HNd.out HFm.out HT.out (HPT.out.far HF2.out) HF3.out HN3.out HG3.out;cases hSc:scope r.row fs ts with
      | error y =>
        rw [hSc] at hScp;have HScp:=Lib.hid hScp;have HSc:=Lib.hid hSc;clear hScp hSc
        go_wp2_with (first
          | (go_at_call 12;(with_reducible refine HScp.out.mono ?_);rintro e w4 ⟨rfl,hF4,hN4⟩;have HF4:=Lib.hid hF4;have HN4:=Lib.hid hN4;clear hF4 hN4))
        refine bodyPost_ret (v:=.tuple #[.slice none 0 0,.slice none 0 0,num y.1,.int .i64 y.2.1,.pointer (some ⟨g,0,none⟩)]) (by simp [results,Tryd.results5,go_sem]) rfl ?_
        obtain ⟨g1,g2,g3⟩:=of_fin HF2.out HF3.out HG3.out HF4.out HN4.out;rw [HSc.out];exact ⟨g,rfl,g1,g2,g3⟩
      | ok y =>
        rw [hSc] at hScp;have HScp:=Lib.hid hScp;have HSc:=Lib.hid hSc;clear hScp hSc
        go_wp2_with (first
          | (go_at_call 12;(with_reducible refine HScp.out.mono ?_);rintro e w4 ⟨fv,tv,rs,rfl,hF4,hN4,hrs4,hrow4,hk4⟩;have HF4:=Lib.hid hF4;have HN4:=Lib.hid hN4;have HRS4:=Lib.hid hrs4;have HRow4:=Lib.hid hrow4;have HK4:=Lib.hid hk4;clear hF4 hN4 hrs4 hrow4 hk4))
        refine bodyPost_ret (v:=.tuple #[fv,tv,.int .i64 0,.int .i64 0,.pointer (some ⟨g,0,none⟩)]) (by simp [results,Tryd.results5,go_sem]) rfl ?_
        obtain ⟨g1,g2,g3⟩:=of_fin HF2.out HF3.out HG3.out HF4.out HN4.out;rw [HSc.out];exact ⟨fv,tv,rs,g,rfl,g1,g2,g3,HRS4.out,HRow4.out.mono HF2.out.size,kin_low HK4.out HF2.out.size⟩
end SM
end Go.Proofs.YtodjaabcjojlkaaDoor
namespace Go.Proofs.YtodjaabcjojlkaaDoor
open Go.RowKit
set_option linter.unusedVariables false
namespace SM
open LX SX RW6 EX SC
open EW (Sl Bx ptr num strs sz_alloc row_new)
open RX (Nd)
open RM6 (Kin)
theorem rf_rows {w:World} {base:Nat} {fv tv:Value} {rs:List (Rf × Value)} {tops:List Nat} (hr:w.ownsRow base 33 8 fv rs.length (rfC rs)) (hk:Kin w base ((tv,tops)::kinsR rs)) :
    ∃ A c,fv = .slice A rs.length c∧rs.length≤c∧c≤maxLen∧(A=none→c=0)∧RfR w A (rs.map (·.1)):=by
  obtain ⟨A,c,rfl,k0,k1,k2,k3,hh⟩:=MO.form hr;refine ⟨A,c,rfl,k1,k2,k0,fun k hk1=>?_⟩
  have hk2:k < rs.length:=by simpa using hk1
  rcases hh with ⟨_,hz,_⟩ | ⟨g,rfl,_,hlt⟩
  · omega
  obtain ⟨LA,lc,e,_,_,_,hI⟩:=own_ints (hk.each (rs[k].2,rs[k].1.l) (by
    refine List.mem_cons_of_mem _ ?_
    unfold kinsR;exact List.mem_map.2 ⟨rs[k],List.getElem_mem hk2,rfl⟩))
  have c (j:Nat) (hj:j < 8) (u:Value) (hu:(rfL rs[k])[j]? = some u):w.cell? ⟨g,0+k*8+j,none⟩=some u:=by
    have:=@World.ownsRow.cells w _ _ _ _ _ _ hr g rfl (k*8+j) u ((rfC_at rs k hk2 j hj).trans hu);rw [MM.head_add] at this;rw [Nat.zero_add];exact this
  have em:(rs.map (·.1))[k]=rs[k].1:=by simp
  rw [em];exact ⟨g,0,LA,lc,rfl,hlt,c 0 (by omega) _ rfl,c 1 (by omega) _ rfl,c 2 (by omega) _ rfl,c 3 (by omega) _ rfl,c 4 (by omega) _ rfl,c 5 (by omega) _ rfl,c 6 (by omega) _ rfl,(c 7 (by omega) _ rfl).trans (congrArg some e),hI⟩
theorem tops_row {w:World} {base:Nat} {tv:Value} {rs:List (Rf × Value)} {tops:List Nat} (hk:Kin w base ((tv,tops)::kinsR rs)):∃ A c,tv = .slice A tops.length c∧tops.length≤c∧c≤maxLen∧(A=none→c=0)∧IntRow w A tops:=own_ints (hk.each (tv,tops) (List.mem_cons_self ..))
set_option maxHeartbeats 4000000 in
set_option maxRecDepth 20000 in
theorem rsame_yes (fs:List Rf) (n:Nat) (hn:fs.length=n) (hm:n≤900000000) (hl:∀ x∈fs,x.l.length≤100000) (A1 A2:Option Addr) (c1 c2:Nat) (w:World) (h1:RfR w A1 fs) (h2:RfR w A2 fs) :
    Calls Tryd.prog 8 #[.slice A1 n c1,.slice A2 n c2] w fun e w'=>e = .returned (.bool true)∧MM.Far [] w w':=by
  have H1:=Lib.hid h1;have H2:=Lib.hid h2;have HN:=Lib.hid hn;have HLN:=Lib.hid hl;have HD0:=Lib.hid (MM.Far.refl [] w);clear h1 h2 hn hl;go_enter Tryd.func8,Tryd.ntmps8
  go_wp2
  go_loopg [5] n (fun g i wr=>∃ k:Nat,k+g=n∧i = .int .i64 (k:Int)∧Hid (MM.Far [] w wr))
  case atStart=>exact ⟨0,by omega,rfl,HD0⟩
  case round =>
    obtain ⟨k,hk,rfl,hD⟩:=hrel;obtain ⟨wo,rfl⟩:∃ wo,wo=wr:=⟨_,rfl⟩
    clear HD0;have hkn:k≤n:=by omega
    by_cases hlt:k < n
    · have hk2:k < fs.length:=by rw [HN.out];exact hlt
      obtain ⟨b1,o1,L1,e1,rfl,hb1,a0,a1,a2,a3,a4,a5,a6,a7,i1⟩:=(H1.out.far hD.out) k hk2;obtain ⟨b2,o2,L2,e2,rfl,hb2,d0,d1,d2,d3,d4,d5,d6,d7,i2⟩:=(H2.out.far hD.out) k hk2;have hll:=HLN.out _ (List.getElem_mem hk2);generalize fs[k]=t at *;obtain ⟨kd,at_,nn,aa,ss,ww,l⟩:=t;simp only at a0 a1 a2 a3 a4 a5 a6 a7 i1 d0 d1 d2 d3 d4 d5 d6 d7 i2 hll
      obtain ⟨m,hm2⟩:∃ m,l.length=m:=⟨_,rfl⟩
      rw [hm2] at a7 d7 hll;have FW:=((MM.Far.refl [] wo).alloc (.cells #[.int .u8 kd,.int .i64 at_,.int .i64 nn,.int .i64 aa,.string ss,.slice none 0 0,.int .u64 ww,.slice L1 m e1] 33)).alloc (.cells #[.int .u8 kd,.int .i64 at_,.int .i64 nn,.int .i64 aa,.string ss,.slice none 0 0,.int .u64 ww,.slice L2 m e2] 33);have HI:=Lib.hid (ints_call (c1:=e1) (c2:=e2) hm2 hll (i1.far FW) (i2.far FW));have d0':=far_cell ((MM.Far.refl [] wo).alloc (.cells #[.int .u8 kd,.int .i64 at_,.int .i64 nn,.int .i64 aa,.string ss,.slice none 0 0,.int .u64 ww,.slice L1 m e1] 33)) d0;have HFW:=Lib.hid FW;clear hk2 i1 i2 hm2 FW hll
      go_wp2_with (first
        | (go_at_call 7;(with_reducible refine HI.out.mono ?_);rintro e w3 ⟨rfl,hF3⟩;have hB1:=((MM.Row.new wo 33 [.int .u8 kd,.int .i64 at_,.int .i64 nn,.int .i64 aa,.string ss,.slice none 0 0,.int .u64 ww,.slice L1 m e1]).alloc (.cells #[.int .u8 kd,.int .i64 at_,.int .i64 nn,.int .i64 aa,.string ss,.slice none 0 0,.int .u64 ww,.slice L2 m e2] 33)).far hF3 (by simp);have hB2:=(row_new (w:=wo.alloc (.cells #[.int .u8 kd,.int .i64 at_,.int .i64 nn,.int .i64 aa,.string ss,.slice none 0 0,.int .u64 ww,.slice L1 m e1] 33)) 33 [.int .u8 kd,.int .i64 at_,.int .i64 nn,.int .i64 aa,.string ss,.slice none 0 0,.int .u64 ww,.slice L2 m e2] (sz_alloc _ _)).far hF3 (by simp);have x5:=hB1.at (i:=5) rfl;have y5:=hB2.at (i:=5) rfl;have HF3:=Lib.hid (HFW.out.trans hF3 (by simp));have HB1:=Lib.hid hB1;have HB2:=Lib.hid hB2;clear hF3 hB1 hB2))
      clear x5 y5
      go_loopg [8] 0 (fun g i wz=>i = .int .i64 ((0:Nat):Int)∧Hid (MM.Far [] w3 wz))
      case atStart=>exact ⟨rfl,Lib.hid (MM.Far.refl [] w3)⟩
      case round =>
        obtain ⟨rfl,hE⟩:=hrel;obtain ⟨wz,rfl⟩:∃ wz,wz=wr:=⟨_,rfl⟩
        have x5:=far_cell hE.out (HB1.out.at (i:=5) rfl);have y5:=far_cell hE.out (HB2.out.at (i:=5) rfl);go_wp2
        go_roundg (n - (k+1))
        case rel=>exact ⟨k+1,by omega,by go_num,Lib.hid ((hD.out.trans HF3.out (by simp)).trans hE.out (by simp))⟩
        case measure=>omega
    · obtain rfl:k=n:=by omega
      go_wp2;go_ret
      exact ⟨rfl,hD.out⟩
end SM
end Go.Proofs.YtodjaabcjojlkaaDoor
namespace Go.Proofs.YtodjaabcjojlkaaDoor
open Go.RowKit
set_option linter.unusedVariables false
namespace SM
open LX SX RW6 EX SC
open EW (Sl Bx ptr num strs sz_alloc row_new)
open RX (Nd)
open RM6 (Kin)
def shownB:ByteArray:=⟨#[40,108,97,109,98,100,97,32,40,120,41,32,40,43,32,120,32,49,41,41]⟩
def shownR:List Rf:=[⟨11,15,0,0,emp,0,[]⟩,⟨13,17,0,0,emp,8,[]⟩,⟨12,12,1,0,emp,0,[0,1]⟩,⟨6,0,1,0,emp,0,[2]⟩]
theorem shown_of:ofS shownB = .ok ([],shownR,[3]):=by kernel_rfl
theorem rfr_row {w:World} {b:Nat} (rs:List (Rf × Value)) (hR:MM.Row w b 33 (rfC rs)) (hL:∀ x∈rs,∃ LA lc,x.2 = .slice LA x.1.l.length lc∧IntRow w LA x.1.l):RfR w (some ⟨b,0,none⟩) (rs.map (·.1)):=by
  intro k hk;have hk2:k < rs.length:=by simpa using hk
  obtain ⟨LA,lc,el,hl⟩:=hL rs[k] (List.getElem_mem hk2);have c (j:Nat) (hj:j < 8) (u:Value) (hu:(rfL rs[k])[j]? = some u):w.cell? ⟨b,0+k*8+j,none⟩=some u:=by
    rw [Nat.zero_add];exact hR.at ((rfC_at rs k hk2 j hj).trans hu)
  have em:(rs.map (·.1))[k]=rs[k].1:=by simp
  rw [em];exact ⟨b,0,LA,lc,rfl,hR.lt,c 0 (by omega) _ rfl,c 1 (by omega) _ rfl,c 2 (by omega) _ rfl,c 3 (by omega) _ rfl,c 4 (by omega) _ rfl,c 5 (by omega) _ rfl,c 6 (by omega) _ rfl,(c 7 (by omega) _ rfl).trans (congrArg some el),hl⟩
def n0:Value:=.slice none 0 0
def shownC (h:Nat):List (Rf × Value):=[(⟨11,15,0,0,emp,0,[]⟩,n0),(⟨13,17,0,0,emp,8,[]⟩,n0),(⟨12,12,1,0,emp,0,[0,1]⟩,.slice (some ⟨h,0,none⟩) 2 2),(⟨6,0,1,0,emp,0,[2]⟩,.slice (some ⟨h+1,0,none⟩) 1 1)]
theorem shown_rf (w:World):RfR (((w.alloc (.cells (ints [0,1]).toArray 3)).alloc (.cells (ints [2]).toArray 3)).alloc (.cells (rfC (shownC w.heap.size)).toArray 33)) (some ⟨w.heap.size+1+1,0,none⟩) shownR:=by
  have hR:=row_new (w:=(w.alloc (.cells (ints [0,1]).toArray 3)).alloc (.cells (ints [2]).toArray 3)) 33 (rfC (shownC w.heap.size)) (by rw [sz_alloc,sz_alloc]);have h12:=introw_new w _ [0,1] (((MM.Far.refl [] (w.alloc (.cells (ints [0,1]).toArray 3))).alloc (.cells (ints [2]).toArray 3)).alloc (.cells (rfC (shownC w.heap.size)).toArray 33));have h03:=introw_new (w.alloc (.cells (ints [0,1]).toArray 3)) _ [2] ((MM.Far.refl [] ((w.alloc (.cells (ints [0,1]).toArray 3)).alloc (.cells (ints [2]).toArray 3))).alloc (.cells (rfC (shownC w.heap.size)).toArray 33));rw [sz_alloc] at h03;refine rfr_row _ hR (fun x hx=>?_)
  simp only [shownC,List.mem_cons,List.not_mem_nil,or_false] at hx
  rcases hx with rfl | rfl | rfl | rfl
  · exact ⟨none,0,rfl,introw_nil _ _⟩
  · exact ⟨none,0,rfl,introw_nil _ _⟩
  · exact ⟨_,2,rfl,h12⟩
  · exact ⟨_,1,rfl,h03⟩
set_option maxRecDepth 20000 in
set_option maxHeartbeats 4000000 in
theorem shown_any (w:World) (hPT:PT w):Calls Tryd.prog 4 #[] w fun e w'=>e = .returned (.bool true)∧MM.Far [] w w':=by
  have HOF:=Lib.hid (of_any shownB (show (20:Nat)≤1000 by omega) w hPT);rw [shown_of] at HOF;unfold shownB at HOF;have HSR:=Lib.hid shown_rf;clear hPT;go_enter Tryd.func4,Tryd.ntmps4
  go_wp2_with (first
    | (go_at_call 5;(with_reducible refine HOF.out.mono ?_);rintro e w1 ⟨fv,tv,rs,g,rfl,hF1,hN1,hg1,hrs,hrow,hkin⟩;have hFR:=rf_rows hrow hkin;have hTR:=tops_row hkin;obtain ⟨FA,fc,rfl,-,-,-,hF⟩:=hFR;obtain ⟨TA,tc,rfl,-,-,-,hT⟩:=hTR;have HRL:Hid (rs.length=4):=Lib.hid (by have:=congrArg List.length hrs;simpa [shownR] using this);rw [hrs] at hF;have HFM:=Lib.hid hF;have HTP:=Lib.hid hT;have HF1:=Lib.hid hF1;clear hrow hkin hrs hF hT hF1 hN1 hg1)
    | (go_at_call 7;(refine (ints_call (l:=[3]) (n:=1) rfl (by omega) (HTP.out.far ((MM.Far.refl [] w1).alloc _)) (introw_new w1 _ [3] (MM.Far.refl [] _))).mono ?_);rintro e w4 ⟨rfl,hF4⟩;have HF4:=Lib.hid ((MM.Far.refl [] w1).alloc _ |>.trans hF4 (by simp));clear hF4)
    | (go_at_call 8;rw [HRL.out];(refine (rsame_yes shownR 4 rfl (by omega) (fun x hx=>by unfold shownR at hx;simp only [List.mem_cons,List.not_mem_nil,or_false] at hx;rcases hx with rfl | rfl | rfl | rfl <;> simp) FA _ fc 4 _ (HFM.out.far (((HF4.out.alloc _).alloc _).alloc _)) (HSR.out w4)).mono ?_);rintro e w5 ⟨rfl,hF5⟩;have HF5:=Lib.hid (((((MM.Far.refl [] w4).alloc _).alloc _).alloc _).trans hF5 (by simp));clear hF5))
  go_ret
  exact ⟨rfl,(HF1.out.trans HF4.out (by simp)).trans HF5.out (by simp)⟩
end SM
end Go.Proofs.YtodjaabcjojlkaaDoor
