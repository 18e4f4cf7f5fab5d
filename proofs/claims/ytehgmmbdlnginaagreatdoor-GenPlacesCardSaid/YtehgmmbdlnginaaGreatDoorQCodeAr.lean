/-
  Several texts in one: CodeFld,CodePrim,CodeMap,CodeAr.
-/
import Derived.Test.YtehgmmbdlnginaaGreatDoorQCodeC4
import Derived.Laws.DeepStrings4
import Derived.Laws.Rows
import Derived.Deep.QuietTactic
import Derived.MapKept
import Derived.Laws.EntriesVeiled
namespace Go.Proofs.YtehgmmbdlnginaaGreatDoor
open Go.RowKit
set_option linter.unusedVariables false
namespace KP
def namL:List (List UInt8):=[[43],[45],[42],[113,117,111,116,105,101,110,116],[114,101,109,97,105,110,100,101,114],[60],[61],[101,113,63],[110,111,116],[110,117,108,108,63],
  [112,97,105,114,63],[99,111,110,115],[99,97,114],[99,100,114],[110,117,109,98,101,114,63],[115,121,109,98,111,108,63],[112,114,111,99,101,100,117,114,101,63],[99,97,108,108,47,99,99],
  [111,117,116],[115,112,97,119,110],[109,105,99,114,111],[97,102,116,101,114],[99,97,110,99,101,108],[112,114,111,109,105,115,101],[115,101,116,116,108,101],[116,104,101,110],[115,116,114,101,97,109],[119,114,105,116,101],[114,101,97,100],[116,105,109,101]]
def worL:List (List UInt8):=namL.eraseIdx 17
def texL:List UInt8:=(worL.intersperse [32]).flatten
def byt (i:Nat):Int:=((texL.getD i 0).toNat:Int)
def spc (b:Int):Int:=if (9≤b∧b≤13)∨b=32 then 1 else 0
def wasF:Nat→Int
  | 0=>1
  | i+1=>spc (byt i)
def cntF:Nat→Int
  | 0=>0
  | i+1=>cntF i+if wasF i=1∧spc (byt i)=0 then 1 else 0
def orF:Nat→Int
  | 0=>0
  | i+1=>bits .or .u8 (orF i) (byt i)
def naF:Nat→Nat
  | 0=>0
  | i+1=>naF i+if byt i=32 then 1 else 0
def fsF:Nat→Nat
  | 0=>0
  | i+1=>if byt i=32 then i+1 else fsF i
def wor (k:Nat):ByteArray:=⟨(worL.getD k []).toArray⟩
def tex:ByteArray:=⟨texL.toArray⟩
set_option maxRecDepth 100000 in
theorem tex_size:texL.length=160:=by decide +kernel
theorem tex_end:cntF 160=29∧orF 160=127∧naF 160=28∧fsF 160 < 160∧(texL.drop (fsF 160))=worL.getD 28 []:=by decide +kernel
theorem tex_byte:∀ i,i < 160→(0≤byt i∧byt i < 128)∧(byt i=32∨spc (byt i)=0)∧(wasF i=0∨wasF i=1)∧0≤cntF i∧cntF i≤29:=by decide +kernel
theorem tex_word:∀ i,i < 160→fsF i≤i∧naF i < 29∧(byt i=32→i+1 < 160∧byt (i+1)≠32∧(texL.drop (fsF i)).take (i - fsF i)=worL.getD (naF i) []):=by decide +kernel
end KP
namespace KW
open KP
structure AT (w:World):Prop where
  lt:0 < w.heap.size
  slot:∀ b:Nat,b < 256→w.cell? ⟨0,b,none⟩=some (.int .u8 (spc b))
theorem AT.far {w w':World} (h:AT w) (f:MM.Far [] w w'):AT w' :=
  ⟨Nat.lt_of_lt_of_le h.lt f.size,fun b hb=>(f.cell (p:=⟨0,b,none⟩) h.lt (by simp)).trans (h.slot b hb)⟩
def emS:ByteArray:=⟨#[]⟩
def rowL (k:Nat):List Value:=(List.range 29).map fun j=>.string (if j < k then wor j else emS)
theorem rowL_set (k:Nat) (h:k < 29):(rowL k).set k (.string (wor k))=rowL (k+1):=by
  apply List.ext_getElem?
  intro j;unfold rowL;rw [List.getElem?_set];simp only [List.length_map,List.length_range,List.getElem?_map]
  by_cases e:k=j
  · subst e;rw [if_pos rfl,if_pos h,List.getElem?_range h];simp
  · rw [if_neg e];by_cases hj:j < 29
    · rw [List.getElem?_range hj];simp only [Option.map_some]
      by_cases h1:j < k
      · rw [if_pos h1,if_pos (by omega)]
      · rw [if_neg h1,if_neg (by omega)]
    · rw [List.getElem?_eq_none (by simpa using hj)];rfl
theorem rowL_zero:rowL 0=List.replicate 29 (.string emS):=by
  unfold rowL;simp only [Nat.not_lt_zero,if_false]
  rfl
theorem row_str (k j:Nat) (h:j < 29) (hk:j < k):(rowL k)[j]? = some (.string (wor j)):=by
  unfold rowL;rw [List.getElem?_map,List.getElem?_range h];simp [hk]
theorem tex_at (i:Nat) (h:i < tex.size):((tex[i]'h).toNat:Int)=byt i:=by
  unfold byt;have hs:i < texL.length:=h;rw [List.getD_eq_getElem?_getD,List.getElem?_eq_getElem hs];rfl
theorem tex_cut (a b:Nat) (l:List UInt8) (h:(texL.drop a).take (b - a)=l):tex.extract a b=⟨l.toArray⟩:=by
  apply ByteArray.ext
  rw [ByteArray.data_extract];apply Array.toList_inj.1
  rw [← h];simp [tex]
theorem nsp (wa sp:Int) (h1:wa=0∨wa=1) (h2:sp=0∨sp=1):bits .and .i64 wa (bits .xor .i64 (if IntKind.i64.signed=true then -1 else 9223372036854775807) sp)=if wa=1∧sp=0 then 1 else 0:=by
  rcases h1 with rfl | rfl <;> rcases h2 with rfl | rfl <;> decide
theorem strs_slice:Tryz.prog.underlying 35=some (.slice 9):=by kernel_rfl
theorem str_info:(Tryz.prog.info? 9).map (fun i=>(i.zero,i.size,i.bytes))=some (some (.string emS),1,16):=by kernel_rfl
set_option maxHeartbeats 4000000 in
set_option maxRecDepth 20000 in
theorem fields_any (w:World) (hA:AT w):Calls Tryz.prog 44 #[.string tex] w fun e w'=>∃ g,e = .returned (.slice (some ⟨g,0,none⟩) 29 29)∧MM.Row w' g 9 (rowL 29)∧w.heap.size≤g∧MM.Far [] w w':=by
  have HS:Hid (tex.size=160):=Lib.hid tex_size;have HB:Hid (∀ i (h:i < tex.size),((tex[i]'h).toNat:Int)=byt i):=Lib.hid tex_at;have HX:Hid (∀ i,i < 160→byt i=32→tex.extract (fsF i) i=wor (naF i)):=Lib.hid (fun i hi h=>tex_cut _ _ _ ((tex_word i hi).2.2 h).2.2);have HXE:Hid (tex.extract (fsF 160) tex.size=wor 28):=Lib.hid (tex_cut _ _ _ (by
    have h:=tex_end.2.2.2.2;rw [List.take_of_length_le (by rw [List.length_drop];exact Nat.le_of_eq (by rw [show texL.length=tex.size from rfl])),h]))
  have HT:=Lib.hid (fun i hi=>tex_byte i hi);have HW:=Lib.hid (fun i hi=>tex_word i hi);have HE:=Lib.hid tex_end;have hgA:=hA.lt;have HA:=Lib.hid hA;clear hA;generalize tex=s at *;obtain ⟨n,hn⟩:∃ n,s.size=n:=⟨_,rfl⟩
  have hn160:n=160:=hn.symm.trans HS.out;have HN:=Lib.hid hn;have HN160:=Lib.hid hn160;have hle:n≤160:=by omega
  clear hn160;go_enter Tryz.func44,Tryz.ntmps44
  go_wp2_with (fail)
  go_loopw [3,4,5,6] (fun s3 s4 s5 s6 wr=>∃ i:Nat,i≤n∧s3=num (cntF i)∧s4=num (wasF i)∧s5 = .int .u8 (orF i)∧s6=num i∧w=wr) (fun _ _ _ s6 _=>n - (intOf s6).toNat)
  case atStart=>exact ⟨0,by omega,rfl,rfl,rfl,rfl,rfl⟩
  case round =>
    obtain ⟨i,hi,rfl,rfl,rfl,rfl,rfl⟩:=hrel;by_cases hlt:i < n
    · have hil:i < s.size:=by rw [hn];exact hlt
      have hb:=HB.out i hil;obtain ⟨⟨t1,t2⟩,-,t4,t5,t6⟩:=HT.out i (by have:=HN160.out;omega);have C1:Hid (cntF (i+1)=cntF i+if wasF i=1∧spc (byt i)=0 then 1 else 0):=Lib.hid rfl;have C2:Hid (wasF (i+1)=spc (byt i)):=Lib.hid rfl;have C3:Hid (orF (i+1)=bits .or .u8 (orF i) (byt i)):=Lib.hid rfl;obtain ⟨b,hbb⟩:∃ b:Nat,(s[i]'hil).toNat=b:=⟨_,rfl⟩
      rw [hbb] at hb;rw [← hb] at t1 t2 C1 C2 C3;have hc:w.cell? ⟨0,b,none⟩=some (.int .u8 (spc b)):=HA.out.slot b (by omega);have hsp:spc (b:Int)=0∨spc (b:Int)=1:=by unfold spc;split <;> simp
      generalize spc (b:Int)=sp at *;generalize cntF i=cn at *;generalize wasF i=wa at *;generalize orF i=oo at *;have hs0:0≤sp:=by rcases hsp with rfl | rfl <;> decide
      have hs1:sp≤1:=by rcases hsp with rfl | rfl <;> decide
      have HSP:=Lib.hid hsp;have T4:=Lib.hid t4;clear hb hsp t4
      go_wp2_with (fail)
      go_roundw
      case rel =>
        refine ⟨i+1,by omega,?_,?_,?_,by go_num,by first | rfl | trivial⟩
        · rw [C1.out,nsp _ _ T4.out HSP.out,IntWalk.wrap64_in _ (by split <;> omega)]
        · rw [C2.out]
        · rw [C3.out]
      case measure=>simp [intOf];omega
    · obtain rfl:i=n:=by omega
      obtain ⟨e1,e2,e3,e4,e5⟩:=HE.out;have hi160:i=160:=HN160.out;have E1:Hid (cntF i=29):=Lib.hid (by rw [hi160];exact e1);have E2:Hid (orF i=127):=Lib.hid (by rw [hi160];exact e2);clear e1 e2 e3 e4 e5 hi160;generalize cntF i=cn at *;generalize wasF i=wa at *;generalize orF i=oo at *;obtain rfl:cn=29:=E1.out;obtain rfl:oo=127:=E2.out;have hmk:=run_make_row' (P:=Tryz.prog) 35 9 (.string emS) 16 strs_slice str_info rfl .i64 .i64 29 (by omega) (by omega);rw [made_list,show ((29:Nat):Int)=29 from rfl] at hmk;obtain ⟨L0,hL0⟩:∃ L0,List.replicate 29 (Value.string emS)=L0:=⟨_,rfl⟩
      rw [hL0] at hmk;have HL0:=Lib.hid hL0;clear hL0;have HR0:=Lib.hid (MM.Row.new w 9 L0);have HF0:=Lib.hid ((MM.Far.refl [] w).alloc (.cells L0.toArray 9))
      go_wp2_with (fail)
      have hrow0:Hid (MM.Row (w.alloc (.cells L0.toArray 9)) w.heap.size 9 (rowL (naF 0))):=Lib.hid (by
        show MM.Row _ _ _ (rowL 0)
        rw [rowL_zero,HL0.out];exact HR0.out)
      have HA1:=Lib.hid (HA.out.far HF0.out);have hs1:w.heap.size < (w.alloc (.cells L0.toArray 9)).heap.size:=by simp
      generalize w.alloc (.cells L0.toArray 9)=w1 at *;obtain ⟨g,hg⟩:∃ g,w.heap.size=g:=⟨_,rfl⟩
      rw [hg] at hrow0 hs1 hgA;rw [hg];have HG:=Lib.hid hg;have hgA1:0 < w1.heap.size:=HA1.out.lt;clear hmk HR0 hg;have h0n:0 < i:=by have:=HN160.out;omega
      have h0s:0 < s.size:=by rw [hn];exact h0n
      have hb0:∃ b:Nat,(s[0]'h0s).toNat=b∧b < 256∧spc (b:Int)=0:=by
        refine ⟨_,rfl,(s[0]'h0s).toNat_lt,?_⟩
        rw [HB.out 0 h0s];decide +kernel
      obtain ⟨b0,hbb0,hb256,hsp0⟩:=hb0;have hc0:w1.cell? ⟨0,b0,none⟩=some (.int .u8 0):=by rw [HA1.out.slot b0 hb256,hsp0]
      go_loopw [12] (fun s12 wr=>s12=num 0∧w1=wr) (fun _ _=>0)
      case atStart=>exact ⟨rfl,by first | rfl | trivial⟩
      case round =>
        obtain ⟨rfl,rfl⟩:=hrel;clear hsp0
        go_wp2_with (fail)
        clear hbb0 hc0;have HF1:Hid (MM.Far [] w w1):=HF0
        go_loopw [10,11,12] (fun s10 s11 s12 wr=>∃ j:Nat,j≤i∧s10=num (naF j)∧s11=num (fsF j)∧s12=num j∧Hid (MM.Row wr g 9 (rowL (naF j)))∧Hid (MM.Far [] w wr)) (fun _ _ s12 _=>i - (intOf s12).toNat)
        case atStart=>exact ⟨0,by omega,rfl,rfl,rfl,hrow0,HF1⟩
        case round =>
          obtain ⟨j,hj,rfl,rfl,rfl,HRj,HFj⟩:=hrel;have HAj:=Lib.hid (HA.out.far HFj.out);have hgAj:0 < wr.heap.size:=HAj.out.lt;have hgj:=HRj.out.lt;by_cases hlt:j < i
          · have hjl:j < s.size:=by rw [hn];exact hlt
            have hj160:j < 160:=by have:=HN160.out;omega
            have hb:=HB.out j hjl;have D1:Hid (naF (j+1)=naF j+if byt j=32 then 1 else 0):=Lib.hid rfl;have D2:Hid (fsF (j+1)=if byt j=32 then j+1 else fsF j):=Lib.hid rfl;obtain ⟨q1,q2,q3⟩:=HW.out j hj160;obtain ⟨⟨t1,t2⟩,t3,-,-,-⟩:=HT.out j hj160;have hX:=HX.out j hj160;obtain ⟨b,hbb⟩:∃ b:Nat,(s[j]'hjl).toNat=b:=⟨_,rfl⟩
            rw [hbb] at hb;have hb256:(b:Int) < 256:=by omega
            have hb0:(0:Int)≤(b:Int):=by omega
            have hc:=HAj.out.slot b (by omega);clear t1 t2;by_cases h32:byt j=32
            · obtain ⟨q4,q5,-⟩:=q3 h32;have hsp:spc (b:Int)=1:=by rw [hb,h32];rfl
              rw [hsp] at hc;rw [if_pos h32] at D1 D2;have hX2:=hX h32;have hsl:∀ W,(Instr.slice 9 (.string s) (some (.int .i64 (fsF j:Nat))) (some (.int .i64 (j:Nat))) none).run Tryz.prog W = .ok (.string (wor (naF j))) W:=fun W=>by
                rw [run_slice_string_if W 9 s .i64 .i64 _ _ Tryz.underlying9,if_pos ⟨by omega,by omega⟩,if_pos ⟨by omega,by omega⟩,Int.toNat_natCast,Int.toNat_natCast,hX2]
              have hj1:j+1 < s.size:=by have:=HN160.out;omega
              have hb1:∃ b1:Nat,(s[j+1]'hj1).toNat=b1∧b1 < 256∧spc (b1:Int)=0:=by
                refine ⟨_,rfl,(s[j+1]'hj1).toNat_lt,?_⟩
                rw [HB.out (j+1) hj1]
                rcases (HT.out (j+1) q4).2.1 with h | h
                · exact absurd h q5
                · exact h
              obtain ⟨b1,hbb1,hb1256,hsp1⟩:=hb1;have hfz:wr.frozen? ⟨g,naF j,none⟩=false:=HRj.out.frozen _;have hw:=HRj.out.put (naF j) (.string (wor (naF j)));rw [rowL_set _ q2,← D1.out] at hw;have HW2:=Lib.hid hw;have hgw:w.heap.size=g:=HG.out;have HFw:Hid (MM.Far [] w (wr.setCell ⟨g,naF j,none⟩ (.string (wor (naF j))))):=Lib.hid (HFj.out.setCell (fun h=>by simp at h;omega) _);have HAw:=Lib.hid (HA.out.far HFw.out);have hc1:(wr.setCell ⟨g,naF j,none⟩ (.string (wor (naF j)))).cell? ⟨0,b1,none⟩=some (.int .u8 0):=by rw [HAw.out.slot b1 hb1256,hsp1]
              have hgw1:0 < (wr.setCell ⟨g,naF j,none⟩ (.string (wor (naF j)))).heap.size:=HAw.out.lt;have hb1':(b1:Int) < 256:=by omega
              have hn1:(j:Int)+1 < (i:Int):=by omega
              have hn2:naF j < 29:=q2;have HCR:=Lib.hid hrow0;clear hsp1 h32 hsp hb hX2 t3 hX q3 hgw hw hrow0;have hcell:∃ u0,wr.cell? ⟨g,naF j,none⟩=some u0:=⟨_,HRj.out.at (List.getElem?_eq_getElem (by unfold rowL;simpa using q2))⟩
              obtain ⟨u0,hu0⟩:=hcell
              go_wp2_with (fail)
              clear hu0 hfz hc hsl;generalize wr.setCell ⟨g,naF j,none⟩ (.string (wor (naF j)))=w5 at *
              go_loopw [12] (fun s12 wz=>s12=num ((j+1:Nat):Int)∧w5=wz) (fun _ _=>0)
              case atStart=>exact ⟨by go_num,by first | rfl | trivial⟩
              case round =>
                obtain ⟨rfl,rfl⟩:=hrel
                go_wp2_with (fail)
                go_roundw
                case rel=>exact ⟨j+1,by omega,by rw [D1.out];go_num,by rw [D2.out],by go_num,HW2,HFw⟩
                case measure=>simp [intOf];omega
            · have hsp:spc (b:Int)=0:=by
                rcases t3 with h | h
                · exact absurd h h32
                · rw [hb];exact h
              rw [hsp] at hc;rw [if_neg h32] at D1 D2;clear t3 hX q3 hb h32 hsp;have HRj2:Hid (MM.Row wr g 9 (rowL (naF (j+1)))):=Lib.hid (by rw [D1.out];exact HRj.out)
              go_wp2_with (fail)
              go_roundw
              case rel=>exact ⟨j+1,by omega,by rw [D1.out];rfl,by rw [D2.out],by go_num,HRj2,HFj⟩
              case measure=>simp [intOf];omega
          · obtain rfl:j=i:=by omega
            obtain ⟨-,-,e3,e4,-⟩:=HE.out;have hi160:j=160:=HN160.out;have E3:naF j=28:=by rw [hi160];exact e3
            have E4:fsF j < j:=by rw [hi160];exact e4
            have hX3:s.extract (fsF j) s.size=wor 28:=by rw [hi160];exact HXE.out
            have hsl:∀ W,(Instr.slice 9 (.string s) (some (.int .i64 (fsF j:Nat))) none none).run Tryz.prog W = .ok (.string (wor 28)) W:=fun W=>by
              rw [run_slice_string_from_if W 9 s .i64 _ Tryz.underlying9,if_pos ⟨by omega,by omega⟩,Int.toNat_natCast,hX3]
            have hRj:=HRj.out;rw [E3] at hRj;have hfz:wr.frozen? ⟨g,28,none⟩=false:=hRj.frozen _;have hu0:wr.cell? ⟨g,28,none⟩=some (.string emS):=hRj.at (by rfl);have hw:=hRj.put 28 (.string (wor 28));rw [rowL_set 28 (by omega)] at hw;have HW2:=Lib.hid hw;have HFw:Hid (MM.Far [] w (wr.setCell ⟨g,28,none⟩ (.string (wor 28)))):=Lib.hid (HFj.out.setCell (fun h=>by have:=HG.out;simp at h;omega) _);clear e3 e4 hi160 hX3 hRj hw;rw [E3];clear E3
            go_wp2_with (fail)
            go_ret
            exact ⟨g,rfl,HW2.out,by rw [HG.out];exact Nat.le_refl _,HFw.out⟩
end KW
end Go.Proofs.YtehgmmbdlnginaaGreatDoor
namespace Go.Proofs.YtehgmmbdlnginaaGreatDoor
open Go.RowKit
set_option linter.unusedVariables false
namespace KP
def emp:ByteArray:=⟨#[]⟩
def primN:List ByteArray:=namL.map fun l=>⟨l.toArray⟩
def primM:List Nat:=[2,2,2,2,2,2,2,2,1,1,1,2,1,1,1,1,1,1,1,1,1,2,1,0,2,2,1,2,1,0]
instance lawB:LawfulBEq ByteArray where
  eq_of_beq {a b} h:=by
    exact ByteArray.ext (eq_of_beq (α:=Array UInt8) h)
  rfl {a}:=by
    cases a
    exact beq_self_eq_true (α:=Array UInt8) _
def isPrim (s:ByteArray):Bool:=decide (s∈primN)
def primO (s:ByteArray):Nat:=if s∈primN then primN.idxOf s+1 else 0
def primK (s:ByteArray):Nat:=if s∈primN then primM.getD (primN.idxOf s) 0 else 0
end KP
namespace KW
open KP
theorem eq_no {a b:ByteArray} (h:a≠b):(a.toList == b.toList)=false:=by
  rw [beq_eq_false_iff_ne];intro e;rw [Lib.toList_data,Lib.toList_data] at e;exact h (ByteArray.ext (Array.toList_inj.1 e))
def primC:List Value:=[.string emp,.int .i64 0]++(primN.zip primM).flatMap fun x=>[.string x.1,.int .i64 (x.2:Nat)]
def PT (w : World) : Prop := w.var? Tryz.prog "eddywheel/scope.primitives" = some primC.toArray
theorem pt_named : Tryz.prog.globalNamed "eddywheel/scope.primitives" = some 1 := by kernel_rfl
theorem PT.far {W w:World} (h:PT W) (f:MM.Far [] W w):PT w:=by
  unfold PT World.var? at *;rw [pt_named] at h ⊢;simp only [Option.bind_some] at h ⊢
  have hlt:1 < W.heap.size:=by
    rcases Nat.lt_or_ge 1 W.heap.size with hb | hb
    · exact hb
    · rw [Array.getElem?_eq_none hb] at h;cases h
  rw [f.block _ hlt (by simp)];exact h
theorem PT.obj {w:World} (h:PT w):∃ t fr,w.heap[1]? = some (.cells primC.toArray t fr):=by
  unfold PT World.var? at h;rw [pt_named] at h;simp only [Option.bind_some] at h
  split at h
  · rename_i cs t fr e;injection h with h;subst h;exact ⟨t,fr,e⟩
  · cases h
theorem pt_size:(Tryz.prog.info? 158).map (·.size)=some 62:=by kernel_rfl
theorem primC_size:primC.toArray.size=62:=by decide
def nmP (k:Nat):ByteArray:=if k=0 then emp else primN.getD (k - 1) emp
def mnP (k:Nat):Nat:=if k=0 then 0 else primM.getD (k - 1) 0
theorem prim_ix (W:World) (k:Nat) (hk:k < 31):(Instr.index 158 (.agg primC.toArray) (.int .i64 (k:Nat))).run Tryz.prog W = .ok (.agg #[.string (nmP k),.int .i64 (mnP k:Nat)]) W :=
  match k,hk with
  | 0,_=>by kernel_rfl
  | 1,_=>by kernel_rfl
  | 2,_=>by kernel_rfl
  | 3,_=>by kernel_rfl
  | 4,_=>by kernel_rfl
  | 5,_=>by kernel_rfl
  | 6,_=>by kernel_rfl
  | 7,_=>by kernel_rfl
  | 8,_=>by kernel_rfl
  | 9,_=>by kernel_rfl
  | 10,_=>by kernel_rfl
  | 11,_=>by kernel_rfl
  | 12,_=>by kernel_rfl
  | 13,_=>by kernel_rfl
  | 14,_=>by kernel_rfl
  | 15,_=>by kernel_rfl
  | 16,_=>by kernel_rfl
  | 17,_=>by kernel_rfl
  | 18,_=>by kernel_rfl
  | 19,_=>by kernel_rfl
  | 20,_=>by kernel_rfl
  | 21,_=>by kernel_rfl
  | 22,_=>by kernel_rfl
  | 23,_=>by kernel_rfl
  | 24,_=>by kernel_rfl
  | 25,_=>by kernel_rfl
  | 26,_=>by kernel_rfl
  | 27,_=>by kernel_rfl
  | 28,_=>by kernel_rfl
  | 29,_=>by kernel_rfl
  | 30,_=>by kernel_rfl
  | n+31,h=>absurd h (by omega)
section
variable {w:World}
set_option maxHeartbeats 4000000 in
set_option maxRecDepth 20000 in
theorem prim_any (h:PT w) (s:ByteArray):Calls Tryz.prog 45 #[.string s] w fun e w'=>e = .returned (.tuple #[num (primO s),num (primK s),.bool (isPrim s)])∧MM.Far [] w w':=by
  obtain ⟨tt,fr,hg⟩:=h.obj;obtain ⟨cs,hcs⟩:∃ cs,primC.toArray=cs:=⟨_,rfl⟩
  have hsz:=primC_size;rw [hcs] at hg hsz;have HCS:=Lib.hid hcs;have hi:(Tryz.prog.info? 158).map (·.size)=some cs.size:=by rw [hsz];exact pt_size
  have HG:=Lib.hid hg;have HSZ:=Lib.hid hsz;have HI:=Lib.hid hi;clear hcs h hg hsz hi;go_enter Tryz.func45,Tryz.ntmps45
  go_wp2_with (first
    | (refine wpList_load_row rfl 158 (.global 1) rfl 1 rfl tt cs fr _ HG.out Tryz.underlying158 rfl HI.out ?_)
    | (refine wp_load_row 158 (.global 1) rfl 1 rfl tt cs fr _ HG.out Tryz.underlying158 rfl HI.out ?_))
  go_loopw [8] (fun s8 wr=>∃ k:Nat,k≤31∧s8 = .int .i64 (k:Int)∧Hid (MM.Far [] w wr∧∀ j,j+1 < k→primN.getD j emp≠s)) (fun s8 _=>31 - (intOf s8).toNat)
  case atStart=>exact ⟨0,by omega,rfl,Lib.hid ⟨MM.Far.refl _ _,fun j hj=>by omega⟩⟩
  case round =>
    obtain ⟨k,hk,rfl,hH⟩:=hrel;by_cases hlt:k < 31
    · have hi0:(0:Int)≤(k:Int):=by omega
      have hi1:(k:Int) < 31:=by omega
      have hidx:=fun W=>prim_ix W k hlt
      rw [HCS.out] at hidx;have HN:Hid (nmP k=if k=0 then emp else primN.getD (k - 1) emp):=Lib.hid rfl;have HK:Hid (mnP k=if k=0 then 0 else primM.getD (k - 1) 0):=Lib.hid rfl;generalize nmP k=x at *;generalize mnP k=y at *;by_cases hk0:k=0
      · have hg0:¬ (0:Int) < (k:Int):=by omega
        have HK0:=Lib.hid hk0;clear hk0 HN HK;go_wp2;go_roundw
        case rel=>exact ⟨k+1,by omega,by go_num,Lib.hid ⟨hH.out.1.alloc _,fun j hj=>by have:=HK0.out;omega⟩⟩
        case measure=>simp [intOf];omega
      · have hg0:(0:Int) < (k:Int):=by omega
        rw [if_neg hk0] at HN HK;by_cases hx:x=s
        · subst hx;go_wp2;go_quiet (fail)
          go_wp2;go_ret3
          have hpp:primO x=k∧primK x=y∧isPrim x=true:=by
            have hN:=HN.out;have hl:primN.length=30:=rfl;rw [List.getD_eq_getElem?_getD,List.getElem?_eq_getElem (by omega)] at hN;have hN:x=primN[k - 1]:=hN;have hm:x∈primN:=by rw [hN];exact List.getElem_mem _
            have hix:primN.idxOf x=k - 1:=by
              have hnd:primN.Nodup:=by decide
              rw [hN];exact hnd.idxOf_getElem _ _
            unfold primO primK isPrim;rw [if_pos hm,if_pos hm,decide_eq_true hm,hix,HK.out];exact ⟨by omega,rfl,rfl⟩
          rw [hpp.1,hpp.2.1,hpp.2.2];exact ⟨rfl,(hH.out.1.alloc _).drewN _⟩
        · have heq:(x.toList == s.toList)=false:=eq_no hx;go_wp2;go_roundw
          case rel =>
            refine ⟨k+1,by omega,by go_num,Lib.hid ⟨hH.out.1.alloc _,fun j hj=>?_⟩⟩
            by_cases e:j+1=k
            · have:=HN.out;rw [show k - 1=j by omega] at this;rw [← this];exact hx
            · exact hH.out.2 j (by omega)
          case measure=>simp [intOf];omega
    · obtain rfl:k=31:=by omega
      go_wp2;go_ret3
      refine ⟨?_,hH.out.1⟩
      have hno:s∉primN:=fun hm=>by
        obtain ⟨j,hj,e⟩:=List.getElem_of_mem hm;have hl:primN.length=30:=rfl;refine hH.out.2 j (by omega) ?_
        rw [List.getD_eq_getElem?_getD,List.getElem?_eq_getElem hj];exact e
      unfold primO primK isPrim;rw [if_neg hno,if_neg hno,decide_eq_false hno];rfl
end
end KW
end Go.Proofs.YtehgmmbdlnginaaGreatDoor
namespace Go.Proofs.YtehgmmbdlnginaaGreatDoor
open Go.RowKit
namespace KW
theorem same_int (n:Nat) (k:Int):Instr.sameBits n (.int .i64 k) (.int .i64 k)=true:=by
  unfold Instr.sameBits;simp
theorem far_blk (w:World) (q:Nat) (o:Obj):MM.Far [q] w { w with heap:=w.heap.setIfInBounds q o } :=
  ⟨rfl,rfl,rfl,by show w.heap.size≤(w.heap.setIfInBounds q o).size;rw [Array.size_setIfInBounds];exact Nat.le_refl _,fun b hb hn=>by show (w.heap.setIfInBounds q o)[b]? = _;rw [Array.getElem?_setIfInBounds_ne (fun e=>hn (by rw [e];exact List.mem_cons_self ..))]⟩
structure MapI (w:World) (mb:Nat) (c:Int→Option Int):Prop where
  has:∃ es clock,w.heap[mb]? = some (.map es clock)∧MapKept.Stamped es clock∧(∀ x∈es.toList,∃ k v,x.key = .int .i64 k∧x.val = .int .i64 v∧c k=some v)∧∀ k v,c k=some v→∃ x∈es.toList,x.key = .int .i64 k
theorem MapI.lt {w:World} {mb:Nat} {c:Int→Option Int} (h:MapI w mb c):mb < w.heap.size:=by
  obtain ⟨es,clock,hb,_⟩:=h.has;exact (Array.getElem?_eq_some_iff.1 hb).1
theorem MapI.far {w w':World} {mb:Nat} {c:Int→Option Int} {S:List Nat} (h:MapI w mb c) (f:MM.Far S w w') (hS:mb∉S):MapI w' mb c:=by
  have hlt:=h.lt;obtain ⟨es,clock,hb,hst,h1,h2⟩:=h.has;exact ⟨es,clock,(f.block mb hlt hS).trans hb,hst,h1,h2⟩
theorem MapI.new (w:World):MapI (w.alloc (.map #[] 0)) w.heap.size (fun _=>none):=⟨#[],0,by show (w.heap.push _)[w.heap.size]? = _;simp,MapKept.stamped_empty 0,(fun x hx=>absurd hx (by simp)),fun k v h=>by cases h⟩
set_option maxRecDepth 50000 in
theorem MapI.look {w:World} {mb:Nat} {c:Int→Option Int} (h:MapI w mb c) (k:Int):(Instr.lookup 66 (.map (some mb)) (.int .i64 k) true).run Tryz.prog w = .ok (.tuple #[.int .i64 ((c k).getD 0),.bool (c k).isSome]) w:=by
  obtain ⟨es,clock,hb,-,h1,h2⟩:=h.has;have hm:=Tryz.underlying66;have hk:=Tryz.underlying3;have hkey:MapKept.IsKey (.int .i64) (.int .i64 k):=by simp [MapKept.IsKey]
  have hc:=MapKept.run_checkKey (w:=w) hk hkey es.isEmpty 9999;have hall:∀ x∈es.toList,MapKept.IsKey (.int .i64) x.key:=fun x hx=>by
    obtain ⟨k',v',e,_⟩:=h1 x hx;rw [e];simp [MapKept.IsKey]
  have hz:(zeroValue 3).run Tryz.prog w = .ok (.int .i64 0) w:=by kernel_rfl
  rcases MapKept.findNow_spec hkey es.toList 0 hall with ⟨g1,g2⟩ | ⟨j,e,g1,g2,g3⟩
  · have hc0:c k=none:=by
      cases hck:c k with
      | none=>rfl
      | some v =>
        obtain ⟨x,hx,ex⟩:=h2 k v hck;exact absurd ex (g2 x hx)
    rw [hc0];simp [Instr.lookup,run_underlying hm,MapKept.run_getObj_map hb,hc,MapKept.run_findKey hk g1,Result.andThen,hz]
  · obtain ⟨k',v',e1,e2,e3⟩:=h1 e (List.mem_of_getElem? g2);rw [g3] at e1;injection e1 with _ e1;subst e1;rw [e3];simp [Instr.lookup,run_underlying hm,MapKept.run_getObj_map hb,hc,MapKept.run_findKey hk g1,Result.andThen,e2]
set_option maxRecDepth 50000 in
theorem MapI.up {w:World} {mb:Nat} {c:Int→Option Int} (h:MapI w mb c) (k:Int) (m:Int):∃ w',(Instr.mapUpdate 66 (.map (some mb)) (.int .i64 k) (.int .i64 m)).run Tryz.prog w = .ok () w'∧MapI w' mb (fun x=>if x=k then some m else c x)∧MM.Far [mb] w w':=by
  obtain ⟨es,clock,hb,hst,h1,h2⟩:=h.has;have hlt:=h.lt;have hm:=Tryz.underlying66;have hk:=Tryz.underlying3;have hkey:MapKept.IsKey (.int .i64) (.int .i64 k):=by simp [MapKept.IsKey]
  have hc:=MapKept.run_checkKey (w:=w) hk hkey false 9999;have hall:∀ x∈es.toList,MapKept.IsKey (.int .i64) x.key:=fun x hx=>by
    obtain ⟨k',v',e,_⟩:=h1 x hx;rw [e];simp [MapKept.IsKey]
  have fin:∀ (es':Array MapEntry) (clock':Nat),MapKept.Stamped es' clock'→(∀ x∈es'.toList,(x∈es.toList∧x.key≠.int .i64 k)∨(x.key = .int .i64 k∧x.val = .int .i64 m))→(∃ x∈es'.toList,x.key = .int .i64 k)→(∀ y,(∃ x∈es.toList,x.key=y)→∃ x∈es'.toList,x.key=y) →
      MapI { w with heap:=w.heap.setIfInBounds mb (.map es' clock') } mb (fun x=>if x=k then some m else c x):=by
    intro es' clock' u0 u1 u2 u3;refine ⟨es',clock',by show (w.heap.setIfInBounds mb _)[mb]? = _;rw [Array.getElem?_setIfInBounds_self_of_lt hlt],u0,fun x hx=>?_,fun y v hy=>?_⟩
    · rcases u1 x hx with ⟨hx,hne⟩ | ⟨e1,e2⟩
      · obtain ⟨k',v',e1,e2,e3⟩:=h1 x hx;refine ⟨k',v',e1,e2,?_⟩
        have:k'≠k:=fun e=>hne (by rw [e1,e])
        simp only [if_neg this]
        exact e3
      · exact ⟨k,m,e1,e2,by simp only [if_true]⟩
    · by_cases e:y=k
      · subst e;exact u2
      · simp only [if_neg e] at hy
        exact u3 _ (h2 y v hy)
  rcases MapKept.findNow_spec hkey es.toList 0 hall with ⟨g1,g2⟩ | ⟨j,e,g1,g2,g3⟩
  · refine ⟨_,?_,fin (es.push { key:=.int .i64 k,val:=.int .i64 m,born:=clock }) (clock+1) (MapKept.stamped_push hst g2) (fun x hx=>?_) ⟨{ key:=.int .i64 k,val:=.int .i64 m,born:=clock },by simp,rfl⟩ (fun y ⟨x,hx,e⟩=>⟨x,by simp [hx],e⟩),far_blk _ _ _⟩
    · simp [Instr.mapUpdate,run_underlying hm,MapKept.run_getObj_map hb,hc,MapKept.run_findKey hk g1,MapKept.run_setObj_map _ hb,Result.andThen]
    · simp only [Array.toList_push,List.mem_append,List.mem_singleton] at hx
      rcases hx with hx | rfl
      · exact .inl ⟨hx,g2 x hx⟩
      · exact .inr ⟨rfl,rfl⟩
  · have hej:es[j]? = some e:=by rw [Array.getElem?_toList] at g2;simpa using g2
    have hN:=hst.2.2;refine ⟨_,?_,fin (es.modify j fun e=>{ e with key:=.int .i64 k,val:=.int .i64 m }) clock (MapKept.stamped_modify hst j _ (fun _ _=>rfl) (fun e' _ he'=>by rw [hej] at he';injection he' with he';subst he';exact g3.symm)) (fun x hx=>?_) ?_ (fun y ⟨x,hx,ek⟩=>?_),far_blk _ _ _⟩
    · simp [Instr.mapUpdate,run_underlying hm,MapKept.run_getObj_map hb,hc,MapKept.run_findKey hk g1,MapKept.run_setObj_map _ hb,Result.andThen,hej,g3,Instr.keyThatStays,same_int]
    · obtain ⟨i,hi⟩:=List.getElem?_of_mem hx;rw [Array.getElem?_toList,Array.getElem?_modify] at hi;split at hi
      · rename_i hji;subst hji;rw [hej] at hi;injection hi with hi;exact .inr (by rw [← hi];exact ⟨rfl,rfl⟩)
      · rename_i hji;refine .inl ⟨List.mem_of_getElem? (by rw [Array.getElem?_toList];exact hi),fun hxk=>hji ?_⟩
        have hi':(es.toList.map (·.key))[i]? = some (.int .i64 k):=by rw [List.getElem?_map,Array.getElem?_toList,hi];exact congrArg some hxk
        have hj':(es.toList.map (·.key))[j]? = some (.int .i64 k):=by rw [List.getElem?_map,Array.getElem?_toList,hej];exact congrArg some g3
        have l1:=(List.getElem?_eq_some_iff.1 hi').1;exact ((List.getElem?_inj l1 hN).1 (hi'.trans hj'.symm)).symm
    · refine ⟨{ e with key:=.int .i64 k,val:=.int .i64 m },?_,rfl⟩
      refine List.mem_of_getElem? (i:=j) ?_
      rw [Array.getElem?_toList,Array.getElem?_modify,if_pos rfl,hej];rfl
    · obtain ⟨i,hi⟩:=List.getElem?_of_mem hx;rw [Array.getElem?_toList] at hi;by_cases hij:j=i
      · subst hij;rw [hej] at hi;injection hi with hi;subst hi;refine ⟨{ e with key:=.int .i64 k,val:=.int .i64 m },?_,?_⟩
        · refine List.mem_of_getElem? (i:=j) ?_
          rw [Array.getElem?_toList,Array.getElem?_modify,if_pos rfl,hej];rfl
        · rw [← ek,g3]
      · refine ⟨x,List.mem_of_getElem? (i:=i) ?_,ek⟩
        rw [Array.getElem?_toList,Array.getElem?_modify,if_neg hij];exact hi
end KW
end Go.Proofs.YtehgmmbdlnginaaGreatDoor
namespace Go.Proofs.YtehgmmbdlnginaaGreatDoor
open Go.RowKit
set_option linter.unusedVariables false
namespace KP
def opN (k:Nat):Int:=if k < 17 then (k:Int)+1 else (k:Int)+2
def arK (k:Nat) (x:Int):Option Int:=if 1≤x∧x≠18∧x < opN k then some (manyL.getD x.toNat 0) else none
theorem arK_zero (x:Int):arK 0 x=none:=by unfold arK opN;rw [if_neg (by simp;omega)]
theorem arK_all (x:Int):arK 29 x=arity x:=by
  unfold arK arity opN;by_cases h:1≤x∧x≤30∧x≠18
  · rw [if_pos h,if_pos (by simp;omega)]
  · rw [if_neg h,if_neg (by simp;omega)]
theorem arK_step (k:Nat) (hk:k < 29) (x:Int):(if x=opN k then some (manyL.getD (opN k).toNat 0) else arK k x)=arK (k+1) x:=by
  unfold arK;by_cases h:x=opN k
  · subst h;rw [if_pos rfl,if_pos];unfold opN;split <;> split <;> omega
  · rw [if_neg h];by_cases h2:1≤x∧x≠18∧x < opN k
    · rw [if_pos h2,if_pos];refine ⟨h2.1,h2.2.1,?_⟩
      have:=h2.2.2;unfold opN at *;split at this <;> split <;> omega
    · rw [if_neg h2,if_neg];rintro ⟨a,b,c⟩;apply h2
      refine ⟨a,b,?_⟩
      unfold opN at *;split at h <;> split at c <;> simp_all <;> omega
theorem wor_prim:∀ k,k < 29→isPrim (wor k)=true∧((primO (wor k):Nat):Int)=opN k∧((primK (wor k):Nat):Int)=manyL.getD (opN k).toNat 0:=by decide +kernel
end KP
namespace KW
open KP
theorem tex_const:(⟨(([43,32,45,32,42,32,113,117,111,116,105,101,110,116,32,114,101,109,97,105,110,100,101,114,32,60,32,61,32,101,113,63,32,110,111,116,32,110,117,108].append [108,63,32,112,97,105,114,63,32,99,111,110,115,32,99,97,114,32,99,100,114,32,110,117,109,98,101,114,63,32,115,121,109,98,111,108,63,32,112,114]).append ([111,99,101,100,117,114,101,63,32,111,117,116,32,115,112,97,119,110,32,109,105,99,114,111,32,97,102,116,101,114,32,99,97,110,99,101,108,32,112,114].append [111,109,105,115,101,32,115,101,116,116,108,101,32,116,104,101,110,32,115,116,114,101,97,109,32,119,114,105,116,101,32,114,101,97,100,32,116,105,109,101])).toArray⟩:ByteArray)=tex:=by kernel_rfl
set_option maxHeartbeats 4000000 in
set_option maxRecDepth 20000 in
theorem arities_any (w:World) (hA:AT w) (hP:PT w):Calls Tryz.prog 25 #[] w fun e w'=>∃ mb,e = .returned (.map (some mb))∧MapI w' mb arity∧w.heap.size≤mb∧MM.Far [] w w':=by
  have HA:=Lib.hid hA;have HP:=Lib.hid hP;clear hA hP;have F1:=Lib.hid ((MM.Far.refl [] w).alloc (.map #[] 0));have HM0:=Lib.hid (MapI.new w);have HC:=Lib.hid tex_const;have HFL:=Lib.hid (fun W (h:AT W)=>fields_any W h);go_enter Tryz.func25,Tryz.ntmps25
  have hmm:=@run_makeMap Tryz.prog
  go_wp2_with (first
    | (go_at_call 44
       (try rw [HC.out])
       refine (HFL.out _ (HA.out.far F1.out)).mono ?_
       rintro e w2 ⟨g,rfl,hr,hg,hF⟩;have HR:=Lib.hid hr;have HF2:=Lib.hid (F1.out.trans hF (by simp));have HM2:=Lib.hid (HM0.out.far hF (by simp));have hg2:w.heap.size+1≤g:=by simpa using hg
       clear hr hF hg))
  have HM3:Hid (MapI w2 w.heap.size (arK 0)):=Lib.hid (by
    have e:(fun _:Int=>(none:Option Int))=arK 0:=funext fun x=>(arK_zero x).symm
    rw [← e];exact HM2.out)
  have F0:Hid (MM.Far [] w w2):=HF2;clear hmm HM2 HF2 HM0;obtain ⟨mb,hmb⟩:∃ mb,w.heap.size=mb:=⟨_,rfl⟩
  rw [hmb] at HM3 hg2;rw [hmb];have HMB:=Lib.hid hmb;clear hmb;have HW:=Lib.hid (fun k hk=>wor_prim k hk)
  go_loopw [10] (fun s10 wr=>∃ k:Nat,k≤29∧s10=num k∧Hid (MapI wr mb (arK k))∧Hid (MM.Row wr g 9 (rowL 29))∧Hid (MM.Far [] w wr)) (fun s10 _=>29 - (intOf s10).toNat)
  case atStart=>exact ⟨0,by omega,rfl,HM3,HR,F0⟩
  case round =>
    obtain ⟨k,hk,rfl,HMk,HRk,HFk⟩:=hrel;by_cases hlt:k < 29
    · have hck:wr.cell? ⟨g,k,none⟩=some (.string (wor k)):=HRk.out.at (row_str 29 k hlt hlt);obtain ⟨p1,p2,p3⟩:=HW.out k hlt;have HPc:=Lib.hid (fun W (h:PT W)=>prim_any h (wor k));rw [p1] at HPc;rw [p2,p3] at HPc;have HST:=Lib.hid (fun x=>arK_step k hlt x);generalize wor k=wd at *;generalize opN k=op at *;generalize manyL.getD op.toNat 0=mn at *;clear p1 p2 p3;have hgr:=HRk.out.lt
      go_wp2_with (first
        | (go_at_call 45
           refine (HPc.out _ (HP.out.far HFk.out)).mono ?_
           rintro e w4 ⟨rfl,hF4⟩;obtain ⟨w5,hup,hM5,hF5⟩:=(HMk.out.far hF4 (by simp)).up op mn;have HM5:Hid (MapI w5 mb (arK (k+1))):=Lib.hid (by
             have e:(fun x=>if x=op then some mn else arK k x)=arK (k+1):=funext HST.out;rw [← e];exact hM5)
           have HR5:=Lib.hid ((HRk.out.far hF4 (by simp)).far hF5 (by simp;omega));have HF5:=Lib.hid ((HFk.out.trans hF4 (by simp)).trans hF5 (fun b h1 h2=>by have:=HMB.out;simp at h1;omega));clear hM5 hF4 hF5))
      go_roundw
      case rel=>exact ⟨k+1,by omega,by go_num,HM5,HR5,HF5⟩
      case measure=>simp [intOf];omega
    · obtain rfl:k=29:=by omega
      go_wp2_with (fail)
      go_ret
      refine ⟨mb,rfl,?_,by rw [HMB.out];exact Nat.le_refl _,HFk.out⟩
      have e:arK 29=arity:=funext arK_all;rw [← e];exact HMk.out
end KW
end Go.Proofs.YtehgmmbdlnginaaGreatDoor
