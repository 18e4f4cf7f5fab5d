/-
  P7.2's law: a word as text is the document's. Conditions: the arguments' reading; the numbers' table.
-/
import Derived.Test.YtbglcdjimipeeaaGreatDoorShowRefW
import Derived.Test.YtbglcdjimipeeaaGreatDoorShowShown
import Derived.Test.YtbglcdjimipeeaaGreatDoorShowThing
import Derived.Test.YtbglcdjimipeeaaGreatDoorArenaSt
import Derived.Test.YtbglcdjimipeeaaGreatDoorRefAll
import Derived.Test.YtbglcdjimipeeaaGreatDoorNamesLaws1
import Derived.Test.YtbglcdjimipeeaaGreatDoorReadStr
import Derived.Deep.RegionHeld3
import Derived.IntWalk
namespace Go.Proofs.YtbglcdjimipeeaaGreatDoor
open Go.RowKit
set_option linter.unusedVariables false
namespace SW
open LX SX
theorem nms_of {w : World} {g : Nat} {S : List Nat} {L : List ByteArray} {mv sv : Value} (h : NW.Nm w g S L mv sv) : Nms w (NW.ptr g) (NP.textS L) (NP.textB L) := by
  refine ⟨fun i => ?_, fun wx f i => NW.text_any (h.nil f) i⟩
  unfold NP.textS
  split
  · rw [List.getD_eq_getElem?_getD]
    rename_i hi
    rw [List.getElem?_eq_getElem (show i.toNat < L.length by omega)]
    have := (h.ok.each _ (List.getElem_mem (show i.toNat < L.length by omega))).2
    simp only [Option.getD_some]
    omega
  · exact Nat.zero_le _
theorem rnm_of {w : World} {base : Nat} {L : List ByteArray} {v : Value} (hok : NP.Ok L) (h : w.ownsRow base 9 1 v L.length (NW.strs L)) : RNm w v (NP.textS L) (NP.textB L) := by
  refine ⟨fun i => ?_, fun wx f i => (NW.rtext_any (MM.own_far h f (by simp)) i hok.len).mono fun e w' ⟨a, b⟩ => ⟨a, b ▸ MM.Far.refl [] _⟩⟩
  unfold NP.textS
  split
  · rw [List.getD_eq_getElem?_getD]
    rename_i hi
    rw [List.getElem?_eq_getElem (show i.toNat < L.length by omega)]
    have := (hok.each _ (List.getElem_mem (show i.toNat < L.length by omega))).2
    simp only [Option.getD_some]
    omega
  · exact Nat.zero_le _
/-- The things made of the first k. -/
def tsOf : List Tg → List AP.Th → List AP.Th
  | [], ts => ts
  | t :: tl, ts => tsOf tl (AW.allT 1000 ts t.k (t.zs.take 9))
/-- Where things lie. -/
structure LayW (w : World) (base p g h q gn : Nat) : Prop where
  lay : AL.Lay w base base p g h q
  wn : w.heap.size ≤ gn
  nB : gn < base
  nn : gn ≠ p ∧ gn ≠ g ∧ gn ≠ h ∧ gn ≠ q
structure Mk (w : World) (base p g h q gn : Nat) (ts : List AP.Th) (wr : World) : Prop where
  ar : AW.Ar wr p g h 1000 ts
  rr : ∃ v hs, RW.Rr wr base q 1000 v ts hs
  nm : NW.Nm wr gn [gn] [] (.map none) (.slice none 0 0)
  far : MM.Far [] w wr
  size : base ≤ wr.heap.size
theorem Mk.new {w wr w' : World} {base p g h q gn : Nat} {ts : List AP.Th} (s : Mk w base p g h q gn ts wr) (f : MM.Far [] wr w') : Mk w base p g h q gn ts w' := by
  obtain ⟨v, hs, hr⟩ := s.rr
  exact ⟨s.ar.far f (by simp) (by simp) (by simp), ⟨v, hs, hr.far f (by simp)⟩, s.nm.nil f, s.far.trans f (by simp), by have := f.size; have := s.size; omega⟩
theorem Mk.both {w wr w1 w2 : World} {base p g h q gn : Nat} {ts T : List AP.Th} (L : LayW w base p g h q gn) (s : Mk w base p g h q gn ts wr) (a : AW.Ar w1 p g h 1000 T) (fa : MM.Far [p, g, h] wr w1) {v' : Value} {hs' : List Value} (r : RW.Rr w2 base q 1000 v' T hs') (fr : RW.Fr q base w1 w2) : Mk w base p g h q gn T w2 := by
  have n1 : NW.Nm w1 gn [gn] [] (.map none) (.slice none 0 0) := s.nm.far fa (fun b hb => by
    have := L.nn
    simp at hb ⊢
    omega)
  refine ⟨AL.ar_r L.lay a fr, ⟨v', hs', r⟩, ?_, AL.far_r L.lay (AL.far_a L.lay s.far fa) fr, by have := fa.size; have := fr.size; have := s.size; omega⟩
  obtain ⟨S, f, hS⟩ := fr
  refine n1.far f (fun b hb hm => ?_)
  have hb : b = gn := by simpa using hb
  subst hb
  have h1 := L.nn
  have h2 := L.nB
  have := hS _ hm
  omega
theorem strcutn_run (s : ByteArray) (q : Nat) (hq : q ≤ s.size) (W : World) : (Instr.slice 9 (.string s) none (some (.int .i64 (q : Int))) none).run Tryz.prog W = .ok (.string (s.extract 0 q)) W := by
  simp [Instr.slice, Instr.sliceBounds, Instr.sliceBound, asIntOf, run_underlying Tryz.underlying9]
  intro h
  omega
theorem src_pgh {w wx : World} {p g h : Nat} {A : Option Addr} {l c : Nat} {zs : List Int} (hz : MR.Ints .u64 w A l c zs) (hF : MM.Far [] w wx) (hp : w.heap.size ≤ p) (hg : w.heap.size ≤ g) (hh : w.heap.size ≤ h) : MM.Src wx [p, g, h] A (AW.U64s (zs.take 9)) := fun hpos => by
  obtain ⟨ad, e, h1, h2, h3⟩ := AL.take_src hz (MM.Far.refl [] w) 9 hpos
  obtain ⟨ad', e', h1', h2', h3'⟩ := AL.take_src hz hF 9 hpos
  obtain rfl : ad = ad' := Option.some.inj (e.symm.trans e')
  refine ⟨ad, e', ?_, h2', h3'⟩
  simp only [List.mem_cons, List.not_mem_nil, or_false]
  omega
theorem fcell_at {S : List Nat} {w w' : World} {p : Addr} {v : Value} (hF : MM.Far S w w') (hn : p.block ∉ S) (h : w.cell? p = some v) : w'.cell? p = some v := (hF.cell (World.block_lt_of_cell? w _ h) hn).trans h
theorem row_fr {q base : Nat} {w w' : World} {xb : Nat} {l : List Value} (hx : MM.Row w xb 43 l) (hq : xb ≠ q) (f : RW.Fr q base w w') : MM.Row w' xb 43 l := by
  obtain ⟨S, f, hS⟩ := f
  refine hx.far f (fun hm => ?_)
  rcases hS _ hm with e | ⟨_, e⟩
  · exact hq e
  · rcases e _ _ hx with e | e
    · revert e; decide
    · revert e; decide
theorem nxt_far {w w' : World} {g : Nat} {S : List Nat} {L : List ByteArray} (h : NW.Nxt w g S L w') : MM.Far S w w' := by
  obtain ⟨_, _, _, _, h, _⟩ := h
  exact h
theorem puts_keep {l : List ByteArray} {gn j : Nat} {w4 wr w5 : World} {v i : Value} {S : List Nat} {L : List ByteArray} (hj : j < l.length) (hS : ∀ b, b ∈ S → b = gn ∨ w4.heap.size ≤ b) (hvS : ∀ b, v.ownBlock = some b → b ∉ S ∧ w4.heap.size ≤ b)
    (hown : wr.ownsRow 0 9 1 v L.length (NW.strs L)) (hF : MM.Far [gn] w4 wr) (hT : NP.all (l.take (j + 1)) = L) (hN : NW.Nxt wr gn S L w5) (hi : i = .int .i64 ((j + 1 : Nat) : Int)) : NW.Puts l gn w4 v i w5 := by
  obtain ⟨S4, mv4, sv4, hN4, hF4, hS4⟩ := hN
  have kr := hF.size
  refine ⟨j + 1, hj, hi, ?_⟩
  rw [hT]
  refine ⟨S4, mv4, sv4, hN4, fun x hx => ?_, MM.own_far hown hF4 (fun x hx => (hvS x hx).1), fun x hx => ⟨fun hm => ?_, (hvS x hx).2⟩, hF.trans hF4 (fun x hx hl => ?_)⟩
  · rcases hS4 x hx with h | h
    · exact hS x h
    · right; omega
  · rcases hS4 x hm with h' | h'
    · exact (hvS x hx).1 h'
    · have := (MM.own_lt hown x hx).1; omega
  · rcases hS x hx with h | h
    · simp [h]
    · omega
theorem puts_more {l : List ByteArray} {gn j : Nat} {w4 wr w5 w6 : World} {v v6 i : Value} {S : List Nat} {L : List ByteArray} {s : ByteArray} {o : Obj} (hj : j < l.length) (hS : ∀ b, b ∈ S → b = gn ∨ w4.heap.size ≤ b) (hvS : ∀ b, v.ownBlock = some b → b ∉ S ∧ w4.heap.size ≤ b)
    (hown : wr.ownsRow 0 9 1 v L.length (NW.strs L)) (hF : MM.Far [gn] w4 wr) (hT : NP.all (l.take (j + 1)) = L ++ [s]) (hN : NW.Nxt wr gn S (L ++ [s]) w5) (hi : i = .int .i64 ((j + 1 : Nat) : Int))
    (o6 : w6.ownsRow 0 9 1 v6 (L.length + 1) (NW.strs L ++ [.string s])) (hg : (w5.alloc o).grownBy w6 v.ownBlock) (hl : v6.ownBlock = v.ownBlock ∨ v6.ownBlock = some (w5.alloc o).heap.size) : NW.Puts l gn w4 v6 i w6 := by
  obtain ⟨S4, mv4, sv4, hN4, hF4, hS4⟩ := hN
  have kr := hF.size
  have k4 := hF4.size
  have F6 : MM.Far v.ownBlock.toList (w5.alloc o) w6 := MM.Far.of_grown (S := v.ownBlock.toList) hg (fun b hb _ => by simp [hb])
  have hv4 : ∀ x, v.ownBlock = some x → x ∉ S4 := fun x hx hm => by
    rcases hS4 x hm with h' | h'
    · exact (hvS x hx).1 h'
    · have := (MM.own_lt hown x hx).1; omega
  refine ⟨j + 1, hj, hi, ?_⟩
  rw [hT]
  refine ⟨S4, mv4, sv4, (hN4.nil ((MM.Far.refl [] w5).alloc o)).far F6 (fun b hb hm => hv4 b (by simpa using hm) hb), fun x hx => ?_, ?_, fun x hx => ?_, ((hF.trans hF4 (fun x hx hl => ?_)).alloc o).trans F6 (fun x hx hl => ?_)⟩
  · rcases hS4 x hx with h | h
    · exact hS x h
    · right; omega
  · rw [List.length_append, List.length_singleton]
    simpa [NW.strs] using o6
  · rcases hl with e | e
    · rw [e] at hx
      exact ⟨hv4 x hx, (hvS x hx).2⟩
    · rw [e] at hx
      simp at hx
      refine ⟨fun hm => ?_, by omega⟩
      have := hN4.lt x hm
      omega
  · rcases hS x hx with h | h
    · simp [h]
    · omega
  · have := (hvS x (by simpa using hx)).2
    omega
def cut32 (s : ByteArray) : ByteArray := s.extract 0 (min s.size 32)
theorem alloc_w {W wx : World} {p g h n : Nat} {ts T : List AP.Th} (hA : AW.Ar W p g h n ts) (f : MM.Far [] W wx) (k : Int) (A : Option Addr) (m c : Nat) (fs : List Int) (hm : fs.length = m) (hm3 : m ≤ 9223372036854775807) (hu : ∀ x ∈ fs, WP.U x) (hT : AW.allT n ts k fs = T) (hs : MM.Src wx [p, g, h] A (AW.U64s fs)) :
    Calls Tryz.prog 17 #[AW.ptr p, .int .i64 k, .slice A m c] wx fun e w' => e = .returned (.tuple #[.int .u64 (AW.allW n ts k m), .int .i64 (AW.allE n ts k m)]) ∧ AW.Ar w' p g h n T ∧ MM.Far [p, g, h] W w' :=
  (AW.alloc_to (hA.far f (by simp) (by simp) (by simp)) k A m c fs _ _ _ hm hm3 hu rfl rfl hT hs).mono fun _ _ ⟨he, h1, h2⟩ => ⟨he, h1, (f.mono (by simp)).trans h2 (fun _ h _ => h)⟩
theorem ralloc_w {W wx : World} {base q n : Nat} {v : Value} {ts T : List AP.Th} {hs : List Value} (hR : RW.Rr W base q n v ts hs) (hb : base ≤ W.heap.size) (f : MM.Far [] W wx) (k : Int) (A : Option Addr) (m c : Nat) (fs : List Int) (hm : fs.length = m) (hm3 : m ≤ 9223372036854775807) (hu : ∀ x ∈ fs, WP.U x) (hT : AW.allT n ts k fs = T) (hnil : A = none → c = 0 ∧ m = 0) (hs : MM.Src wx [] A (AW.U64s fs)) :
    Calls Tryz.prog 18 #[AW.ptr q, .int .i64 k, .slice A m c] wx fun e w' => e = .returned (.tuple #[.int .u64 (AW.allW n ts k m), .int .i64 (AW.allE n ts k m)]) ∧ ∃ v' hs', RW.Rr w' base q n v' T hs' ∧ RW.Fr q base W w' := by
  subst hT
  exact (RW.ralloc_len (hR.far f (by simp)) (by have := f.size; omega) k A m c fs hm hm3 hu hnil hs).mono fun _ _ ⟨he, v', hs', h1, h2⟩ => ⟨he, v', hs', h1, (RW.Fr.of_nil f).trans h2⟩
set_option maxHeartbeats 4000000 in
set_option maxRecDepth 20000 in
theorem words_law (a : Option Addr) (len cap : Nat) (tl : List Tg) (b : Option Addr) (lenb capb : Nat) (zs : List ByteArray) (x : Int) (w : World) (hz : Tgs w a len cap tl) (hl : MR.Strs w b lenb capb zs) (hx : WP.U x) (hT : Tab w) :
    Calls Tryz.prog 4 #[.slice a len cap, .slice b lenb capb, .int .u64 x] w fun e w' => e = .returned (.bool true) ∧ Below w.heap.size w w' := by
  have HS := Lib.hid (shown_any w hT)
  have HT := Lib.hid hT
  have HZ := Lib.hid hz
  have HB := Lib.hid hl
  have HX := Lib.hid hx
  have hle := hz.le
  have hmax := hz.max
  have hle2 := hl.le
  have hmax2 := hl.max
  unfold maxLen at hmax hmax2
  clear hz hl hx hT
  go_enter Tryz.func4, Tryz.ntmps4
  go_wp2_with (first
    | (go_at_call 13; (with_reducible refine HS.out.mono ?_); rintro e w0 ⟨rfl, hF0⟩; have HF0 := Lib.hid hF0; clear hF0)
    | (go_at_call 14; (refine (AW.new_int _ 1000 (by omega) (by omega)).mono ?_); rintro e w1 ⟨p, g, h, rfl, hp, hg, hh, hA1, hF1⟩
       have HA1 := Lib.hid (show AW.Ar w1 p g h 1000 [] from hA1)
       have HF1 := Lib.hid (HF0.out.trans hF1 (by simp))
       have HPG := Lib.hid (show (w.heap.size ≤ p ∧ w.heap.size ≤ g ∧ w.heap.size ≤ h) ∧ p < w1.heap.size ∧ g < w1.heap.size ∧ h < w1.heap.size from ⟨by have := HF0.out.size; omega, hA1.head.lt, hA1.words.lt, hA1.kinds.lt⟩)
       clear hA1 hF1 hp hg hh)
    | (go_at_call 15; (refine (RW.rnew_ok _ 0 1000 (by omega) (by omega)).mono ?_); rintro e w2 ⟨q, rfl, hq, hR2, hF2⟩
       have HF2 := Lib.hid hF2
       have HQ := Lib.hid (And.intro hq hR2.head.lt)
       have HR2 := Lib.hid hR2.head
       clear hF2 hq hR2)
    | (go_at_call 16; (refine (NW.new_any _).mono ?_); rintro e w3 ⟨gn, rfl, hgn, hN3, hF3⟩
       have HF3 := Lib.hid hF3
       have HN3 := Lib.hid hN3
       have HGN := Lib.hid hgn
       clear hF3 hN3 hgn))
  obtain ⟨base, hbase⟩ : ∃ base, w3.heap.size = base := ⟨_, rfl⟩
  have hLW : LayW w base p g h q gn := by
    obtain ⟨⟨a1, a2, a3⟩, a4, a5, a6⟩ := HPG.out
    obtain ⟨b1, b2⟩ := HQ.out
    have c1 := HF1.out.size
    have c2 := HF2.out.size
    have c3 := HF3.out.size
    have c4 := HN3.out.head.lt
    have c5 := HGN.out
    exact ⟨⟨a1, a2, a3, by omega, by omega, by omega, by omega, by omega, Nat.le_refl _, by omega, by omega, by omega⟩, by omega, by omega, by omega, by omega, by omega, by omega⟩
  have HLW := Lib.hid hLW
  have HM0 : Hid (Mk w base p g h q gn [] w3) := Lib.hid ⟨(HA1.out.far HF2.out (by simp) (by simp) (by simp)).far HF3.out (by simp) (by simp) (by simp),
    ⟨.slice none 0 0, [], AW.ok_nil 1000 (by omega), HR2.out.far HF3.out (by simp), MO.none_ _ _ _ _, MN.Kids.nil _ _ _⟩, HN3.out, (HF1.out.trans HF2.out (by simp)).trans HF3.out (by simp), by omega⟩
  clear hLW hbase HA1 HF1 HPG HF2 HQ HR2 HF3 HN3 HGN HF0
  obtain ⟨TS, hTS⟩ : ∃ TS, tsOf (tl.take 60) [] = TS := ⟨_, rfl⟩
  go_loopw [46] (fun s46 wr => ∃ k : Nat, k ≤ len ∧ s46 = .int .i64 k ∧ ∃ ts, Hid (Mk w base p g h q gn ts wr) ∧ Hid (tsOf ((tl.drop k).take (60 - k)) ts = TS)) (fun s46 _ => len - (intOf s46).toNat)
  case atStart => exact ⟨0, by omega, rfl, [], HM0, Lib.hid hTS⟩
  case round =>
    obtain ⟨k, hk, rfl, ts, hM, hE⟩ := hrel
    clear HM0 hTS
    by_cases hlt : k < len
    · have hkl : k < tl.length := by rw [HZ.out.len_]; exact hlt
      obtain ⟨tb, off, rfl, htb, hcells, hok⟩ := HZ.out.elems k _ (List.getElem?_eq_getElem hkl)
      have hc : ∀ (j : Nat) (u : Value), (tl[k]).cells[j]? = some u → wr.cell? ⟨tb, off + k * 2 + j, none⟩ = some u := by
        intro j u hu
        rw [hM.out.far.cell (p := ⟨tb, off + k * 2 + j, none⟩) htb (by simp)]
        exact hcells j u hu
      have hD : tl.drop k = tl[k] :: tl.drop (k + 1) := List.drop_eq_getElem_cons hkl
      generalize tl[k] = t at *
      obtain ⟨kd, A, n2, c, fs0⟩ := t
      have h0 := hc 0 _ rfl
      have h1 := hc 1 _ rfl
      rw [Nat.add_zero] at h0
      have hIle := hok.hz.le
      have hImx := hok.hz.max
      have hInil := hok.hz.nil
      unfold maxLen at hImx
      simp only at h0 h1 hIle hImx hInil
      have HI := Lib.hid hok.hz
      clear hc hcells hok hkl
      by_cases h60 : k < 60
      · obtain ⟨T, hTT⟩ : ∃ T, AW.allT 1000 ts kd (fs0.take 9) = T := ⟨_, rfl⟩
        have HE2 : Hid (tsOf ((tl.drop (k + 1)).take (60 - (k + 1))) T = TS) := Lib.hid (by
          have := hE.out
          rw [hD, show 60 - k = (60 - (k + 1)) + 1 by omega, List.take_succ_cons] at this
          rw [← hTT]
          exact this)
        clear hE hD
        obtain ⟨m, hm⟩ : ∃ m, m = min n2 9 := ⟨_, rfl⟩
        have hm1 : m ≤ n2 := by omega
        have hm9 : m ≤ 9 := by omega
        have hfl : (fs0.take 9).length = m := by rw [List.length_take, HI.out.len_]; simp only; omega
        have hfu : ∀ x ∈ fs0.take 9, WP.U x := fun x hx => AL.u_of (HI.out.wf x (List.mem_of_mem_take hx))
        have f1 : (if (9 : Int) < (n2 : Int) then (9 : Int) else (n2 : Int)) = (m : Int) := by split <;> omega
        have f3 : min (n2 : Int) 9 = (m : Int) := by omega
        obtain ⟨bx, hbx⟩ : ∃ bx, wr.heap.size = bx := ⟨_, rfl⟩
        have HBX := Lib.hid (hbx ▸ MM.Row.new wr 43 [.int .i64 kd, .slice A n2 c])
        have HBXE := Lib.hid hbx
        have HM1 := Lib.hid (hM.out.new ((MM.Far.refl [] wr).alloc (.cells #[.int .i64 kd, .slice A n2 c] 43)))
        have hbb : base ≤ bx := by have := hM.out.size; omega
        clear hm hbx hM
        go_upto_region 11 with (fail)
        rw [HBXE.out]
        rw [show wr.alloc (.cells [Value.int .i64 kd, .slice A n2 c].toArray 43) = wr.alloc (.cells #[.int .i64 kd, .slice A n2 c] 43) from rfl] at HBX
        generalize wr.alloc (.cells #[.int .i64 kd, .slice A n2 c] 43) = W at *
        clear h0 h1
        have HAL := Lib.hid (fun (wx : World) (f : MM.Far [] W wx) => alloc_w HM1.out.ar f kd A m c (fs0.take 9) hfl (by omega) hfu hTT (src_pgh HI.out (HM1.out.far.trans f (by simp)) HLW.out.lay.wp HLW.out.lay.wg HLW.out.lay.wh))
        have hxn : bx ∉ [p, g, h] := by
          have h1 := HLW.out.lay.pB; have h2 := HLW.out.lay.gB; have h3 := HLW.out.lay.hB
          simp only [List.mem_cons, List.not_mem_nil, or_false]
          omega
        have hxq : bx ≠ q := by have h1 := HLW.out.lay.qB; omega
        have z0 := HBX.out.at (i := 0) rfl
        have z1 := HBX.out.at (i := 1) rfl
        have HXN := Lib.hid hxn
        have HXQ := Lib.hid hxq
        clear hxn hxq hbb
        cases A with
        | none =>
          obtain rfl : c = 0 := hInil rfl
          obtain rfl : n2 = 0 := by omega
          obtain rfl : m = 0 := by omega
          have f5 : min (0 : Int) 9 = 0 := by decide
          go_region_held3 (fun w' => w'.cell? ⟨bx, 0, none⟩ = some (.int .i64 kd) ∧ w'.cell? ⟨bx, 1, none⟩ = some (.slice none 0 0)) (go_keep) (first
            | (go_at_call 17
               (with_reducible refine (HAL.out _ (by first | exact MM.Far.refl [] _ | exact (MM.Far.refl [] _).drew)).mono ?_)
               rintro e w5 ⟨rfl, hA5, hF5⟩
               have hx5 := HBX.out.far hF5 HXN.out
               have y0 := hx5.at (i := 0) rfl
               have y1 := hx5.at (i := 1) rfl
               have HA5 := Lib.hid hA5
               have HF5 := Lib.hid hF5
               have HX5 := Lib.hid hx5
               clear hA5 hF5 hx5))
          obtain ⟨vv, hvv, hRR⟩ := HM1.out.rr
          have HRR5 := Lib.hid (AL.rr_a HLW.out.lay hRR HF5.out)
          have HFW5 := Lib.hid (AL.far_a HLW.out.lay HM1.out.far HF5.out)
          have hsz5 : base ≤ w5.heap.size := by have := HF5.out.size; have := HM1.out.size; omega
          have HSZ5 := Lib.hid hsz5
          have HRL := Lib.hid (fun (wx : World) (f : MM.Far [] w5 wx) => ralloc_w HRR5.out HSZ5.out f kd none 0 0 (fs0.take 9) hfl (by omega) hfu hTT (fun _ => ⟨rfl, rfl⟩) (AL.take_src HI.out (HFW5.out.trans f (by simp)) 9))
          clear hRR hsz5
          go_wp2_with (fail)
          go_region_held3 (fun w' => w'.cell? ⟨bx, 0, none⟩ = some (.int .i64 kd) ∧ w'.cell? ⟨bx, 1, none⟩ = some (.slice none 0 0)) (go_keep) (first
            | (go_at_call 18
               (with_reducible refine (HRL.out _ (by first | exact MM.Far.refl [] _ | exact (MM.Far.refl [] _).drew | exact ((MM.Far.refl [] _).drew).drew)).mono ?_)
               rintro e w6 ⟨rfl, v6, hs6, hR6, hF6⟩
               have hx6 := row_fr HX5.out HXQ.out hF6
               have y0 := hx6.at (i := 0) rfl
               have y1 := hx6.at (i := 1) rfl
               have HR6 := Lib.hid hR6
               have HF6 := Lib.hid hF6
               clear hR6 hF6 hx6))
          go_wp2
          go_roundw
          case rel => exact ⟨k + 1, by omega, by go_num, T, Lib.hid (Mk.new (Mk.both HLW.out HM1.out HA5.out HF5.out HR6.out HF6.out) (by first | exact MM.Far.refl [] _ | exact (MM.Far.refl [] _).drew | exact (MM.Far.refl [] _).drewN _)), HE2⟩
          case measure => simp [intOf]; omega
        | some ad =>
          have g1 : (m : Int) ≤ (c : Int) := by omega
          have g2 : (0 : Int) ≤ (m : Int) := by omega
          have g3 : ((m : Int)).toNat = m := by omega
          go_region_held3 (fun w' => w'.cell? ⟨bx, 0, none⟩ = some (.int .i64 kd) ∧ w'.cell? ⟨bx, 1, none⟩ = some (.slice (some ad) n2 c)) (go_keep) (first
            | (go_at_call 17
               (with_reducible refine (HAL.out _ (by first | exact MM.Far.refl [] _ | exact (MM.Far.refl [] _).drew)).mono ?_)
               rintro e w5 ⟨rfl, hA5, hF5⟩
               have hx5 := HBX.out.far hF5 HXN.out
               have y0 := hx5.at (i := 0) rfl
               have y1 := hx5.at (i := 1) rfl
               have HA5 := Lib.hid hA5
               have HF5 := Lib.hid hF5
               have HX5 := Lib.hid hx5
               clear hA5 hF5 hx5))
          obtain ⟨vv, hvv, hRR⟩ := HM1.out.rr
          have HRR5 := Lib.hid (AL.rr_a HLW.out.lay hRR HF5.out)
          have HFW5 := Lib.hid (AL.far_a HLW.out.lay HM1.out.far HF5.out)
          have hsz5 : base ≤ w5.heap.size := by have := HF5.out.size; have := HM1.out.size; omega
          have HSZ5 := Lib.hid hsz5
          have HRL := Lib.hid (fun (wx : World) (f : MM.Far [] w5 wx) => ralloc_w HRR5.out HSZ5.out f kd (some ad) m c (fs0.take 9) hfl (by omega) hfu hTT (fun e => by cases e) (AL.take_src HI.out (HFW5.out.trans f (by simp)) 9))
          clear hRR hsz5
          go_wp2_with (fail)
          go_region_held3 (fun w' => w'.cell? ⟨bx, 0, none⟩ = some (.int .i64 kd) ∧ w'.cell? ⟨bx, 1, none⟩ = some (.slice (some ad) n2 c)) (go_keep) (first
            | (go_at_call 18
               (with_reducible refine (HRL.out _ (by first | exact MM.Far.refl [] _ | exact (MM.Far.refl [] _).drew | exact ((MM.Far.refl [] _).drew).drew)).mono ?_)
               rintro e w6 ⟨rfl, v6, hs6, hR6, hF6⟩
               have hx6 := row_fr HX5.out HXQ.out hF6
               have y0 := hx6.at (i := 0) rfl
               have y1 := hx6.at (i := 1) rfl
               have HR6 := Lib.hid hR6
               have HF6 := Lib.hid hF6
               clear hR6 hF6 hx6))
          go_wp2
          go_roundw
          case rel => exact ⟨k + 1, by omega, by go_num, T, Lib.hid (Mk.new (Mk.both HLW.out HM1.out HA5.out HF5.out HR6.out HF6.out) (by first | exact MM.Far.refl [] _ | exact (MM.Far.refl [] _).drew | exact (MM.Far.refl [] _).drewN _)), HE2⟩
          case measure => simp [intOf]; omega
      · have HE2 : Hid (tsOf ((tl.drop (k + 1)).take (60 - (k + 1))) ts = TS) := Lib.hid (by
          have := hE.out
          rw [show 60 - k = 0 by omega, List.take_zero] at this
          rw [show 60 - (k + 1) = 0 by omega, List.take_zero]
          exact this)
        clear hD
        go_wp2
        go_roundw
        case rel => exact ⟨k + 1, by omega, by go_num, ts, Lib.hid (hM.out.new ((MM.Far.refl [] _).alloc _)), HE2⟩
        case measure => simp [intOf]; omega
    · obtain rfl : k = len := by omega
      have hts : ts = TS := by
        have := hE.out
        rw [List.drop_of_length_le (by rw [HZ.out.len_]; exact Nat.le_refl _), List.take_nil] at this
        exact this
      subst hts
      clear hE
      have HM := Lib.hid hM.out
      have HFw := Lib.hid hM.out.far
      clear hM hlt
      generalize wr = w4 at *
      go_wp2_with (fail)
      have e1 : (min (lenb : Int) 20).toNat = min lenb 20 := by omega
      have e2 : max (min (lenb : Int) 20) 0 = ((min lenb 20 : Nat) : Int) := by omega
      have e3 : min (lenb : Int) 20 = ((min lenb 20 : Nat) : Int) := by omega
      try rw [e2]
      rw [e1]
      try rw [e3]
      clear e1 e2 e3
      obtain ⟨m, hm⟩ : ∃ m, min lenb 20 = m := ⟨_, rfl⟩
      rw [hm]
      have hm20 : m ≤ 20 := by omega
      have hml : m ≤ lenb := by omega
      clear hm
      obtain ⟨l, hll⟩ : ∃ l, l = (zs.take m).map cut32 := ⟨_, rfl⟩
      have hlm : l.length = m := by rw [hll, List.length_map, List.length_take, HB.out.len_]; omega
      have HLL := Lib.hid hll
      have HLM := Lib.hid hlm
      clear hll hlm
      have HP0 : Hid (NW.Puts l gn w4 (.slice none 0 0) (.int .i64 0) w4) := Lib.hid ⟨0, Nat.zero_le _, rfl, [gn], _, _, HM.out.nm, by simp, MO.none_ _ _ _ _, by simp [Value.ownBlock], MM.Far.refl _ _⟩
      go_loopw [15, 82] (fun v i wr => Hid (NW.Puts l gn w4 v i wr)) (fun _ i _ => m - (intOf i).toNat)
      case atStart => exact HP0
      case round =>
        obtain ⟨j, hj, rfl, S, mv, sv, hN, hS, hown, hvS, hF⟩ := hrel.out
        clear HP0 hrel
        have hFwr : MM.Far [] w wr := HFw.out.trans hF (fun b hb hl => by
          have h1 := HLW.out.wn
          have h2 : b = gn := by simpa using hb
          omega)
        rw [HLM.out] at hj
        by_cases hlt : j < m
        · have hjl : j < l.length := by rw [HLM.out]; exact hlt
          have hjz : j < zs.length := by rw [HB.out.len_]; omega
          obtain ⟨ad, rfl, _, hadl, hc0⟩ := HB.out.src (by simp; omega)
          obtain ⟨bb, off, spot⟩ := ad
          obtain ⟨s0, hs0⟩ : ∃ s0, s0 = zs[j] := ⟨_, rfl⟩
          have hc := hc0 j (.string s0) (by simp [hjz, hs0])
          obtain rfl : spot = none := by
            have h1 := hc0 0 (.string (zs[0]'(by omega))) (by simp [List.getElem?_eq_getElem (show 0 < zs.length by omega)])
            rw [MR.add_zero_] at h1
            exact World.cell?_spot h1
          rw [MR.mk_add] at hc
          have c0 : wr.cell? ⟨bb, off + j, none⟩ = some (.string s0) := (hFwr.cell (p := ⟨bb, off + j, none⟩) hadl (by simp)).trans hc
          have hfit := HB.out.fit s0 (by rw [hs0]; exact List.getElem_mem hjz)
          unfold maxLen at hfit
          have hlj : l[j] = cut32 s0 := by
            have h1 : l[j]? = some (cut32 s0) := by rw [HLL.out, List.getElem?_map, List.getElem?_take, if_pos hlt, List.getElem?_eq_getElem hjz, hs0]; rfl
            rw [List.getElem?_eq_getElem hjl] at h1
            exact Option.some.inj h1
          have hT2 := NP.all_snoc l j hjl
          rw [hlj] at hT2
          have hL : (NP.all (l.take j)).length ≤ 20 := by have := NP.all_len (l.take j); simp at this; omega
          obtain ⟨q1, hq1⟩ : ∃ q1, q1 = min s0.size 32 := ⟨_, rfl⟩
          have hq2 : q1 ≤ s0.size := by omega
          have f4 : min (s0.size : Int) 32 = (q1 : Int) := by omega
          have hsl := strcutn_run s0 q1 hq2
          have e5 : s0.extract 0 q1 = cut32 s0 := by rw [hq1]; rfl
          rw [e5] at hsl
          have hs32 : (cut32 s0).size ≤ 32 := by unfold cut32; rw [ByteArray.size_extract]; omega
          generalize cut32 s0 = s at *
          generalize NP.all (l.take j) = L at *
          have hPT := NW.put_any hN s (by unfold maxLen; omega)
          have HT2 := Lib.hid hT2
          have HN := Lib.hid hN
          have HS2 := Lib.hid hS
          have HVS := Lib.hid hvS
          have HFz := Lib.hid hF
          have HOW := Lib.hid hown
          clear hN hS hvS hF hT2 hlj hs0 hc hc0 hjl hjz hadl e5 hq1
          obtain ⟨A5, c5, hv5, hA5, hc1, hc2, _, _⟩ := MO.form HOW.out
          unfold maxLen at hc2
          subst hv5
          have hjl2 : j < l.length := by rw [HLM.out]; exact hlt
          by_cases hfit2 : NP.fits s
          · by_cases hin : s ∈ L
            · rw [show NP.putI L s = ((L.idxOf s : Nat) : Int) by simp [NP.putI, hfit2, hin], show NP.putE L s = 0 by simp [NP.putE, hfit2, hin], show NP.putL L s = L by simp [NP.putL, hin]] at hPT
              rw [show NP.putL L s = L by simp [NP.putL, hin]] at HT2
              have hix : L.idxOf s < L.length := List.idxOf_lt_length_iff.2 hin
              generalize L.idxOf s = ix at *
              have b1 : ((ix : Int) == (L.length : Int)) = false := by rw [beq_eq_false_iff_ne]; omega
              have b2 : ¬ ((ix : Int) = (L.length : Int)) := by omega
              have HPT := Lib.hid hPT
              clear hPT hfit2 hin hix hjl2
              go_wp2_with (first
                | (go_at_call 19; ((with_reducible refine HPT.out.mono ?_); rintro e w5 ⟨rfl, hX5⟩); have HX5 := Lib.hid hX5; clear hX5))
              go_roundw
              case rel => exact Lib.hid (puts_keep (by rw [HLM.out]; exact hlt) HS2.out HVS.out HOW.out HFz.out HT2.out HX5.out (by go_num))
              case measure => simp [intOf]; omega
            · have p3 : NP.putL L s = L ++ [s] := by unfold NP.putL; rw [if_pos ⟨hfit2, hin, by omega⟩]
              rw [show NP.putI L s = ((L.length : Nat) : Int) by unfold NP.putI; rw [if_neg (by simpa using hfit2), if_neg hin, if_pos (by omega)], show NP.putE L s = 0 by unfold NP.putE; rw [if_neg (by simpa using hfit2), if_neg hin, if_pos (by omega)], p3] at hPT
              rw [p3] at HT2
              have HPT := Lib.hid hPT
              clear hPT hfit2 hin hjl2 p3
              go_wp2_with (first
                | (go_at_call 19; ((with_reducible refine HPT.out.mono ?_); rintro e w5 ⟨rfl, hX5⟩); have HO5 := Lib.hid (MM.own_far HOW.out (nxt_far hX5) (fun x hx => (HVS.out x hx).1)); have HX5 := Lib.hid hX5; clear hX5)
                | (at_builtin; refine MO.wpList_append _ ?_ (.tmp 105) (.tmp 107) 30 ?_ 0 9 (.string ⟨#[]⟩) 1 16 Tryz.underlying30 NW.string_info rfl (by omega) (.slice A5 L.length c5) L.length (NW.strs L) ?_ (HO5.out.alloc _) (some ⟨w5.heap.size, 0, none⟩) 1 1 [.string s] ?_ rfl (by simp) [] ?_ (NW.strs_one [s]) (by unfold maxLen; omega) (by omega) (by omega) ?_
                   · rfl
                   · rfl
                   · rfl
                   · rfl
                   · exact MM.Src.row (MM.Row.new _ _ [.string s]) (by simp) _ (fun j u hu => hu)
                   intro sv' w6 o6 hg6 hl6))
              go_roundw
              case rel => exact Lib.hid (puts_more (by rw [HLM.out]; exact hlt) HS2.out HVS.out HOW.out HFz.out HT2.out HX5.out (by go_num) o6 hg6 hl6)
              case measure => simp [intOf]; omega
          · rw [show NP.putI L s = 0 by simp [NP.putI, hfit2], show NP.putE L s = 1 by simp [NP.putE, hfit2], show NP.putL L s = L by simp [NP.putL, hfit2]] at hPT
            rw [show NP.putL L s = L by simp [NP.putL, hfit2]] at HT2
            have HPT := Lib.hid hPT
            clear hPT hfit2 hjl2
            go_wp2_with (first
              | (go_at_call 19; ((with_reducible refine HPT.out.mono ?_); rintro e w5 ⟨rfl, hX5⟩); have HX5 := Lib.hid hX5; clear hX5))
            go_roundw
            case rel => exact Lib.hid (puts_keep (by rw [HLM.out]; exact hlt) HS2.out HVS.out HOW.out HFz.out HT2.out HX5.out (by go_num))
            case measure => simp [intOf]; omega
        · obtain rfl : j = m := by omega
          have hLL : l.take j = l := List.take_of_length_le (by rw [HLM.out]; exact Nat.le_refl _)
          rw [hLL] at hN hown
          obtain ⟨v4, hs4, hR4⟩ := HM.out.rr
          have hRr : RW.Rr wr base q 1000 v4 ts hs4 := hR4.far hF (fun b hb => by
            have h1 := HLW.out.nn
            have h2 := HLW.out.nB
            have h3 : b = gn := by simpa using hb
            omega)
          have hAr : AW.Ar wr p g h 1000 ts := HM.out.ar.far hF (by have h1 := HLW.out.nn; simp; omega) (by have h1 := HLW.out.nn; simp; omega) (by have h1 := HLW.out.nn; simp; omega)
          have HW1 := Lib.hid (show_any hAr (nms_of hN) (HT.out.far hFwr) x HX.out)
          obtain ⟨A5, c5, hv5, hA5, hc1, hc2, _, _⟩ := MO.form hown
          subst hv5
          have HW2 := Lib.hid (fun (wx : World) (f : MM.Far [] wr wx) => rword_any (rr_far hRr f) (rnm_of hN.ok (MM.own_far hown f (by simp))) x HX.out)
          have HFw2 := Lib.hid hFwr
          generalize str (cutX (wrt (NP.textS (NP.all l)) (NP.textB (NP.all l)) ts 122 false [] x)) = V at *
          clear hN hown hR4 hRr hAr hLL hF hS hvS hFwr
          go_wp2_with (first
            | (go_at_call 20; ((with_reducible refine HW1.out.mono ?_); rintro e w7 ⟨rfl, hF7⟩); have HF7 := Lib.hid hF7; clear hF7)
            | (go_at_call 21; ((with_reducible refine (HW2.out _ HF7.out).mono ?_); rintro e w8 ⟨rfl, hF8⟩); have HF8 := Lib.hid hF8; clear hF8))
          go_ret
          exact ⟨by first | rfl | simp, ((HFw2.out.trans HF7.out (by simp)).trans HF8.out (by simp)).below_nil⟩
end SW
end Go.Proofs.YtbglcdjimipeeaaGreatDoor
