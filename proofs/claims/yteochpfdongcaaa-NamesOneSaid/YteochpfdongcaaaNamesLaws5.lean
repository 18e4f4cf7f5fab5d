/-
  The walk of layer 4's statement NamesOne: it answers true for any names. No condition.
-/
import Derived.Test.YteochpfdongcaaaNamesLaws3
import Derived.Test.YteochpfdongcaaaNamesOnce
import Derived.Maps.RangeWalk
namespace Go.Proofs.Yteochpfdongcaaa
open Go.RowKit Go.Maps
namespace NW
open MM
/-- At a round's head: the table's names, and the same as a map to their places. -/
def Onc (g bo : Nat) (w4 : World) (k : Nat) (L : List ByteArray) (wr : World) : Prop :=
  ∃ S mv sv D, Nm wr g S L mv sv ∧ (∀ b, b ∈ S → b = g ∨ w4.heap.size ≤ b) ∧ wr.ownsMap Try.prog 9 (plainElem (H := Unit) Try.prog 3) bo k D ∧ NP.HasI D L ∧ L.length ≤ k ∧ Far [g, bo] w4 wr
theorem onc_put {g bo : Nat} {w4 wr : World} {k : Nat} {L : List ByteArray} (h : Onc g bo w4 k L wr) (hb : bo < w4.heap.size) (hbg : bo ≠ g) (s : ByteArray) (hs : s.size ≤ maxLen) (i e : Int) (T : List ByteArray) (h1 : NP.putI L s = i) (h2 : NP.putE L s = e) (h3 : NP.putL L s = T) :
    Calls Try.prog 13 #[ptr g, .string s] wr fun x w' => x = .returned (.tuple #[.int .i64 i, .int .i64 e]) ∧
      ∃ S mv sv D, Nm w' g S T mv sv ∧ (∀ b, b ∈ S → b = g ∨ w4.heap.size ≤ b) ∧ w'.ownsMap Try.prog 9 (plainElem (H := Unit) Try.prog 3) bo k D ∧ NP.HasI D L ∧ L.length ≤ k ∧ Far [g, bo] w4 w' := by
  subst h1 h2 h3
  obtain ⟨S, mv, sv, D, hN, hS, hW, hD, hl, hF⟩ := h
  refine (put_any hN s hs).mono ?_
  rintro e w' ⟨rfl, S', mv', sv', hN', hF', hS'⟩
  refine ⟨rfl, S', mv', sv', D, hN', ?_, own_map_far hW hF' (fun hm => ?_), hD, hl, ?_⟩
  · intro b hb
    rcases hS' b hb with h | h
    · exact hS b h
    · right; have := hF.size; omega
  · rcases hS _ hm with h | h
    · exact hbg h
    · omega
  · refine hF.trans hF' (fun b hb hl => ?_)
    rcases hS b hb with h | h
    · simp [h]
    · omega
theorem onc_store {g bo : Nat} {w4 w' w'' : World} {k : Nat} {L : List ByteArray} {s : ByteArray} {S : List Nat} {mv sv : Value} {D : DataW Unit} (hN : Nm w' g S (NP.putL L s) mv sv) (hS : ∀ b, b ∈ S → b = g ∨ w4.heap.size ≤ b) (hD : NP.HasI D L) (hl : L.length ≤ k) (hF : Far [g, bo] w4 w')
    (hb : bo < w4.heap.size) (hbg : bo ≠ g) (hf : NP.fits s) (hn : L.length < 4096)
    (h1 : w''.ownsMap Try.prog 9 (plainElem (H := Unit) Try.prog 3) bo (k + 1) (D.put (NP.key s) (.lit (.int .i64 (NP.putI L s))))) (h2 : w'.grownBy w'' (some bo)) : Onc g bo w4 (k + 1) (NP.putL L s) w'' := by
  have F2 : Far [bo] w' w'' := Far.of_grown h2 (fun b hb _ => by simp at hb; simp [hb])
  refine ⟨S, mv, sv, _, hN.far F2 (fun b hb' e => ?_), hS, h1, hD.put s hf hn, ?_, hF.trans F2 (fun b hb _ => by simp at hb; simp [hb])⟩
  · simp at e; subst e
    rcases hS _ hb' with h | h
    · exact hbg h
    · omega
  · have := NP.putL_len L s; omega
theorem Onc.mono {g bo : Nat} {w4 wr : World} {k k' : Nat} {L : List ByteArray} (h : Onc g bo w4 k L wr) (hk : k ≤ k') : Onc g bo w4 k' L wr := by
  obtain ⟨S, mv, sv, D, hN, hS, hW, hD, hl, hF⟩ := h
  exact ⟨S, mv, sv, D, hN, hS, hW.mono hk, hD, by omega, hF⟩
theorem look_of {w : World} {bo n : Nat} {D : DataW Unit} {L : List ByteArray} (h : w.ownsMap Try.prog 9 (plainElem (H := Unit) Try.prog 3) bo n D) (hD : NP.HasI D L) (s : ByteArray) (hs : s.size ≤ maxLen) :
    (Instr.lookup 40 (.map (some bo)) (.string s) true).run Try.prog w = .ok (.tuple #[.int .i64 ((NP.num L s).getD 0), .bool (NP.num L s).isSome]) w :=
  look (S := [bo]) (.inr ⟨bo, D, rfl, by simp, h, hD.tab⟩) s hs
theorem key_inv {x : ByteArray} {kl : Lit} (h : keyOf Try.prog 9 (.string x) = some kl) : kl = NP.key x ∧ x.size ≤ maxLen := by
  simp [keyOf, Try.underlying9, Go.mapKey] at h
  exact ⟨h.2.symm, h.1⟩
theorem string_shape : ∀ key kl, keyOf Try.prog 9 key = some kl → ∃ x, key = Value.string x := by
  intro key kl h
  cases key <;> simp [keyOf, Try.underlying9, Go.mapKey] at h
  exact ⟨_, rfl⟩
theorem int_shape : ∀ v (y : DataW Unit × List MemPlace), plainElem Try.prog 3 v = some y → ∃ c, v = Value.int .i64 c := by
  intro v y h
  obtain ⟨c, rfl, _⟩ := plainElem_int_inv Try.underlying3 h
  exact ⟨c, rfl⟩
set_option maxRecDepth 100000 in
set_option maxHeartbeats 4000000 in
theorem one_any {a : Option Addr} {la ca : Nat} {xs : List ByteArray} {w : World} (hx : MR.Strs w a la ca xs) :
    Calls Try.prog 4 #[.slice a la ca] w fun e w' => e = .returned (.bool true) ∧ Below w.heap.size w w' := by
  have hmm := @run_makeMap Try.prog
  have HX := Lib.hid hx
  clear hx
  go_enter Try.func4, Try.ntmps4
  go_wp2_with (fail)
  refine (shown_any w).mono ?_
  rintro e w1 ⟨rfl, hF1⟩
  go_wp2_with (fail)
  refine (new_any w1).mono ?_
  rintro e w2 ⟨g, rfl, hga, hN, hF2⟩
  have HF2 := Lib.hid (hF1.trans hF2 (by simp))
  have hgl := hN.head.lt
  have HN := Lib.hid hN
  have s1 := hF1.size
  clear hF1 hF2 hN
  go_wp2_with (fail)
  have hF2 := HF2.out
  refine (few_any ((HX.out.far hF2).far ((Far.refl [] _).alloc _))).mono ?_
  rintro e w4 ⟨v4, rfl, hown4, hF4⟩
  have k4 := hF4.size
  simp at k4
  obtain ⟨A4, c4, hv4, _, hd1, hd2, hsrc4, _⟩ := MO.form hown4
  unfold maxLen at hd2
  have hsx := Lib.hid (hsrc4 [g, w2.heap.size] (fun b hb e => by have := MM.own_lt hown4 b hb; simp at e this; omega))
  have hlx := NP.few_len xs
  have hzx := Lib.hid (NP.few_size xs)
  have HO := Lib.hid (show Onc g w2.heap.size w4 0 [] w4 from ⟨[g], _, _, _, (HN.out.nil ((Far.refl [] _).alloc _)).nil hF4, by simp, own_map_far (World.ownsMap_made w2 Try.prog 9 _) hF4 (by simp), NP.HasI.none_, by simp, Far.refl _ _⟩)
  have hFw := Lib.hid ((hF2.trans ((Far.refl [] _).alloc (.map #[] 0)) (by simp)).trans hF4 (by simp))
  rw [hv4]
  generalize NP.few xs = x at *
  obtain ⟨n, hn⟩ : ∃ n, n = x.length := ⟨_, rfl⟩
  have HL := Lib.hid hn
  rw [← hn] at hd1 hlx ⊢
  obtain ⟨bo, hbo⟩ : ∃ bo, bo = w2.heap.size := ⟨_, rfl⟩
  have hbg : bo ≠ g := by omega
  have hbl : bo < w4.heap.size := by omega
  have hb0 : w.heap.size ≤ bo := by have := hF2.size; omega
  have hg0 : w.heap.size ≤ g := by omega
  rw [← hbo] at HO hsx ⊢
  have HBG := Lib.hid hbg
  clear hn hown4 hsrc4 hF4 HX HN hv4 hbo hbg hF2 HF2
  go_wp2_with (fail)
  go_loopw [27] (fun i wr => ∃ k : Nat, k ≤ n ∧ i = .int .i64 (k : Int) ∧ ∃ L, Hid (Onc g bo w4 k L wr)) (fun i _ => n - (intOf i).toNat)
  case atStart => exact ⟨0, by omega, rfl, [], HO⟩
  case round =>
    obtain ⟨k, hk, rfl, L, hO⟩ := hrel
    by_cases hlt : k < n
    · have hkl : k < x.length := by rw [← HL.out]; exact hlt
      obtain ⟨b0, off, rfl, c0⟩ := row_cell hsx.out (by obtain ⟨_, _, _, _, _, _, _, _, _, h⟩ := hO.out; exact h) (by simp) k hkl
      obtain ⟨s, hs⟩ : ∃ s, x[k] = s := ⟨_, rfl⟩
      rw [hs] at c0
      have hsm : s.size ≤ 40 := hzx.out s (by rw [← hs]; exact List.getElem_mem _)
      clear hs
      have hL0 : L.length ≤ 100 := by obtain ⟨_, _, _, _, _, _, _, _, h, _⟩ := hO.out; omega
      obtain ⟨i, hi⟩ : ∃ i, NP.putI L s = i := ⟨_, rfl⟩
      have HI := Lib.hid hi
      have HH := Lib.hid hO.out
      clear hi hO
      by_cases hf : NP.fits s
      · have hE := Lib.hid (NP.putE_yes hf (L := L) (by omega))
        have HF := Lib.hid hf
        obtain ⟨f1, f2⟩ := hf
        have f3 : decide ((s.size : Int) ≤ 32) = true := by simp; omega
        go_wp2_with (fail)
        refine (onc_put HH.out hbl HBG.out s (by unfold maxLen; omega) i 0 _ HI.out hE.out rfl).mono ?_
        rintro e w5 ⟨rfl, S, mv, sv, D, hN5, hS5, hD1, hD2, hl5, hF5⟩
        have hlk := look_of hD1 hD2 s (by unfold maxLen; omega)
        have hic : ((NP.num L s).isSome = true ∧ (NP.num L s).getD 0 = i) ∨ (NP.num L s).isSome = false := by
          by_cases hm : s ∈ L
          · left
            refine ⟨by simp [NP.num, hm], ?_⟩
            rw [← HI.out]; simp [NP.num, NP.putI, HF.out, hm]
          · right; simp [NP.num, hm]
        have HK := Lib.hid (fun w6 => onc_store (w'' := w6) hN5 hS5 hD2 hl5 hF5 hbl HBG.out HF.out (by omega))
        clear hN5 hD2 hS5
        have hwf : (Lit.int .i64 i).wf = true := by
          apply WalkArith.wf_i64
          rw [← HI.out, NP.putI_yes HF.out (by omega)]
          have := NP.putL_len L s
          have := List.idxOf_le_length (a := s) (l := NP.putL L s)
          omega
        have HWF := Lib.hid hwf
        clear hwf
        rcases hic with ⟨c1, c2⟩ | c1
        all_goals
          first | (rw [c1, c2] at hlk; clear c1 c2) | (rw [c1] at hlk; clear c1)
          go_wp2_with (at_mapUpdate; refine wpList_mapUpdate_own _ rfl _ _ _ 40 rfl 9 3 string_keyed_ Try.underlying40 _ bo k D rfl hD1 (by unfold maxLen; omega) _ _ _ rfl rfl (key_of (by unfold maxLen; omega)) _ [] (plainElem_int Try.underlying3 HWF.out) ?_; intro w6 m6 hg6)
          go_roundw
          case rel => exact ⟨k + 1, by omega, by go_num, _, Lib.hid (HK.out w6 (by rw [HI.out]; exact m6) hg6)⟩
          case measure => simp [intOf]; omega
      · have hE := Lib.hid (NP.putE_no (L := L) hf)
        have hT := Lib.hid (NP.putL_no (L := L) hf)
        have hc : s.size < 1 ∨ 32 < s.size := by unfold NP.fits at hf; omega
        clear hf
        by_cases h1 : s.size < 1
        all_goals
          first | (have h0 : s.size < 1 := h1; clear hc h1) | (have h2 : decide ((s.size : Int) ≤ 32) = false := (by rw [decide_eq_false_iff_not]; omega); have h3 : 1 ≤ s.size := (by omega); clear hc h1)
          go_wp2_with (fail)
          refine (onc_put HH.out hbl HBG.out s (by unfold maxLen; omega) i 1 L HI.out hE.out hT.out).mono ?_
          rintro e w5 ⟨rfl, S, mv, sv, D, hN5, hS5, hD1, hD2, hl5, hF5⟩
          have HK := Lib.hid (show Onc g bo w4 (k + 1) L w5 from Onc.mono ⟨S, mv, sv, D, hN5, hS5, hD1, hD2, hl5, hF5⟩ (by omega))
          clear hN5 hD2 hS5 hD1
          go_wp2_with (fail)
          go_roundw
          case rel => exact ⟨k + 1, by omega, by go_num, _, HK⟩
          case measure => simp [intOf]; omega
    · rename World => w7
      obtain ⟨S, mv, sv, D, hN, hS, hW, hD, hl, hF⟩ := hO.out
      have HFE := Lib.hid (hFw.out.trans hF (fun b hb hl => by simp at hb; omega))
      have HN := Lib.hid hN
      have HD := Lib.hid hD
      have kF := hF.size
      have hbo7 := hW.lt
      have hgS := Lib.hid hS
      have hg7 := hN.head.lt
      have hsz := hD.size
      have hLn : L.length ≤ 100 := by omega
      have HSZ := Lib.hid hsz
      clear hO hN hD hS hF hsz
      go_wp2_with (at_range; refine wpList_range_own _ rfl _ 40 rfl 9 3 string_keyed_ Try.underlying40 _ bo k D rfl (hW.alloc _) ?_; intro w8 hrg8 hg8 hs8)
      go_frame
      have e1 : (w7.alloc (.map #[] 0)).heap.size = w7.heap.size + 1 := by simp
      rw [e1] at hrg8 hs8 ⊢
      have hF8 : Far [] w7 w8 := ((Far.refl [] w7).alloc _).trans (Far.of_grown (S := []) hg8 (fun b hb _ => by cases hb)) (by simp)
      have hN8 := HN.out.nil hF8
      have HM8 : w8.ownsMap Try.prog 3 (plainElem (H := Unit) Try.prog 4) w7.heap.size 0 (.map []) := (World.ownsMap_made w7 Try.prog 3 _).kept hg8 (by simp)
      have hdis := HN.out.lt
      obtain ⟨bs, hbs⟩ : ∃ bs, bs = w7.heap.size := ⟨_, rfl⟩
      rw [← hbs] at hrg8 hs8 HM8 hdis hg7 hbo7 kF ⊢
      have HN8 := Lib.hid hN8
      have HFE8 := Lib.hid (HFE.out.trans hF8 (by simp))
      have HDS := Lib.hid hdis
      have hb7 : w.heap.size ≤ bs := by omega
      have HST := Lib.hid (⟨_, _, _, 0, hrg8, HM8, NP.Nums.start HD.out, by rw [HSZ.out]; omega, Far.refl _ _⟩ : ∃ (left : Lit → Bool) (cnt : Nat) (D2 : DataW Unit) (m : Nat), w8.ranges Try.prog 9 (plainElem Try.prog 3) bo (bs + 1) k D left cnt ∧ w8.ownsMap Try.prog 3 (plainElem Try.prog 4) bs m D2 ∧ NP.Nums D2 L left ∧ m + cnt ≤ 100 ∧ Far [bs, bs + 1] w8 w8)
      clear hrg8 hg8 hF8 hN8 HM8 hdis hbs hs8 HN HFE hW e1
      go_loopw [13] (fun _ wr => Hid (∃ (left : Lit → Bool) (cnt : Nat) (D2 : DataW Unit) (m : Nat), wr.ranges Try.prog 9 (plainElem Try.prog 3) bo (bs + 1) k D left cnt ∧ wr.ownsMap Try.prog 3 (plainElem Try.prog 4) bs m D2 ∧ NP.Nums D2 L left ∧ m + cnt ≤ 100 ∧ Far [bs, bs + 1] w8 wr)) (fun _ wr => wr.rangeLeft bo (bs + 1))
      case atStart => exact HST
      case round =>
        obtain ⟨left, cnt, D2, m, hrg, hM, hNu, hmc, hF9⟩ := hrel.out
        have HF9 := Lib.hid hF9
        have HNU := Lib.hid hNu
        clear hF9 hNu hrel
        go_wp2_with (at_next; refine wpList_next_ranges _ rfl _ rfl 9 string_keyed_ _ Value.string (Value.int .i64) string_shape int_shape bo (bs + 1) k D left cnt rfl hrg ?_ ?_)
        · intro hc0 hl0
          have hlen := fun ty => hrg.owns.len Try.underlying40 ty
          rw [HSZ.out] at hlen
          have N9 := Lib.hid (HN8.out.far HF9.out (fun b hb e => by have := HDS.out b hb; simp at e; omega))
          go_wp2_with (fail)
          refine (len_any N9.out).mono ?_
          rintro e w' ⟨rfl, rfl⟩
          go_wp2_with (fail)
          go_ret
          exact ⟨by simp, (HFE8.out.trans HF9.out (fun b hb hl => by simp at hb; omega)).below_nil⟩
        · intro x c kl y1 y2 w10 cnt1 hkx hlx hRc hat hrg1 hlt1 hg1 hs1 hen
          obtain ⟨hkl, hxm⟩ := key_inv hkx
          rw [hkl] at hlx hat hrg1
          obtain ⟨c', e1, e2, hwc⟩ := plainElem_int_inv Try.underlying3 hRc
          have e3 : y1 = .lit (.int .i64 c) := by
            have := congrArg Prod.fst e2
            injection e1 with _ e1
            rw [e1]; exact this
          have hwc : (Lit.int .i64 c).wf = true := by injection e1 with _ e1; rw [e1]; exact hwc
          rw [e3] at hat
          obtain ⟨hxL, hxc⟩ := HD.out.entry x c hat
          have h1 := List.idxOf_lt_length_iff.2 hxL
          have hts : NP.textS L c = x := by
            rw [← hxc]
            unfold NP.textS
            rw [if_pos ⟨by omega, by omega⟩, Int.toNat_natCast]
            simp [List.getD_eq_getElem?_getD, List.getElem?_eq_getElem h1]
          have htb : NP.textB L c = true := by unfold NP.textB; rw [decide_eq_true_eq]; omega
          have hfi : NP.findI L x = c := by rw [NP.findI_yes hxL]; exact hxc
          have hfr := HNU.out.fresh hxL hlx
          rw [hxc] at hfr
          have HS1 := Lib.hid hts
          have HS2 := Lib.hid htb
          have HS3 := Lib.hid hfi
          have HS4 := Lib.hid (NP.findB_yes hxL)
          have hsp := HNU.out.step hxL
          rw [hxc] at hsp
          have HSP := Lib.hid hsp
          have F10 : Far [bs, bs + 1] w8 w10 := HF9.out.trans (Far.of_grown (S := [bs + 1]) hg1 (fun b hb _ => by simp at hb; simp [hb])) (fun b hb _ => by simp at hb; simp [hb])
          have HF10 := Lib.hid F10
          have HM10 := hM.kept hg1 (by simp)
          have N10 := Lib.hid (HN8.out.far F10 (fun b hb e => by have := HDS.out b hb; simp at e; omega))
          have hc0 : (0 : Int) ≤ c := by omega
          have hc9 : c < (L.length : Int) := by omega
          have HFR := Lib.hid hfr
          have HMR := Lib.hid hM
          have HRG := Lib.hid hrg
          have HR1 := Lib.hid hrg1
          have HG1 := Lib.hid hg1
          clear hts htb hfi hfr hsp F10 hat hRc e1 e2 e3 hxc hkx hkl hM hrg hrg1 hg1 hs1 hlx hxL h1
          have HXM := Lib.hid hxm
          go_wp2_with (fail)
          refine (text_to N10.out c x true HS1.out HS2.out).mono ?_
          rintro e w11 ⟨rfl, hF11⟩
          have N11 := Lib.hid (N10.out.nil hF11)
          have HM11 := own_map_far HM10 hF11 (by simp)
          have R11 := Lib.hid (HR1.out.kept (row := none) ⟨hF11.os, hF11.tape, hF11.output, hF11.size, fun b hb _ => hF11.block b hb (by simp)⟩ (by simp) (by simp))
          have HF11 := Lib.hid (HF10.out.trans hF11 (by simp))
          clear hF11 HM10 hen
          go_wp2_with (fail)
          refine (find_to N11.out x HXM.out c true HS3.out HS4.out).mono ?_
          rintro e w' ⟨rfl, rfl⟩
          have hlk := MB.look_bool HM11 (int_keyed Try.underlying3) Try.underlying41 Try.underlying4 (bool_zero w11) (keyOf_int_mk Try.underlying3 hwc) HFR.out
          go_wp2_with (fail)
          refine (len_any N11.out).mono ?_
          rintro e w' ⟨rfl, rfl⟩
          go_wp2_with (at_mapUpdate; refine wpList_mapUpdate_own _ rfl _ _ _ 41 rfl 3 4 (int_keyed Try.underlying3) Try.underlying41 _ bs m D2 rfl HM11 (by unfold maxLen; omega) _ _ _ rfl rfl (keyOf_int_mk Try.underlying3 hwc) _ [] (plainElem_bool Try.underlying4 true) ?_; intro w12 m12 hg12; go_frame)
          go_roundw
          case rel => exact Lib.hid ⟨_, cnt1, _, m + 1, R11.out.kept hg12 (by simp; omega) (by simp), m12, HSP.out, by omega, HF11.out.trans (Far.of_grown (S := [bs]) hg12 (fun b hb _ => by simp at hb; simp [hb])) (fun b hb _ => by simp at hb; simp [hb])⟩
          case measure => rw [(R11.out.kept hg12 (by simp; omega) (by simp)).left_eq, HRG.out.left_eq]; exact hlt1
end NW
end Go.Proofs.Yteochpfdongcaaa
