/-
  The walk of layer 4's statement NamesOrder: it answers true for any names. No condition.
-/
import Derived.Test.YteochpfdongcaaaNamesLaws2
import Derived.Test.YteochpfdongcaaaNamesSet
namespace Go.Proofs.Yteochpfdongcaaa
open Go.RowKit Go.Maps
namespace NP
theorem more_size (s : ByteArray) : (s ++ ⟨#[120]⟩ : ByteArray).size = s.size + 1 := by
  rw [ByteArray.size_append]; rfl
theorem more_ne (s : ByteArray) : s ≠ s ++ ⟨#[120]⟩ := fun e => by
  have := congrArg ByteArray.size e
  rw [more_size] at this; omega
end NP
namespace NW
open MM
theorem bool_zero (w : World) : (zeroValue 4).run Try.prog w = .ok (.bool false) w := by kernel_rfl
/-- The set of the names that are in the table, as a map of bools at block bm. -/
def Seen (w : World) (bm n : Nat) (L : List ByteArray) : Prop := ∃ D, w.ownsMap Try.prog 9 (plainElem (H := Unit) Try.prog 4) bm n D ∧ NP.Has D L
theorem own_map_far {H : Type} {a w : World} {k : TypeId} {R : Value → Option (DataW H × List MemPlace)} {b n : Nat} {D : DataW H} {T : List Nat} (h : a.ownsMap Try.prog k R b n D) (hF : Far T a w) (hb : b ∉ T) : w.ownsMap Try.prog k R b n D := by
  have hlt := h.lt
  obtain ⟨es, clock, hb', F, hs, hD⟩ := h
  exact ⟨es, clock, (hF.block b hlt hb).trans hb', F, hs, hD⟩
theorem Seen.far {a w : World} {bm n : Nat} {L : List ByteArray} {T : List Nat} (h : Seen a bm n L) (hF : Far T a w) (hb : bm ∉ T) : Seen w bm n L := by
  obtain ⟨D, h1, h2⟩ := h
  exact ⟨D, own_map_far h1 hF hb, h2⟩
theorem Seen.len {w : World} {bm n : Nat} {L : List ByteArray} (h : Seen w bm n L) (ty : TypeId) : (Builtin.len_ #[48] ty #[.map (some bm)]).run Try.prog w = .ok (.int .i64 L.length) w := by
  obtain ⟨D, h1, h2⟩ := h
  rw [← h2.size]
  exact h1.len Try.underlying48 ty
theorem Seen.look {w : World} {bm n : Nat} {L : List ByteArray} (h : Seen w bm n L) (s : ByteArray) (hs : s.size ≤ maxLen) (c : Bool) (hc : decide (s ∈ L) = c) : (Instr.lookup 48 (.map (some bm)) (.string s) false).run Try.prog w = .ok (.bool c) w := by
  obtain ⟨D, h1, h2⟩ := h
  subst hc
  exact MB.look_bool h1 string_keyed_ Try.underlying48 Try.underlying4 (bool_zero w) (key_of hs) (h2.at_ s)
/-- At a round's head: the table's names, and the same as a set. -/
def Ord (g bm : Nat) (w4 : World) (k : Nat) (L : List ByteArray) (wr : World) : Prop :=
  ∃ S mv sv, Nm wr g S L mv sv ∧ (∀ b, b ∈ S → b = g ∨ w4.heap.size ≤ b) ∧ Seen wr bm k L ∧ L.length ≤ k ∧ Far [g, bm] w4 wr
theorem ord_put {g bm : Nat} {w4 wr : World} {k : Nat} {L : List ByteArray} (h : Ord g bm w4 k L wr) (hb : bm < w4.heap.size) (hbg : bm ≠ g) (s : ByteArray) (hs : s.size ≤ maxLen) (i e : Int) (T : List ByteArray) (h1 : NP.putI L s = i) (h2 : NP.putE L s = e) (h3 : NP.putL L s = T) :
    Calls Try.prog 13 #[ptr g, .string s] wr fun x w' => x = .returned (.tuple #[.int .i64 i, .int .i64 e]) ∧
      ∃ S mv sv, Nm w' g S T mv sv ∧ (∀ b, b ∈ S → b = g ∨ w4.heap.size ≤ b) ∧ Seen w' bm k L ∧ L.length ≤ k ∧ Far [g, bm] w4 w' := by
  subst h1 h2 h3
  obtain ⟨S, mv, sv, hN, hS, hW, hl, hF⟩ := h
  refine (put_any hN s hs).mono ?_
  rintro e w' ⟨rfl, S', mv', sv', hN', hF', hS'⟩
  refine ⟨rfl, S', mv', sv', hN', ?_, hW.far hF' (fun hm => ?_), hl, ?_⟩
  · intro b hb
    rcases hS' b hb with h | h
    · exact hS b h
    · right; have := hF.size; omega
  · rcases hS _ hm with h | h
    · exact hbg h
    · omega
  · refine hF.trans hF' (fun b hb hl => ?_)
    rcases hS b hb with h | h
    · simp [h]
    · omega
/-- Behind the store into the set. -/
theorem ord_store {g bm : Nat} {w4 w' w'' : World} {k : Nat} {L : List ByteArray} {s : ByteArray} {S : List Nat} {mv sv : Value} {D : DataW Unit} (hN : Nm w' g S (NP.putL L s) mv sv) (hS : ∀ b, b ∈ S → b = g ∨ w4.heap.size ≤ b) (hD : NP.Has D L) (hl : L.length ≤ k) (hF : Far [g, bm] w4 w')
    (hb : bm < w4.heap.size) (hbg : bm ≠ g) (hf : NP.fits s) (hn : L.length < 4096)
    (h1 : w''.ownsMap Try.prog 9 (plainElem (H := Unit) Try.prog 4) bm (k + 1) (D.put (NP.key s) (.lit (.bool true)))) (h2 : w'.grownBy w'' (some bm)) : Ord g bm w4 (k + 1) (NP.putL L s) w'' := by
  have F2 : Far [bm] w' w'' := Far.of_grown h2 (fun b hb _ => by simp at hb; simp [hb])
  refine ⟨S, mv, sv, hN.far F2 (fun b hb' e => ?_), hS, ⟨_, h1, ?_⟩, ?_, hF.trans F2 (fun b hb _ => by simp at hb; simp [hb])⟩
  · simp at e; subst e
    rcases hS _ hb' with h | h
    · exact hbg h
    · omega
  · rw [NP.putL_yes hf hn]; exact hD.put s
  · have := NP.putL_len L s; omega
theorem Ord.mono {g bm : Nat} {w4 wr : World} {k k' : Nat} {L : List ByteArray} (h : Ord g bm w4 k L wr) (hk : k ≤ k') : Ord g bm w4 k' L wr := by
  obtain ⟨S, mv, sv, hN, hS, ⟨D, hW, hD⟩, hl, hF⟩ := h
  exact ⟨S, mv, sv, hN, hS, ⟨D, hW.mono hk, hD⟩, by omega, hF⟩
set_option maxRecDepth 100000 in
set_option maxHeartbeats 4000000 in
theorem order_any {a : Option Addr} {la ca : Nat} {xs : List ByteArray} {w : World} (hx : MR.Strs w a la ca xs) :
    Calls Try.prog 6 #[.slice a la ca] w fun e w' => e = .returned (.bool true) ∧ Below w.heap.size w w' := by
  have hmm := @run_makeMap Try.prog
  have HX := Lib.hid hx
  clear hx
  go_enter Try.func6, Try.ntmps6
  go_wp2_with (fail)
  refine (shown_any w).mono ?_
  rintro e w1 ⟨rfl, hF1⟩
  go_wp2_with (fail)
  refine (new_any w1).mono ?_
  rintro e w2 ⟨g, rfl, hga, hN, hF2⟩
  have HF2 := Lib.hid (hF1.trans hF2 (by simp))
  have hgl := hN.head.lt
  have HN := Lib.hid hN
  have s1 := hF1.size
  clear hF1 hF2 hN
  go_wp2_with (fail)
  have hF2 := HF2.out
  refine (few_any ((HX.out.far hF2).far ((Far.refl [] _).alloc _))).mono ?_
  rintro e w4 ⟨v4, rfl, hown4, hF4⟩
  have k4 := hF4.size
  simp at k4
  obtain ⟨A4, c4, hv4, _, hd1, hd2, hsrc4, _⟩ := MO.form hown4
  unfold maxLen at hd2
  have hsx := Lib.hid (hsrc4 [g, w2.heap.size] (fun b hb e => by have := MM.own_lt hown4 b hb; simp at e this; omega))
  have hlx := NP.few_len xs
  have hzx := Lib.hid (NP.few_size xs)
  have hM : Seen w4 w2.heap.size 0 [] := Seen.far ⟨_, World.ownsMap_made w2 Try.prog 9 _, NP.Has.none_⟩ hF4 (by simp)
  have HO := Lib.hid (show Ord g w2.heap.size w4 0 [] w4 from ⟨[g], _, _, (HN.out.nil ((Far.refl [] _).alloc _)).nil hF4, by simp, hM, by simp, Far.refl _ _⟩)
  have hFw := Lib.hid ((hF2.trans ((Far.refl [] _).alloc (.map #[] 0)) (by simp)).trans hF4 (by simp))
  rw [hv4]
  generalize NP.few xs = x at *
  obtain ⟨n, hn⟩ : ∃ n, n = x.length := ⟨_, rfl⟩
  have HL := Lib.hid hn
  rw [← hn] at hd1 hlx ⊢
  obtain ⟨bm, hbm⟩ : ∃ bm, bm = w2.heap.size := ⟨_, rfl⟩
  have hbg : bm ≠ g := by omega
  have hbl : bm < w4.heap.size := by omega
  have hb0 : w.heap.size ≤ bm := by have := hF2.size; omega
  have hg0 : w.heap.size ≤ g := by omega
  rw [← hbm] at HO hsx ⊢
  have HBG := Lib.hid hbg
  clear hn hown4 hsrc4 hF4 HX HN hM hv4 hbm hbg hF2 HF2
  go_wp2_with (fail)
  go_loopw [21] (fun i wr => ∃ k : Nat, k ≤ n ∧ i = .int .i64 (k : Int) ∧ ∃ L, Hid (Ord g bm w4 (2 * k) L wr)) (fun i _ => n - (intOf i).toNat)
  case atStart => exact ⟨0, by omega, rfl, [], HO⟩
  case round =>
    obtain ⟨k, hk, rfl, L, hO⟩ := hrel
    by_cases hlt : k < n
    · have hkl : k < x.length := by rw [← HL.out]; exact hlt
      obtain ⟨b0, off, rfl, c0⟩ := row_cell hsx.out (by obtain ⟨_, _, _, _, _, _, _, h⟩ := hO.out; exact h) (by simp) k hkl
      obtain ⟨s, hs⟩ : ∃ s, x[k] = s := ⟨_, rfl⟩
      rw [hs] at c0
      have hsm : s.size ≤ 40 := hzx.out s (by rw [← hs]; exact List.getElem_mem _)
      clear hs
      have hL0 : L.length ≤ 200 := by obtain ⟨_, _, _, _, _, _, h, _⟩ := hO.out; omega
      have hlen : ∀ ty, _ := fun ty => (show Seen wr bm (2 * k) L from by obtain ⟨_, _, _, _, _, h, _⟩ := hO.out; exact h).len ty
      by_cases hf : NP.fits s
      · have hn0 : L.length < 4096 := by omega
        obtain ⟨i, hi⟩ : ∃ i, NP.putI L s = i := ⟨_, rfl⟩
        obtain ⟨T, hT⟩ : ∃ T, NP.putL L s = T := ⟨_, rfl⟩
        obtain ⟨c, hc⟩ : ∃ c, decide (s ∈ L) = c := ⟨_, rfl⟩
        have hic : (c = false ∧ i = L.length) ∨ (c = true ∧ decide ((L.length : Int) ≤ i) = false) := by
          subst hi hc
          rw [NP.putI_yes hf hn0, NP.putL_yes hf hn0]
          by_cases hm : s ∈ L
          · right
            have := List.idxOf_lt_length_iff.2 hm
            rw [if_pos hm, decide_eq_false_iff_not]
            exact ⟨by simpa using hm, by omega⟩
          · left
            rw [if_neg hm]
            exact ⟨by simpa using hm, by simp [List.idxOf_append, hm]⟩
        have hne : NP.fits (s ++ ⟨#[120]⟩) → (NP.putI T (s ++ ⟨#[120]⟩) == i) = false := by
          intro h
          subst hi hT
          rw [beq_eq_false_iff_ne]
          exact NP.putI_ne hf h (by omega) (NP.more_ne s)
        have HI := Lib.hid hi
        have HT := Lib.hid hT
        have HC := Lib.hid hc
        have HF := Lib.hid hf
        have HH := Lib.hid hO.out
        have HNE := Lib.hid hne
        have hE := Lib.hid (NP.putE_yes hf hn0)
        have hsz : (s ++ ⟨#[120]⟩ : ByteArray).size ≤ maxLen := by rw [NP.more_size]; unfold maxLen; omega
        have HSZ := Lib.hid hsz
        have HTL := Lib.hid (show T.length ≤ L.length + 1 from hT ▸ NP.putL_len L s)
        clear hi hT hc hf hO hne hsz
        rcases hic with ⟨rfl, rfl⟩ | ⟨rfl, hic⟩
        all_goals
          go_wp2_with (fail)
          refine (ord_put HH.out hbl HBG.out s (by unfold maxLen; omega) _ 0 T HI.out hE.out HT.out).mono ?_
          rintro e w5 ⟨rfl, S, mv, sv, hN5, hS5, ⟨D, hD1, hD2⟩, hl5, hF5⟩
          have hlk := Seen.look ⟨D, hD1, hD2⟩ s (by unfold maxLen; omega) _ HC.out
          have HK := Lib.hid (fun w6 => ord_store (w'' := w6) (HT.out ▸ hN5) hS5 hD2 hl5 hF5 hbl HBG.out HF.out (by omega))
          clear hN5 hD2 hS5
          go_wp2_with (at_mapUpdate; refine wpList_mapUpdate_own _ rfl _ _ _ 48 rfl 9 4 string_keyed_ Try.underlying48 _ bm (2 * k) D rfl hD1 (by unfold maxLen; omega) _ _ _ rfl rfl (key_of (by unfold maxLen; omega)) _ [] (plainElem_bool Try.underlying4 true) ?_; intro w6 m6 hg6)
          have HO6 := Lib.hid (HT.out ▸ HK.out w6 m6 hg6)
          obtain ⟨sx, hsx'⟩ : ∃ sx, s ++ ⟨#[120]⟩ = sx := ⟨_, rfl⟩
          rw [hsx'] at HNE HSZ ⊢
          by_cases hfx : NP.fits sx
          · have hne := HNE.out hfx
            have HFX := Lib.hid hfx
            obtain ⟨i2, hi2⟩ : ∃ i2, NP.putI T sx = i2 := ⟨_, rfl⟩
            rw [hi2] at hne
            have HI2 := Lib.hid hi2
            have hE2 := Lib.hid (NP.putE_yes (L := T) hfx (by have := HTL.out; omega))
            have hHT := HTL.out
            clear hfx hi2
            refine (ord_put HO6.out hbl HBG.out sx HSZ.out _ 0 _ HI2.out hE2.out rfl).mono ?_
            rintro e w7 ⟨rfl, S7, mv7, sv7, hN7, hS7, ⟨D7, hD71, hD72⟩, hl7, hF7⟩
            have HK7 := Lib.hid (fun w8 => ord_store (w'' := w8) hN7 hS7 hD72 hl7 hF7 hbl HBG.out HFX.out (by omega))
            clear hN7 hD72 hS7
            go_wp2_with (at_mapUpdate; refine wpList_mapUpdate_own _ rfl _ _ _ 48 rfl 9 4 string_keyed_ Try.underlying48 _ bm (2 * k + 1) D7 rfl hD71 (by unfold maxLen; omega) _ _ _ rfl rfl (key_of ?_) _ [] (plainElem_bool Try.underlying4 true) ?_; exact HSZ.out; intro w8 m8 hg8)
            go_roundw
            case rel =>
              exact ⟨k + 1, by omega, by go_num, _, Lib.hid (by rw [show 2 * (k + 1) = 2 * k + 1 + 1 from by omega]; exact HK7.out w8 m8 hg8)⟩
            case measure => simp [intOf]; omega
          · obtain ⟨i2, hi2⟩ : ∃ i2, NP.putI T sx = i2 := ⟨_, rfl⟩
            have HI2 := Lib.hid hi2
            have hE2 := Lib.hid (NP.putE_no (L := T) hfx)
            have hT2 := Lib.hid (NP.putL_no (L := T) hfx)
            clear hfx hi2
            refine (ord_put HO6.out hbl HBG.out sx HSZ.out _ 1 _ HI2.out hE2.out hT2.out).mono ?_
            rintro e w7 ⟨rfl, S7, mv7, sv7, hN7, hS7, hM7, hl7, hF7⟩
            have HK7 := Lib.hid (show Ord g bm w4 (2 * (k + 1)) T w7 from Ord.mono ⟨S7, mv7, sv7, hN7, hS7, hM7, hl7, hF7⟩ (by omega))
            clear hN7 hM7 hS7
            go_wp2_with (fail)
            go_roundw
            case rel => exact ⟨k + 1, by omega, by go_num, _, HK7⟩
            case measure => simp [intOf]; omega
      · have hE2 := Lib.hid (NP.putE_no (L := L) hf)
        have hT2 := Lib.hid (NP.putL_no (L := L) hf)
        have HH := Lib.hid hO.out
        obtain ⟨i2, hi2⟩ : ∃ i2, NP.putI L s = i2 := ⟨_, rfl⟩
        have HI2 := Lib.hid hi2
        clear hf hO hi2
        go_wp2_with (fail)
        refine (ord_put HH.out hbl HBG.out s (by unfold maxLen; omega) _ 1 L HI2.out hE2.out hT2.out).mono ?_
        rintro e w7 ⟨rfl, S7, mv7, sv7, hN7, hS7, hM7, hl7, hF7⟩
        have HK7 := Lib.hid (show Ord g bm w4 (2 * (k + 1)) L w7 from Ord.mono ⟨S7, mv7, sv7, hN7, hS7, hM7, hl7, hF7⟩ (by omega))
        clear hN7 hM7 hS7
        go_wp2_with (fail)
        go_roundw
        case rel => exact ⟨k + 1, by omega, by go_num, _, HK7⟩
        case measure => simp [intOf]; omega
    · obtain ⟨S, mv, sv, hN, hS, hM, hl, hF⟩ := hO.out
      have hlen := fun ty => hM.len ty
      have HFE := Lib.hid (hFw.out.trans hF (fun b hb hl => by simp at hb; omega))
      have HN := Lib.hid hN
      clear hO hN hM hS
      go_wp2_with (fail)
      refine (len_any HN.out).mono ?_
      rintro e w' ⟨rfl, rfl⟩
      go_wp2_with (fail)
      go_ret
      exact ⟨by simp, HFE.out.below_nil⟩
end NW
end Go.Proofs.Yteochpfdongcaaa
