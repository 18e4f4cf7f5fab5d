/-
  The walk of layer 4's statement NamesApart: it answers true for any two rows of names. No condition.
-/
import Derived.Test.YteochpfdongcaaaNamesLaws1
namespace Go.Proofs.Yteochpfdongcaaa
open Go.RowKit Go.Maps
namespace NP
theorem all_full (l : List ByteArray) (k : Nat) (h : l.length ≤ k) : all (l.take k) = all l := by rw [List.take_of_length_le h]
end NP
namespace NW
open MM
/-- A row of names that is read: the k-th cell, in a world that has turned none of S. -/
theorem row_cell {w wr : World} {S T : List Nat} {A : Option Addr} {l : List ByteArray} (h : Src w S A (strs l)) (hF : Far T w wr) (hT : ∀ b, b ∈ T → b ∈ S) (k : Nat) (hk : k < l.length) :
    ∃ b off, A = some ⟨b, off, none⟩ ∧ wr.cell? ⟨b, off + k, none⟩ = some (.string l[k]) := by
  obtain ⟨ad, rfl, hag, hadl, hc0⟩ := h (by simp [strs]; omega)
  obtain ⟨b, off, spot⟩ := ad
  have hc := hc0 k (.string l[k]) (by simp [strs, hk])
  obtain rfl : spot = none := by
    have h1 := hc0 0 (.string (l[0]'(by omega))) (by simp [strs, List.getElem?_eq_getElem (show 0 < l.length by omega)])
    rw [MR.add_zero_] at h1
    exact World.cell?_spot h1
  rw [MR.mk_add] at hc
  exact ⟨b, off, rfl, (hF.cell (p := ⟨b, off + k, none⟩) hadl (fun hm => hag (hT _ hm))).trans hc⟩
/-- One table, its names those of the first k of l. -/
def One (l : List ByteArray) (g : Nat) (w5 : World) (k : Nat) (wr : World) : Prop :=
  ∃ S mv sv, Nm wr g S (NP.all (l.take k)) mv sv ∧ (∀ b, b ∈ S → b = g ∨ w5.heap.size ≤ b) ∧ Far [g] w5 wr
theorem one_put {l : List ByteArray} {g : Nat} {w5 wr : World} {k : Nat} (h : One l g w5 k wr) (hk : k < l.length) (s : ByteArray) (hs : l[k] = s) (hm : s.size ≤ maxLen) :
    Calls Try.prog 13 #[ptr g, .string s] wr fun e w' => e = .returned (.tuple #[.int .i64 (NP.putI (NP.all (l.take k)) s), .int .i64 (NP.putE (NP.all (l.take k)) s)]) ∧ One l g w5 (k + 1) w' := by
  obtain ⟨S, mv, sv, hN, hS, hF⟩ := h
  refine (put_any hN s hm).mono ?_
  rintro e w' ⟨rfl, S', mv', sv', hN', hF', hS'⟩
  refine ⟨rfl, S', mv', sv', ?_, ?_, ?_⟩
  · rw [NP.all_snoc l k hk, hs]; exact hN'
  · intro b hb
    rcases hS' b hb with h | h
    · exact hS b h
    · right; have := hF.size; omega
  · refine hF.trans hF' (fun b hb hl => ?_)
    rcases hS b hb with h | h
    · simp [h]
    · omega
/-- Two tables beside each other. -/
def Two (x y : List ByteArray) (ga gb : Nat) (w5 : World) (i j : Nat) (wr : World) : Prop :=
  ∃ Sa ma sa Sb mb sb, Nm wr ga Sa (NP.all (x.take i)) ma sa ∧ Nm wr gb Sb (NP.all (y.take j)) mb sb ∧ (∀ b, b ∈ Sa → b = ga ∨ w5.heap.size ≤ b) ∧ (∀ b, b ∈ Sb → b = gb ∨ w5.heap.size ≤ b) ∧ (∀ b, b ∈ Sa → b ∉ Sb) ∧ Far [ga, gb] w5 wr
theorem Two.swap {x y : List ByteArray} {ga gb : Nat} {w5 wr : World} {i j : Nat} (h : Two x y ga gb w5 i j wr) : Two y x gb ga w5 j i wr := by
  obtain ⟨Sa, ma, sa, Sb, mb, sb, h1, h2, h3, h4, h5, h6⟩ := h
  exact ⟨Sb, mb, sb, Sa, ma, sa, h2, h1, h4, h3, fun b hb ha => h5 b ha hb, h6.mono (fun b hb _ => by simp at hb ⊢; omega)⟩
theorem two_put {x y : List ByteArray} {ga gb : Nat} {w5 wr : World} {i j : Nat} (h : Two x y ga gb w5 i j wr) (hk : i < x.length) (s : ByteArray) (hs : x[i] = s) (hm : s.size ≤ maxLen) :
    Calls Try.prog 13 #[ptr ga, .string s] wr fun e w' => e = .returned (.tuple #[.int .i64 (NP.putI (NP.all (x.take i)) s), .int .i64 (NP.putE (NP.all (x.take i)) s)]) ∧ Two x y ga gb w5 (i + 1) j w' := by
  obtain ⟨Sa, ma, sa, Sb, mb, sb, h1, h2, h3, h4, h5, h6⟩ := h
  refine (put_any h1 s hm).mono ?_
  rintro e w' ⟨rfl, S', mv', sv', hN', hF', hS'⟩
  refine ⟨rfl, S', mv', sv', Sb, mb, sb, ?_, h2.far hF' (fun b hb ha => h5 b ha hb), ?_, h4, ?_, ?_⟩
  · rw [NP.all_snoc x i hk, hs]; exact hN'
  · intro b hb
    rcases hS' b hb with h | h
    · exact h3 b h
    · right; have := h6.size; omega
  · intro b hb hb'
    rcases hS' b hb with h | h
    · exact h5 b h hb'
    · have := h2.lt b hb'; omega
  · refine h6.trans hF' (fun b hb hl => ?_)
    rcases h3 b hb with h | h
    · simp [h]
    · omega
theorem two_put' {x y : List ByteArray} {ga gb : Nat} {w5 wr : World} {i j : Nat} (h : Two x y ga gb w5 i j wr) (hk : j < y.length) (s : ByteArray) (hs : y[j] = s) (hm : s.size ≤ maxLen) :
    Calls Try.prog 13 #[ptr gb, .string s] wr fun e w' => e = .returned (.tuple #[.int .i64 (NP.putI (NP.all (y.take j)) s), .int .i64 (NP.putE (NP.all (y.take j)) s)]) ∧ Two x y ga gb w5 i (j + 1) w' :=
  (two_put h.swap hk s hs hm).mono fun _ _ ⟨h1, h2⟩ => ⟨h1, h2.swap⟩
theorem two_more {x y : List ByteArray} {ga gb : Nat} {w5 wr : World} {i i' j j' : Nat} (h : Two x y ga gb w5 i j wr) (hi : x.take i' = x.take i) (hj : y.take j' = y.take j) : Two x y ga gb w5 i' j' wr := by
  unfold Two at h ⊢
  rw [hi, hj]; exact h
set_option maxRecDepth 100000 in
set_option maxHeartbeats 4000000 in
theorem apart_any {a b : Option Addr} {la ca lb cb : Nat} {xs ys : List ByteArray} {w : World} (hx : MR.Strs w a la ca xs) (hy : MR.Strs w b lb cb ys) :
    Calls Try.prog 7 #[.slice a la ca, .slice b lb cb] w fun e w' => e = .returned (.bool true) ∧ Below w.heap.size w w' := by
  have HX := Lib.hid hx
  have HY := Lib.hid hy
  clear hx hy
  go_enter Try.func7, Try.ntmps7
  go_wp2_with (fail)
  refine (shown_any w).mono ?_
  rintro e w1 ⟨rfl, hF1⟩
  go_wp2_with (fail)
  refine (new_any w1).mono ?_
  rintro e w2 ⟨ga, rfl, hga, hNa, hF2⟩
  go_wp2_with (fail)
  refine (new_any w2).mono ?_
  rintro e w3 ⟨gb, rfl, hgb, hNb, hF3⟩
  go_wp2_with (fail)
  refine (new_any w3).mono ?_
  rintro e w4 ⟨gc, rfl, hgc, hNc, hF4⟩
  go_wp2_with (fail)
  have hFx : Far [] w w4 := ((hF1.trans hF2 (by simp)).trans hF3 (by simp)).trans hF4 (by simp)
  refine (few_any (HX.out.far hFx)).mono ?_
  rintro e w5 ⟨v5, rfl, hown5, hF5⟩
  go_wp2_with (fail)
  refine (few_any ((HY.out.far hFx).far hF5)).mono ?_
  rintro e w6 ⟨v6, rfl, hown6, hF6⟩
  have ha2 := hNa.head.lt
  have hb2 := hNb.head.lt
  have hc2 := hNc.head.lt
  have k3 := hF3.size
  have k4 := hF4.size
  have k5 := hF5.size
  have k6 := hF6.size
  have k1 := hFx.size
  have kk : w.heap.size ≤ w1.heap.size := hF1.size
  obtain ⟨A5, c5, hv5, _, hd1, hd2, hsrc5, _⟩ := MO.form hown5
  obtain ⟨A6, c6, hv6, _, he1, he2, hsrc6, _⟩ := MO.form hown6
  unfold maxLen at hd2 he2
  have hsx := Lib.hid ((hsrc5 [ga, gb, gc] (fun b hb e => by have := MM.own_lt hown5 b hb; simp at e; omega)).far hF6 (by simp))
  have hsy := Lib.hid (hsrc6 [ga, gb, gc] (fun b hb e => by have := MM.own_lt hown6 b hb; simp at e; omega))
  have hlx := NP.few_len xs
  have hly := NP.few_len ys
  have hzx := Lib.hid (NP.few_size xs)
  have hzy := Lib.hid (NP.few_size ys)
  have hFw := Lib.hid ((hFx.trans hF5 (by simp)).trans hF6 (by simp))
  have Na := Lib.hid ((((hNa.nil hF3).nil hF4).nil hF5).nil hF6)
  have Nb := Lib.hid (((hNb.nil hF4).nil hF5).nil hF6)
  have Nc := Lib.hid ((hNc.nil hF5).nil hF6)
  rw [hv5, hv6]
  generalize NP.few xs = x at *
  generalize NP.few ys = y at *
  obtain ⟨n, hn⟩ : ∃ n, n = x.length := ⟨_, rfl⟩
  obtain ⟨m, hm⟩ : ∃ m, m = y.length := ⟨_, rfl⟩
  have HN := Lib.hid hn
  have HM := Lib.hid hm
  rw [← hn] at hd1 hlx ⊢
  rw [← hm] at he1 hly ⊢
  have s5 : w.heap.size ≤ w6.heap.size := by omega
  clear hn hm hown5 hown6 hsrc5 hsrc6 hF1 hF2 hF3 hF4 hF5 hF6 HX HY hNa hNb hNc hFx hv5 hv6
  go_wp2_with (fail)
  go_loopw [39] (fun i wr => ∃ k : Nat, k ≤ n ∧ i = .int .i64 (k : Int) ∧ Hid (One x gc w6 k wr)) (fun i _ => n - (intOf i).toNat)
  case atStart => exact ⟨0, by omega, rfl, Lib.hid ⟨[gc], _, _, Nc.out, by simp, Far.refl _ _⟩⟩
  case round =>
    obtain ⟨k, hk, rfl, hO⟩ := hrel
    by_cases hlt : k < n
    · have hkl : k < x.length := by rw [← HN.out]; exact hlt
      obtain ⟨b0, off, rfl, c0⟩ := row_cell hsx.out (by obtain ⟨_, _, _, _, _, h⟩ := hO.out; exact h) (by simp) k hkl
      obtain ⟨s, hs⟩ : ∃ s, x[k] = s := ⟨_, rfl⟩
      rw [hs] at c0
      have hsm : s.size ≤ maxLen := by have := hzx.out s (by rw [← hs]; exact List.getElem_mem _); unfold maxLen; omega
      have HS := Lib.hid hs
      have HSM := Lib.hid hsm
      clear hs hsm
      go_wp2_with (fail)
      refine (one_put hO.out hkl s HS.out HSM.out).mono ?_
      rintro e w7 ⟨rfl, hO7⟩
      have H7 := Lib.hid hO7
      clear hO7
      go_wp2_with (fail)
      go_roundw
      case rel => exact ⟨k + 1, by omega, by go_num, H7⟩
      case measure => simp [intOf]; omega
    · obtain rfl : k = n := by omega
      rename World => w7
      obtain ⟨Sc, mc, sc, hNc, hSc, hFc⟩ := hO.out
      have hfull : NP.all (x.take k) = NP.all x := NP.all_full x k (by rw [HN.out]; exact Nat.le_refl _)
      rw [hfull] at hNc
      have Nc7 := Lib.hid hNc
      have HSc := Lib.hid hSc
      have HFc := Lib.hid hFc
      have Na7 := Lib.hid (Na.out.far hFc (by simp; omega))
      have Nb7 := Lib.hid (Nb.out.far hFc (by simp; omega))
      have HF7 := Lib.hid (hFw.out.trans hFc (by simp; omega))
      have kc := hFc.size
      clear hO Na Nb Nc hNc hSc hFc hfull
      go_wp2_with (fail)
      obtain ⟨q, hq⟩ : ∃ q : Nat, (max (k : Int) (m : Int)) = (q : Int) := ⟨max k m, by omega⟩
      have hq1 : k ≤ q := by omega
      have hq2 : m ≤ q := by omega
      have hq3 : q ≤ 100 := by omega
      have hq4 : q ≤ k ∨ q ≤ m := by omega
      have HQ := Lib.hid hq4
      rw [hq]
      clear hq hq4
      go_loopw [52] (fun i w8 => ∃ j : Nat, j ≤ q ∧ i = .int .i64 (j : Int) ∧ Hid (Two x y ga gb w7 j j w8)) (fun i _ => q - (intOf i).toNat)
      case atStart => exact ⟨0, by omega, rfl, Lib.hid ⟨[ga], _, _, [gb], _, _, Na7.out, Nb7.out, by simp, by simp, by simp; omega, Far.refl _ _⟩⟩
      case round =>
        obtain ⟨j, hj, rfl, hO⟩ := hrel
        by_cases hlt2 : j < q
        · have hgx : ∀ i i' w9, Two x y ga gb w7 i i' w9 → ∀ hk : j < x.length, ∃ b off s, A5 = some ⟨b, off, none⟩ ∧ w9.cell? ⟨b, off + j, none⟩ = some (.string s) ∧ x[j] = s ∧ s.size ≤ maxLen := by
            intro i i' w9 h hk
            obtain ⟨_, _, _, _, _, _, _, _, _, _, _, h6⟩ := h
            obtain ⟨b, off, e, c⟩ := row_cell (T := [ga, gb, gc]) hsx.out ((HFc.out.mono (S' := [ga, gb, gc]) (by simp)).trans h6 (by simp)) (fun _ h => h) j hk
            exact ⟨b, off, _, e, c, rfl, by have := hzx.out x[j] (List.getElem_mem _); unfold maxLen; omega⟩
          have hgy : ∀ i i' w9, Two x y ga gb w7 i i' w9 → ∀ hk : j < y.length, ∃ b off s, A6 = some ⟨b, off, none⟩ ∧ w9.cell? ⟨b, off + j, none⟩ = some (.string s) ∧ y[j] = s ∧ s.size ≤ maxLen := by
            intro i i' w9 h hk
            obtain ⟨_, _, _, _, _, _, _, _, _, _, _, h6⟩ := h
            obtain ⟨b, off, e, c⟩ := row_cell (T := [ga, gb, gc]) hsy.out ((HFc.out.mono (S' := [ga, gb, gc]) (by simp)).trans h6 (by simp)) (fun _ h => h) j hk
            exact ⟨b, off, _, e, c, rfl, by have := hzy.out y[j] (List.getElem_mem _); unfold maxLen; omega⟩
          have HGX := Lib.hid hgx
          have HGY := Lib.hid hgy
          clear hgx hgy
          by_cases hjx : j < k
          · have hjx' : j < x.length := by rw [← HN.out]; exact hjx
            obtain ⟨b0, off, s, rfl, c0, es, hsm⟩ := HGX.out _ _ _ hO.out hjx'
            have ES := Lib.hid es
            have HSM := Lib.hid hsm
            clear es hsm
            by_cases hjy : j < m
            · have hjy' : j < y.length := by rw [← HM.out]; exact hjy
              go_wp2_with (fail)
              refine (two_put hO.out hjx' s ES.out HSM.out).mono ?_
              rintro e w9 ⟨rfl, hO9⟩
              obtain ⟨b1, off1, s1, rfl, c1, es1, hsm1⟩ := HGY.out _ _ _ hO9 hjy'
              have ES1 := Lib.hid es1
              have HSM1 := Lib.hid hsm1
              have H9 := Lib.hid hO9
              clear es1 hsm1 hO9
              go_wp2_with (fail)
              refine (two_put' H9.out hjy' s1 ES1.out HSM1.out).mono ?_
              rintro e w10 ⟨rfl, hO10⟩
              have H10 := Lib.hid hO10
              clear hO10
              go_wp2_with (fail)
              go_roundw
              case rel => exact ⟨j + 1, by omega, by go_num, H10⟩
              case measure => simp [intOf]; omega
            · have hjy' : y.length ≤ j := by rw [← HM.out]; omega
              go_wp2_with (fail)
              refine (two_put hO.out hjx' s ES.out HSM.out).mono ?_
              rintro e w9 ⟨rfl, hO9⟩
              have H9 := Lib.hid (two_more (i' := j + 1) (j' := j + 1) hO9 rfl (by rw [List.take_of_length_le hjy', List.take_of_length_le (by omega)]))
              clear hO9
              go_wp2_with (fail)
              go_roundw
              case rel => exact ⟨j + 1, by omega, by go_num, H9⟩
              case measure => simp [intOf]; omega
          · have hjx' : x.length ≤ j := by rw [← HN.out]; omega
            have hjy : j < m := by have := HQ.out; omega
            have hjy' : j < y.length := by rw [← HM.out]; exact hjy
            obtain ⟨b1, off1, s1, rfl, c1, es1, hsm1⟩ := HGY.out _ _ _ hO.out hjy'
            have ES1 := Lib.hid es1
            have HSM1 := Lib.hid hsm1
            clear es1 hsm1
            go_wp2_with (fail)
            refine (two_put' hO.out hjy' s1 ES1.out HSM1.out).mono ?_
            rintro e w10 ⟨rfl, hO10⟩
            have H10 := Lib.hid (two_more (i' := j + 1) (j' := j + 1) hO10 (by rw [List.take_of_length_le hjx', List.take_of_length_le (by omega)]) rfl)
            clear hO10
            go_wp2_with (fail)
            go_roundw
            case rel => exact ⟨j + 1, by omega, by go_num, H10⟩
            case measure => simp [intOf]; omega
        · obtain rfl : j = q := by omega
          rename World => w8
          obtain ⟨Sa, ma, sa, Sb, mb, sb, h1, h2, h3, h4, h5, h6⟩ := hO.out
          have hfa : NP.all (x.take j) = NP.all x := NP.all_full x j (by rw [← HN.out]; omega)
          rw [hfa] at h1
          have Na8 := Lib.hid h1
          have hdis : ∀ b, b ∈ Sc → b ∉ [ga, gb] := by
            intro b hb
            rcases HSc.out b hb with e | e
            · simp; omega
            · simp; omega
          have Nc8 := Lib.hid (Nc7.out.far h6 hdis)
          have HF8 := Lib.hid (HF7.out.trans h6 (by simp; omega))
          have hL : (NP.all x).length ≤ 4096 := h1.ok.len
          generalize NP.all x = L at *
          clear h1 h2 h3 h4 h5 h6 hO hfa hdis Nc7 Na7 Nb7
          go_wp2_with (fail)
          refine (len_any Nc8.out).mono ?_
          rintro e w' ⟨rfl, rfl⟩
          go_wp2_with (fail)
          go_loopw [79] (fun i w9 => ∃ t : Nat, t ≤ L.length + 1 ∧ i = .int .i64 (t : Int) ∧ Hid (Far [] w8 w9)) (fun i _ => (L.length + 1) - (intOf i).toNat)
          case atStart => exact ⟨0, by omega, rfl, Lib.hid (Far.refl _ _)⟩
          case round =>
            obtain ⟨t, ht, rfl, hF9⟩ := hrel
            by_cases hlt3 : t < L.length + 1
            · go_wp2_with (fail)
              refine (text_any (Na8.out.nil hF9.out) t).mono ?_
              rintro e w10 ⟨rfl, hF10⟩
              have HF10 := Lib.hid (hF9.out.trans hF10 (by simp))
              clear hF10
              go_wp2_with (fail)
              refine (text_any (Nc8.out.nil HF10.out) t).mono ?_
              rintro e w11 ⟨rfl, hF11⟩
              have HF11 := Lib.hid (HF10.out.trans hF11 (by simp))
              clear hF11
              go_wp2_with (fail)
              go_roundw
              case rel => exact ⟨t + 1, by omega, by go_num, HF11⟩
              case measure => simp [intOf]; omega
            · go_wp2_with (fail)
              refine (len_any (Na8.out.nil hF9.out)).mono ?_
              rintro e w' ⟨rfl, rfl⟩
              go_wp2_with (fail)
              refine (len_any (Nc8.out.nil hF9.out)).mono ?_
              rintro e w' ⟨rfl, rfl⟩
              go_wp2_with (fail)
              go_ret
              exact ⟨by simp, (HF8.out.trans hF9.out (by simp)).below_nil⟩
end NW
end Go.Proofs.Yteochpfdongcaaa
