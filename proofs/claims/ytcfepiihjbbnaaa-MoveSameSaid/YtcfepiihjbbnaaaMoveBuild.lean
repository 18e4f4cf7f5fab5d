/-
  The contract of layer 3's build: both arenas, the code's and the document's, of the same things. Condition: the argument's reading.
-/
import Derived.Test.YtcfepiihjbbnaaaMoveArg
import Derived.Test.YtcfepiihjbbnaaaArenaSt
import Derived.Deep.RegionHeld3
import Derived.IntWalk
namespace Go.Proofs.Ytcfepiihjbbnaaa
open Go.RowKit
namespace ML
open AW RP RW AL
/-- Both arenas, at p, g, h and at q, hold the same things. -/
structure Two (w wr : World) (base p g h q n : Nat) (ts : List AP.Th) (v : Value) (hs : List Value) : Prop where
  ar : Ar wr p g h n ts
  rr : Rr wr base q n v ts hs
  far : MM.Far [] w wr
  size : base ≤ wr.heap.size
  lay : Lay w base base p g h q
section
variable {w wr w' : World} {base p g h q n : Nat} {ts : List AP.Th} {v : Value} {hs : List Value}
theorem Two.new (t : Two w wr base p g h q n ts v hs) (f : MM.Far [] wr w') : Two w w' base p g h q n ts v hs :=
  ⟨t.ar.far f (by simp) (by simp) (by simp), t.rr.far f (by simp), t.far.trans f (by simp), Nat.le_trans t.size f.size, t.lay⟩
theorem Two.both {w1 w2 : World} {T : List AP.Th} {v' : Value} {hs' : List Value} (t : Two w wr base p g h q n ts v hs) (a : Ar w1 p g h n T) (fa : MM.Far [p, g, h] wr w1) (r : Rr w2 base q n v' T hs') (fr : Fr q base w1 w2) : Two w w2 base p g h q n T v' hs' :=
  ⟨ar_r t.lay a fr, r, far_r t.lay (far_a t.lay t.far fa) fr, by have := fa.size; have := fr.size; have := t.size; omega, t.lay⟩
theorem t_a {xb : Nat} {l : List Value} (s : Ar wr p g h n ts) (hx : MM.Row wr xb 57 l) (f : MM.Far [p, g, h] wr w') : MM.Row w' xb 57 l :=
  hx.far f (fun hm => by
    have h1 := hx.ne s.head (by decide); have h2 := hx.ne s.words (by decide); have h3 := hx.ne s.kinds (by decide)
    simp at hm; omega)
end
theorem row_r {wr w' : World} {base q n : Nat} {ts : List AP.Th} {v : Value} {hs : List Value} {b : Nat} {t : TypeId} {l : List Value} (s : Rr wr base q n v ts hs) (hx : MM.Row wr b t l)
    (ht : t ≠ 65 ∧ t ≠ 42 ∧ t ≠ 68) (f : Fr q base wr w') : MM.Row w' b t l := by
  obtain ⟨S, f, hS⟩ := f
  refine hx.far f (fun hm => ?_)
  rcases hS _ hm with e | ⟨_, e⟩
  · exact hx.ne s.head ht.1 e
  · rcases e _ _ hx with e | e
    · exact ht.2.1 e
    · exact ht.2.2 e
/-- What build answers. -/
def Built (w : World) (a2 : Option Addr) (m cap2 : Nat) (e : Ending) (w' : World) : Prop :=
  ∃ (base p g h q n : Nat) (ts : List AP.Th) (v : Value) (hs : List Value), e = .returned (.tuple #[ptr p, ptr q, .slice a2 m cap2]) ∧ 1 ≤ n ∧ Two w w' base p g h q n ts v hs
theorem rr_base {w : World} {base q n : Nat} (h : Rr w base q n (.slice none 0 0) [] []) (base' : Nat) : Rr w base' q n (.slice none 0 0) [] [] := ⟨h.ok, h.head, MO.none_ _ _ _ _, MN.Kids.nil _ _ _⟩
set_option maxRecDepth 100000 in
set_option maxHeartbeats 4000000 in
theorem build_any (w : World) (size : Int) (a : Option Addr) (len cap : Nat) (tl : List Tg) (a2 : Option Addr) (len2 cap2 : Nat) (roots : List Int) (hz : Hp w size a len cap tl a2 len2 cap2 roots) (m : Nat) (hm : m = min len2 20) :
    Calls Try.prog 6 #[.agg #[.int .i64 size, .slice a len cap, .slice a2 len2 cap2]] w (Built w a2 m cap2) := by
  obtain ⟨b20, h20, hb20⟩ := and20 size
  have h10 := and1023 size
  obtain ⟨r10, hr10⟩ : ∃ r : Nat, size % 1024 = r := ⟨(size % 1024).toNat, by omega⟩
  have hr10' : r10 < 1024 := by omega
  rw [hr10] at h10
  have hle := hz.things.le
  have hmax := hz.things.max
  unfold maxLen at hmax
  have HZ := Lib.hid hz
  have HMm := Lib.hid hm
  have hm20 : m ≤ 20 := by omega
  have hm2 : m ≤ len2 := by omega
  have h2le := hz.roots.le
  have h2max := hz.roots.max
  have h2nil := hz.roots.nil
  unfold maxLen at h2max
  clear hz hr10 hm
  go_enter Try.func6, Try.ntmps6
  go_wp2_with (fail)
  obtain ⟨n, hn⟩ : ∃ n : Nat, (1 + (b20 : Int) / 1048576 + (r10 : Int)) = n := ⟨1 + b20 / 1048576 + r10, by omega⟩
  have hn1 : 1 ≤ n := by omega
  have hn2 : n ≤ 65536 := by omega
  have hX0 := MM.Row.new w 25 [.int .i64 size, .slice a len cap, .slice a2 len2 cap2]
  have hFX := (MM.Far.refl [] w).alloc (.cells #[.int .i64 size, .slice a len cap, .slice a2 len2 cap2] 25)
  have hX1 : MM.Row (w.alloc (.cells #[.int .i64 size, .slice a len cap, .slice a2 len2 cap2] 25)) w.heap.size 25 [.int .i64 size, .slice a len cap, .slice a2 len2 cap2] := hX0
  have hWs : (w.alloc (.cells #[.int .i64 size, .slice a len cap, .slice a2 len2 cap2] 25)).heap.size = w.heap.size + 1 := by simp
  generalize w.alloc (.cells #[.int .i64 size, .slice a len cap, .slice a2 len2 cap2] 25) = W0 at hX1 hFX hWs ⊢
  rw [hn]
  clear hX0 h20 h10
  refine (new_ok W0 n hn1 hn2).mono ?_
  rintro e w1 ⟨p, g, h, rfl, hp, hg, hh, hA1, hF1⟩
  clear hn
  go_wp2_with (fail)
  refine (rnew_ok w1 0 n hn1 hn2).mono ?_
  rintro e w2 ⟨q, rfl, hq, hR2, hF2⟩
  have hp1 := hA1.head.lt
  have hg1 := hA1.words.lt
  have hh1 := hA1.kinds.lt
  have hqs := hR2.head.lt
  have s1 := hF1.size
  have s2 := hF2.size
  have hX2 := (hX1.far hF1 (by simp)).far hF2 (by simp)
  have x1 := hX2.at (i := 1) rfl
  have hT2 : Two w w2 w2.heap.size p g h q n [] (.slice none 0 0) [] :=
    ⟨hA1.far hF2 (by simp) (by simp) (by simp), rr_base hR2 _, (hFX.trans hF1 (by simp)).trans hF2 (by simp), Nat.le_refl _,
      ⟨by omega, by omega, by omega, by omega, by omega, by omega, by omega, by omega, Nat.le_refl _, by omega, by omega, by omega⟩⟩
  have HT2 := Lib.hid hT2
  have HX2 := Lib.hid hX2
  obtain ⟨base, hbase⟩ : ∃ base, base = w2.heap.size := ⟨_, rfl⟩
  rw [← hbase] at HT2
  have hwb : w.heap.size < base := by omega
  clear hA1 hF1 hF2 hR2 hT2 hX2 hX1 hFX hbase hp hg hh hq hp1 hg1 hh1 hqs s1 s2 hWs
  go_wp2_with (fail)
  go_loopw [34] (fun s34 wr => ∃ (k : Nat) (ts : List AP.Th) (v : Value) (hs : List Value), k ≤ len ∧ s34 = .int .i64 k ∧ Two w wr base p g h q n ts v hs ∧ MM.Row wr w.heap.size 25 [.int .i64 size, .slice a len cap, .slice a2 len2 cap2]) (fun s34 _ => len - (intOf s34).toNat)
  case atStart => exact ⟨0, _, _, _, Nat.zero_le _, rfl, HT2.out, HX2.out⟩
  case round =>
    clear x1 HT2 HX2
    obtain ⟨k, ts, v, hs, hk, rfl, hT, hX⟩ := hrel
    by_cases hlt : k < len
    · have hkl : k < tl.length := by rw [HZ.out.things.len_]; exact hlt
      obtain ⟨b, off, rfl, hb, hcells, hok⟩ := HZ.out.things.elems k _ (List.getElem?_eq_getElem hkl)
      have hc : ∀ (j : Nat) (u : Value), (tl[k]).cells[j]? = some u → wr.cell? ⟨b, off + k * 2 + j, none⟩ = some u := by
        intro j u hu
        rw [hT.far.cell (p := ⟨b, off + k * 2 + j, none⟩) hb (by simp)]
        exact hcells j u hu
      obtain ⟨t, ht⟩ : ∃ t, tl[k] = t := ⟨_, rfl⟩
      rw [ht] at hc hok
      obtain ⟨tk, A, l, c, zs⟩ := t
      have c0 := hc 0 _ rfl
      have c1 := hc 1 _ rfl
      rw [Nat.add_zero] at c0
      have hzi := hok.hz
      simp only at c0 c1 hzi
      have hzl := hzi.len_
      have hIle := hzi.le
      have hImx := hzi.max
      have hInil := hzi.nil
      unfold maxLen at hImx
      have HZi := Lib.hid hzi
      have HX := Lib.hid hX
      have HT := Lib.hid hT
      have hkb : k ≤ 9223372036854775807 := by omega
      clear hc hcells ht hok hzi hX hT
      by_cases h60 : k < 60
      · go_upto_region 8 with (fail)
        obtain ⟨m9, hm9⟩ : ∃ m9, m9 = min l 9 := ⟨_, rfl⟩
        have hm91 : m9 ≤ l := by omega
        have hm92 : m9 ≤ 9 := by omega
        have HM9 := Lib.hid hm9
        have hl9 : (zs.take 9).length = m9 := by rw [List.length_take, hzl]; omega
        have HL9 := Lib.hid hl9
        have HU9 := Lib.hid (show ∀ y ∈ zs.take 9, WP.U y from fun y hy => u_of (HZi.out.wf y (List.mem_of_mem_take hy)))
        have HN9 : Hid (A = none → c = 0 ∧ m9 = 0) := fun hA0 => by have := hInil hA0; omega
        have HSrc := Lib.hid (fun (w2 : World) (S : List Nat) (hF : MM.Far [] w w2) (hS : ∀ b ∈ S, w.heap.size ≤ b) => take_old (S := S) HZi.out hF hS 9)
        generalize zs.take 9 = fs at HL9 HU9 HSrc
        have hXt := MM.Row.new wr 57 [.int .i64 tk, .slice A l c]
        have hTt := HT.out.new ((MM.Far.refl [] wr).alloc (.cells #[.int .i64 tk, .slice A l c] 57))
        have hXX := HX.out.alloc (.cells #[.int .i64 tk, .slice A l c] 57)
        obtain ⟨xb, hxb⟩ : ∃ xb, xb = wr.heap.size := ⟨_, rfl⟩
        obtain ⟨W, hW⟩ : ∃ W, W = wr.alloc (.cells #[.int .i64 tk, .slice A l c] 57) := ⟨_, rfl⟩
        rw [← hW] at hTt hXX
        rw [← hxb] at hXt ⊢
        rw [show wr.alloc (.cells [.int .i64 tk, .slice A l c].toArray 57) = W from hW.symm] at hXt
        rw [← hW]
        clear hW hxb c0 c1 hm9 hl9 HT HX
        have hdr : MM.Far [] W W.drew := (MM.Far.refl [] W).drew
        have hTd := hTt.new hdr
        have hbd : ∀ b ∈ [p, g, h], w.heap.size ≤ b := by
          intro b hb
          have h1 := hTt.lay.wp; have h2 := hTt.lay.wg; have h3 := hTt.lay.wh
          simp at hb; omega
        have HA0 := Lib.hid (alloc_to hTd.ar tk A m9 c fs _ _ _ HL9.out (by omega) HU9.out rfl rfl rfl (HSrc.out W.drew [p, g, h] hTd.far hbd))
        have HT := Lib.hid hTt
        have HX := Lib.hid hXX
        have HXt := Lib.hid hXt
        have HTA := Lib.hid (fun (w5 : World) (hF : MM.Far [p, g, h] W.drew w5) => t_a hTd.ar (hXt.far hdr (by simp)) hF)
        have y0 := hXt.at (i := 0) rfl
        have y1 := hXt.at (i := 1) rfl
        clear hXt hTt hXX hTd hdr hbd
        go_cut [51] (fun _ wx => Ar wx p g h n (allT n ts tk fs) ∧ MM.Far [p, g, h] W wx)
        case first =>
          have hm9 := HM9.out
          cases A with
          | none =>
            obtain rfl : c = 0 := hInil rfl
            obtain rfl : l = 0 := by omega
            obtain rfl : m9 = 0 := by omega
            clear hm9
            go_region_held3 (fun w' => w'.cell? ⟨xb, 0, none⟩ = some (.int .i64 tk) ∧ w'.cell? ⟨xb, 1, none⟩ = some (.slice none 0 0)) (go_keep) (first
              | (go_at_call 19
                 (with_reducible refine HA0.out.mono ?_)
                 rintro e w5 ⟨rfl, hA5, hF5⟩
                 have z0 := (HTA.out w5 hF5).at (i := 0) rfl
                 have z1 := (HTA.out w5 hF5).at (i := 1) rfl
                 have HA5 := Lib.hid hA5
                 have HF5 := Lib.hid hF5
                 clear hA5 hF5))
            all_goals
              go_wp2_with (fail)
              go_meet
              exact ⟨HA5.out, (((MM.Far.refl [p, g, h] W).drew).trans HF5.out (fun b hb _ => hb))⟩
          | some ad =>
            by_cases h9 : l ≤ 9
            · obtain rfl : m9 = l := by omega
              rcases Nat.eq_zero_or_pos c with hc0 | hc0
              · subst hc0
                obtain rfl : m9 = 0 := by omega
                clear hm9
                go_region_held3 (fun w' => w'.cell? ⟨xb, 0, none⟩ = some (.int .i64 tk) ∧ w'.cell? ⟨xb, 1, none⟩ = some (.slice (some ad) 0 0)) (go_keep) (first
                  | (go_at_call 19
                     (with_reducible refine HA0.out.mono ?_)
                     rintro e w5 ⟨rfl, hA5, hF5⟩
                     have z0 := (HTA.out w5 hF5).at (i := 0) rfl
                     have z1 := (HTA.out w5 hF5).at (i := 1) rfl
                     have HA5 := Lib.hid hA5
                     have HF5 := Lib.hid hF5
                     clear hA5 hF5))
                all_goals
                  go_wp2_with (fail)
                  go_meet
                  exact ⟨HA5.out, (((MM.Far.refl [p, g, h] W).drew).trans HF5.out (fun b hb _ => hb))⟩
              · have i0 : ¬ c = 0 := by omega
                have i1 : (0 : Int) ≤ (m9 : Int) := by omega
                have i2 : (m9 : Int) ≤ (c : Int) := by omega
                have i3 : (m9 : Int) ≤ 9 := by omega
                have i6 : (if (9 : Int) < (m9 : Int) then (9 : Int) else (m9 : Int)) = m9 := if_neg (by omega)
                have i7 : ¬ (9 : Int) < (m9 : Int) := by omega
                clear hm9
                go_region_held3 (fun w' => w'.cell? ⟨xb, 0, none⟩ = some (.int .i64 tk) ∧ w'.cell? ⟨xb, 1, none⟩ = some (.slice (some ad) m9 c)) (go_keep) (first
                  | (go_at_call 19
                     (with_reducible refine HA0.out.mono ?_)
                     rintro e w5 ⟨rfl, hA5, hF5⟩
                     have z0 := (HTA.out w5 hF5).at (i := 0) rfl
                     have z1 := (HTA.out w5 hF5).at (i := 1) rfl
                     have HA5 := Lib.hid hA5
                     have HF5 := Lib.hid hF5
                     clear hA5 hF5))
                all_goals
                  go_wp2_with (fail)
                  go_meet
                  exact ⟨HA5.out, (((MM.Far.refl [p, g, h] W).drew).trans HF5.out (fun b hb _ => hb))⟩
            · obtain rfl : m9 = 9 := by omega
              have i2 : (9 : Int) ≤ (c : Int) := by omega
              have i3 : (9 : Int) < (l : Int) := by omega
              have i4 : ¬ (l : Int) ≤ 9 := by omega
              clear hm9
              go_region_held3 (fun w' => w'.cell? ⟨xb, 0, none⟩ = some (.int .i64 tk) ∧ w'.cell? ⟨xb, 1, none⟩ = some (.slice (some ad) l c)) (go_keep) (first
                | (go_at_call 19
                   (with_reducible refine HA0.out.mono ?_)
                   rintro e w5 ⟨rfl, hA5, hF5⟩
                   have z0 := (HTA.out w5 hF5).at (i := 0) rfl
                   have z1 := (HTA.out w5 hF5).at (i := 1) rfl
                   have HA5 := Lib.hid hA5
                   have HF5 := Lib.hid hF5
                   clear hA5 hF5))
              all_goals
                go_wp2_with (fail)
                go_meet
                exact ⟨HA5.out, (((MM.Far.refl [p, g, h] W).drew).trans HF5.out (fun b hb _ => hb))⟩
        case rest =>
          obtain ⟨hA5, hF5⟩ := hcut
          have hX5 := t_a HT.out.ar HXt.out hF5
          have hXX5 : MM.Row wc w.heap.size 25 [.int .i64 size, .slice (some ⟨b, off, none⟩) len cap, .slice a2 len2 cap2] := HX.out.far hF5 (by
            have h1 := HT.out.lay.wp; have h2 := HT.out.lay.wg; have h3 := HT.out.lay.wh
            have g1 := HX.out.ne HT.out.ar.head (by decide); have g2 := HX.out.ne HT.out.ar.words (by decide); have g3 := HX.out.ne HT.out.ar.kinds (by decide)
            simp; omega)
          have hR5 := rr_a HT.out.lay HT.out.rr hF5
          have hfar5 := far_a HT.out.lay HT.out.far hF5
          have hdr : MM.Far [] wc wc.drew := (MM.Far.refl [] wc).drew
          have hs5 : base ≤ wc.heap.size := by have := hF5.size; have := HT.out.size; omega
          have HR0 := Lib.hid (ralloc_len (hR5.far hdr (by simp)) hs5 tk A m9 c fs HL9.out (by omega) HU9.out HN9.out (HSrc.out wc.drew [] (hfar5.trans hdr (by simp)) (by simp)))
          have HEnd := Lib.hid (fun (w6 : World) (v6 : Value) (hs6 : List Value) (hR6 : Rr w6 base q n v6 (allT n ts tk fs) hs6) (hF6 : Fr q base wc.drew w6) =>
            show Two w w6 base p g h q n (allT n ts tk fs) v6 hs6 ∧ MM.Row w6 w.heap.size 25 [.int .i64 size, .slice (some ⟨b, off, none⟩) len cap, .slice a2 len2 cap2] ∧ MM.Row w6 xb 57 [.int .i64 tk, .slice A l c] from
              ⟨HT.out.both hA5 hF5 hR6 (Fr.trans (Fr.of_nil hdr) hF6), row_r (hR5.far hdr (by simp)) (hXX5.far hdr (by simp)) (by decide) hF6, row_r (hR5.far hdr (by simp)) (hX5.far hdr (by simp)) (by decide) hF6⟩)
          clear y0 y1
          have y0 := hX5.at (i := 0) rfl
          have y1 := hX5.at (i := 1) rfl
          clear hA5 hF5 hX5 hXX5 hR5 hfar5 hdr hs5
          go_upto_region 9 with (fail)
          have hm9 := HM9.out
          cases A with
          | none =>
            obtain rfl : c = 0 := hInil rfl
            obtain rfl : l = 0 := by omega
            obtain rfl : m9 = 0 := by omega
            clear hm9
            go_region_held3 (fun w' => w'.cell? ⟨xb, 0, none⟩ = some (.int .i64 tk) ∧ w'.cell? ⟨xb, 1, none⟩ = some (.slice none 0 0)) (go_keep) (first
              | (go_at_call 21
                 (with_reducible refine HR0.out.mono ?_)
                 rintro e w6 ⟨rfl, v6, hs6, hR6, hF6⟩
                 have HE := Lib.hid (HEnd.out w6 v6 hs6 hR6 hF6)
                 have z0 := HE.out.2.2.at (i := 0) rfl
                 have z1 := HE.out.2.2.at (i := 1) rfl
                 clear hR6 hF6))
            all_goals
              go_wp2_with (fail)
              go_roundw
              case rel => exact ⟨k + 1, _, _, _, by omega, by go_num, HE.out.1, HE.out.2.1⟩
              case measure => simp [intOf]; omega
          | some ad =>
            by_cases h9 : l ≤ 9
            · obtain rfl : m9 = l := by omega
              rcases Nat.eq_zero_or_pos c with hc0 | hc0
              · subst hc0
                obtain rfl : m9 = 0 := by omega
                clear hm9
                go_region_held3 (fun w' => w'.cell? ⟨xb, 0, none⟩ = some (.int .i64 tk) ∧ w'.cell? ⟨xb, 1, none⟩ = some (.slice (some ad) 0 0)) (go_keep) (first
                  | (go_at_call 21
                     (with_reducible refine HR0.out.mono ?_)
                     rintro e w6 ⟨rfl, v6, hs6, hR6, hF6⟩
                     have HE := Lib.hid (HEnd.out w6 v6 hs6 hR6 hF6)
                     have z0 := HE.out.2.2.at (i := 0) rfl
                     have z1 := HE.out.2.2.at (i := 1) rfl
                     clear hR6 hF6))
                all_goals
                  go_wp2_with (fail)
                  go_roundw
                  case rel => exact ⟨k + 1, _, _, _, by omega, by go_num, HE.out.1, HE.out.2.1⟩
                  case measure => simp [intOf]; omega
              · have i0 : ¬ c = 0 := by omega
                have i1 : (0 : Int) ≤ (m9 : Int) := by omega
                have i2 : (m9 : Int) ≤ (c : Int) := by omega
                have i3 : (m9 : Int) ≤ 9 := by omega
                have i6 : (if (9 : Int) < (m9 : Int) then (9 : Int) else (m9 : Int)) = m9 := if_neg (by omega)
                have i7 : ¬ (9 : Int) < (m9 : Int) := by omega
                clear hm9
                go_region_held3 (fun w' => w'.cell? ⟨xb, 0, none⟩ = some (.int .i64 tk) ∧ w'.cell? ⟨xb, 1, none⟩ = some (.slice (some ad) m9 c)) (go_keep) (first
                  | (go_at_call 21
                     (with_reducible refine HR0.out.mono ?_)
                     rintro e w6 ⟨rfl, v6, hs6, hR6, hF6⟩
                     have HE := Lib.hid (HEnd.out w6 v6 hs6 hR6 hF6)
                     have z0 := HE.out.2.2.at (i := 0) rfl
                     have z1 := HE.out.2.2.at (i := 1) rfl
                     clear hR6 hF6))
                all_goals
                  go_wp2_with (fail)
                  go_roundw
                  case rel => exact ⟨k + 1, _, _, _, by omega, by go_num, HE.out.1, HE.out.2.1⟩
                  case measure => simp [intOf]; omega
            · obtain rfl : m9 = 9 := by omega
              have i2 : (9 : Int) ≤ (c : Int) := by omega
              have i3 : (9 : Int) < (l : Int) := by omega
              have i4 : ¬ (l : Int) ≤ 9 := by omega
              clear hm9
              go_region_held3 (fun w' => w'.cell? ⟨xb, 0, none⟩ = some (.int .i64 tk) ∧ w'.cell? ⟨xb, 1, none⟩ = some (.slice (some ad) l c)) (go_keep) (first
                | (go_at_call 21
                   (with_reducible refine HR0.out.mono ?_)
                   rintro e w6 ⟨rfl, v6, hs6, hR6, hF6⟩
                   have HE := Lib.hid (HEnd.out w6 v6 hs6 hR6 hF6)
                   have z0 := HE.out.2.2.at (i := 0) rfl
                   have z1 := HE.out.2.2.at (i := 1) rfl
                   clear hR6 hF6))
              all_goals
                go_wp2_with (fail)
                go_roundw
                case rel => exact ⟨k + 1, _, _, _, by omega, by go_num, HE.out.1, HE.out.2.1⟩
                case measure => simp [intOf]; omega
      · have h60' : ¬ (k : Int) < 60 := by omega
        go_wp2_with (fail)
        go_roundw
        case rel => exact ⟨k + 1, ts, v, hs, by omega, by go_num, HT.out.new ((MM.Far.refl [] wr).alloc _), HX.out.alloc _⟩
        case measure => simp [intOf]; omega
    · have x2 := hX.at (i := 2) rfl
      have HT := Lib.hid hT
      clear hX hT
      have hmE := HMm.out
      have hd := Lib.hid (MM.Far.refl [] wr)
      cases a2 with
      | none =>
        obtain rfl : cap2 = 0 := h2nil rfl
        obtain rfl : len2 = 0 := by omega
        obtain rfl : m = 0 := by omega
        clear hmE
        go_wp2_with (fail)
        go_region
        all_goals
          go_wp2_with (fail)
          go_ret3
          exact ⟨base, p, g, h, q, n, ts, v, hs, rfl, hn1, HT.out.new hd.out.drew⟩
      | some ad =>
        by_cases h20 : len2 ≤ 20
        · obtain rfl : m = len2 := by omega
          have i1 : (0 : Int) ≤ (m : Int) := by omega
          have i2 : (m : Int) ≤ (cap2 : Int) := by omega
          have i3 : (m : Int) ≤ 20 := by omega
          clear hmE
          go_wp2_with (fail)
          go_region
          all_goals
            go_wp2_with (fail)
            go_ret3
            exact ⟨base, p, g, h, q, n, ts, v, hs, rfl, hn1, HT.out.new hd.out.drew⟩
        · obtain rfl : m = 20 := by omega
          have i2 : (20 : Int) ≤ (cap2 : Int) := by omega
          have i3 : (20 : Int) < (len2 : Int) := by omega
          have i4 : ¬ (len2 : Int) ≤ 20 := by omega
          clear hmE
          go_wp2_with (fail)
          go_region
          all_goals
            go_wp2_with (fail)
            go_ret3
            exact ⟨base, p, g, h, q, n, ts, v, hs, rfl, hn1, HT.out.new hd.out.drew⟩
end ML
end Go.Proofs.Ytcfepiihjbbnaaa
