/-
  Layer 8's law of any row: forms of data, or where they are wrong, are the document's. Conditions: the arguments' reading.
-/
import Derived.Test.YtaghlpolljaedaaGreatExpDta
import Derived.Test.YtaghlpolljaedaaGreatExpMayP
import Derived.Test.YtaghlpolljaedaaGreatReadLaws6
import Derived.SizedLaws
namespace Go.Proofs.YtaghlpolljaedaaGreat
open Go.RowKit
set_option linter.unusedVariables false
namespace RW6
open LX RX RM6
set_option maxHeartbeats 2000000 in
theorem few8_any (a : Option Addr) (len cap : Nat) (tl : List Na) (w : World) (hz : Nas w a len cap tl) :
    Calls Tryz.prog 7 #[.slice a len cap] w fun e w' => ∃ v, e = .returned v ∧ Gathered w w' v tl len := by
  have hle := hz.le
  have hmax := hz.max
  unfold maxLen at hmax
  have HZ := Lib.hid hz
  clear hz
  go_enter Tryz.func7, Tryz.ntmps7
  go_wp2_with (fail)
  go_loopw [3, 8] (fun v i wr => ∃ k : Nat, k ≤ len ∧ i = .int .i64 k ∧ Gathered w wr v tl k) (fun _ i _ => len - (intOf i).toNat)
  case atStart => exact ⟨0, Nat.zero_le _, rfl, MO.none_ _ _ _ _, MM.Far.refl _ _⟩
  case round =>
    obtain ⟨k, hk, rfl, hG, hF⟩ := hrel
    by_cases hlt : k < len
    · have hkl : k < tl.length := by rw [HZ.out.len_]; exact hlt
      obtain ⟨b, off, rfl, hb, hcells, hok⟩ := HZ.out.elems k _ (List.getElem?_eq_getElem hkl)
      have hc : ∀ (j : Nat) (u : Value), (tl[k]).cells[j]? = some u → wr.cell? ⟨b, off + k * 5 + j, none⟩ = some u := by
        intro j u hu
        rw [hF.cell (p := ⟨b, off + k * 5 + j, none⟩) hb (by simp)]
        exact hcells j u hu
      have HT := Lib.hid (rfl : tl[k] = tl[k])
      obtain ⟨t, ht⟩ : ∃ t, tl[k] = t := ⟨_, rfl⟩
      rw [ht] at hc hok
      obtain ⟨tk, tn, ti, tw, tA, tn2, tc, tzs⟩ := t
      have h0 := hc 0 _ rfl
      have h1 := hc 1 _ rfl
      have h2 := hc 2 _ rfl
      have h3 := hc 3 _ rfl
      have h4 := hc 4 _ rfl
      rw [Nat.add_zero] at h0
      have hIle := hok.hz.le
      have hImx := hok.hz.max
      have hInil := hok.hz.nil
      unfold maxLen at hImx
      simp only at h0 h1 h2 h3 h4 hIle hImx hInil
      have HTK := Lib.hid ht
      clear hc hcells ht HT hok
      by_cases h80 : k < 60
      · go_upto_region 6 with (fail)
        obtain ⟨m, hm⟩ : ∃ m, m = min tn2 20 := ⟨_, rfl⟩
        have hm1 : m ≤ tn2 := by omega
        have hm2 : m ≤ 20 := by omega
        have HM := Lib.hid hm
        clear hm
        go_cut [16] (fun s16 wx => wx = wr.alloc (.cells #[.int .u8 tk, .int .i64 tn, .int .i64 ti, .string tw, .slice tA m tc] 53))
        case first =>
          have hm := HM.out
          cases tA with
          | none =>
            obtain rfl : tc = 0 := hInil rfl
            obtain rfl : tn2 = 0 := by omega
            obtain rfl : m = 0 := by omega
            clear hm
            go_wp2
            go_meet
            rfl
          | some ad =>
            by_cases h26 : tn2 ≤ 20
            · obtain rfl : m = tn2 := by omega
              clear hm
              go_wp2
              go_meet
              first | rfl | (rw [show (min (m : Int) 20).toNat = m from by omega])
            · obtain rfl : m = 20 := by omega
              clear hm
              go_wp2
              go_meet
              first | rfl | (rw [show (min (tn2 : Int) 20).toNat = 20 from by omega])
        case rest =>
          subst hcut
          have hGl := gathered_le tl k
          have hfl := flat_len (gathered tl k)
          have s1 := hF.size
          have HGA := Lib.hid ((hG.alloc (.cells #[.int .u8 tk, .int .i64 tn, .int .i64 ti, .string tw, .slice tA m tc] 53)).alloc (.cells #[.int .u8 tk, .int .i64 tn, .int .i64 ti, .string tw, .slice tA m tc] 53))
          have HFl := Lib.hid hfl
          have HGO := Lib.hid (MM.own_lt hG)
          clear hG hfl
          go_wp2_with (first
            | (refine MO.wpList_append _ ?_ (.tmp 23) (.tmp 25) 22 ?_ w.heap.size 53 _ 5 64 RC6.nodes_slice RC6.node_info rfl (by omega) _ (gathered tl k).length (flat (gathered tl k)) ?_ HGA.out (some ⟨wr.heap.size + 1, 0, none⟩) 1 1 (Na.cells ⟨tk, tn, ti, tw, tA, m, tc, tzs.take 20⟩) ?_ rfl (fun h => by cases h) [] ?_ (cells_one _) (by simp only [maxLen]; omega) (by omega) (by simp; omega) ?_
               · rfl
               · rfl
               · rfl
               · rfl
               · have := MM.Row.new (wr.alloc (.cells #[.int .u8 tk, .int .i64 tn, .int .i64 ti, .string tw, .slice tA m tc] 53)) 53 (Na.cells ⟨tk, tn, ti, tw, tA, m, tc, tzs.take 20⟩)
                 rw [World.size_alloc] at this
                 exact MM.Src.row this (by simp) _ (fun j u hu => hu)
               intro v1 wG hv1 hg1 hat1))
          go_roundw
          case rel =>
            refine ⟨k + 1, by omega, by go_num, ?_, ?_⟩
            · have hkl2 : k < tl.length := hkl
              have hcut : (tl[k]).cut = ⟨tk, tn, ti, tw, tA, m, tc, tzs.take 20⟩ := by
                rw [HTK.out]; simp only [Na.cut]; rw [HM.out]
              rw [gathered_next tl k hkl2 h80, hcut, List.length_append, List.length_singleton]
              have e : flat (gathered tl k ++ [⟨tk, tn, ti, tw, tA, m, tc, tzs.take 20⟩]) = flat (gathered tl k) ++ Na.cells ⟨tk, tn, ti, tw, tA, m, tc, tzs.take 20⟩ := by simp [flat]
              rw [e]; exact hv1
            · refine (((hF.alloc _).alloc _)).trans (MM.Far.of_grown (S := u3.ownBlock.toList) hg1 (by intro b1 hb1 _; simp [hb1])) (fun b1 hb1 _ => ?_)
              have := HGO.out b1 (by simpa using hb1)
              omega
          case measure => simp [intOf]; omega
      · have HG := Lib.hid hG
        clear hG
        go_wp2_with (fail)
        go_roundw
        case rel =>
          refine ⟨k + 1, by omega, by go_num, ?_, hF.alloc _⟩
          rw [gathered_stay tl k h80]
          exact HG.out.alloc _
        case measure => simp [intOf]; omega
    · have hkl : k = len := by omega
      subst hkl
      have HG := Lib.hid hG
      clear hG
      go_wp2_with (fail)
      go_ret
      exact ⟨_, rfl, HG.out, hF⟩
open Go.ChangeShapes Go.WideShapes Go.Deep
theorem weightsAll_mem {H : Type} {P : Program} {e : TypeId} : ∀ {ds : List (DataW H)} {d : DataW H}, d ∈ ds → ∀ n ∈ d.weights P e, n ∈ DataW.weightsAll P e ds
  | [], _, h, _, _ => by cases h
  | d0 :: ds, d, h, n, hn => by
    simp only [DataW.weightsAll, List.mem_append]
    rcases List.mem_cons.1 h with rfl | h
    · exact .inl hn
    · exact .inr (weightsAll_mem h n hn)
section
variable {H : Type} {enc : TypeId × Value → H} {w : World} {fuel : Nat}
theorem field_at {P : Program} {t : TypeId} {fs : Array Field} {cs : List Value} {x : DataW H × List MemPlace} (ht : P.underlying t = some (.struct fs)) (hone : oneCellFields P fs = true) (hC : P.cellsOf t = fs.size) (h : DataW.trod enc P w 0 (fun _ => true) true fuel t cs = some x) (j : Nat) (f : Field) (hj : fs[j]? = some f) :
    ∃ v n y, cs[j]? = some v ∧ DataW.trod enc P w 0 (fun _ => true) true n f.type [v] = some y ∧ ∀ k ∈ y.1.weights P f.type, k ∈ x.1.weights P t := by
  obtain ⟨ys, n, _, rfl, hlen, hyl, hf⟩ := DataW.trod_struct ht h
  rw [hC] at hlen
  obtain ⟨ho, hk⟩ := hone_of hone j f hj
  have hjl : j < fs.size := (Array.getElem?_eq_some_iff.1 hj).1
  have h1 := hf j f hj
  rw [ho, hk] at h1
  have e1 : (cs.drop j).take 1 = [cs[j]'(by omega)] := by
    rw [List.drop_eq_getElem_cons (by omega)]; rfl
  rw [e1] at h1
  have hys : ys[j]? = some (ys[j]'(by omega)) := List.getElem?_eq_getElem (by omega)
  refine ⟨_, n, _, List.getElem?_eq_getElem (by omega), h1.trans hys, fun k hkk => ?_⟩
  show k ∈ DataW.weights P t (.agg (ys.map (·.1)))
  unfold DataW.weights
  rw [ht]
  exact DataW.weights_mem_each (j := j) (t := f.type) (d := (ys[j]'(by omega)).1) (by rw [List.getElem?_map, Array.getElem?_toList, hj]; rfl) (by rw [List.getElem?_map, hys]; rfl) _ hkk
theorem na_size {cs : List Value} {x : DataW H × List MemPlace} (h : DataW.trod enc Tryz.prog w 0 (fun _ => true) true fuel 53 cs = some x) (t : Na) (e : cs = t.cells) : t.s.size ∈ x.1.weights Tryz.prog 53 := by
  subst e
  obtain ⟨v, n, y, hv, hy, hk⟩ := field_at Tryz.underlying53 (by kernel_rfl) (by kernel_rfl) h 3 _ rfl
  have hv3 : v = .string t.s := by
    have e : (Na.cells t)[3]? = some (.string t.s) := rfl
    rw [e] at hv
    injection hv with hv
    exact hv.symm
  subst hv3
  obtain ⟨s, es, ex, _⟩ := DataW.trod_string Tryz.underlying9 hy
  injection es with es _
  injection es with es
  subst es
  refine hk _ ?_
  rw [ex]
  have hsz : t.s.size = t.s.data.toList.length := by rw [Array.length_toList]; rfl
  rw [hsz]
  simp [DataW.weights]
theorem nas_of2 {cs : List Value} {x : DataW H × List MemPlace} (h : DataW.trod enc Tryz.prog w 0 (fun _ => true) true fuel 22 cs = some x) (R : Nat) (hw : ∀ n ∈ x.1.weights Tryz.prog 22, n ≤ R) : ∃ a len cap tl, cs = [.slice a len cap] ∧ Nas w a len cap tl ∧ ∀ t ∈ tl, t.s.size ≤ R := by
  obtain ⟨a, len, cap, tl, rfl, hz⟩ := nas_of h
  refine ⟨a, len, cap, tl, rfl, hz, fun t ht => ?_⟩
  obtain ⟨i, hi, rfl⟩ := List.getElem_of_mem ht
  have hil : i < len := hz.len_ ▸ hi
  rcases open_slice Tryz.underlying22 h with ⟨e, _⟩ | ⟨ad, len', cap', m, n, D, Pl, e, hb, hl, hm, hmm, rfl, hx⟩
  · injection e with e _
    injection e with _ e2 _
    omega
  · injection e with e _
    injection e with e1 e2 e3
    subst e1 e2 e3
    simp at hmm
    obtain ⟨cs', hc, ht5⟩ := hx i (by omega)
    have hC : Tryz.prog.cellsOf 53 = 5 := by kernel_rfl
    rw [hC] at hc
    obtain ⟨b, off, ea, hb', hcells, ho⟩ := hz.elems i tl[i] (List.getElem?_eq_getElem hi)
    injection ea with ea
    subst ea
    obtain ⟨_, hlen, hat⟩ := World.cells?_some hc
    have hcl : (tl[i]).cells.length = 5 := rfl
    have e5 : cs' = (tl[i]).cells := by
      apply List.ext_getElem?
      intro j
      by_cases hj : j < 5
      · have h1 := hat j hj
        rw [MR.add_add_, MR.mk_add] at h1
        have h2 := hcells j ((tl[i]).cells[j]'(by omega)) (List.getElem?_eq_getElem (by omega))
        rw [← Nat.add_assoc] at h1
        rw [← h1, h2, List.getElem?_eq_getElem (by omega)]
      · rw [List.getElem?_eq_none (by omega), List.getElem?_eq_none (by omega)]
    refine hw _ ?_
    show (tl[i]).s.size ∈ DataW.weights Tryz.prog 22 (.slice ((List.range len).map D) ((List.range (m - len)).map fun j => D (len + j)))
    unfold DataW.weights
    rw [Tryz.underlying22]
    exact List.mem_cons_of_mem _ (List.mem_append_left _ (weightsAll_mem (d := D i) (List.mem_map.2 ⟨i, by simpa using hil, rfl⟩) _ (na_size ht5 _ e5)))
end
end RW6
namespace EW
open LX SX RW6 EX
open RX (Nd Rd Ni)
open RM6 (Kin)
/-- A row of data with any places, whose lists are slices that may be. -/
def NiC (w : World) (A : Option Addr) (ns : List Ni) : Prop :=
  ∀ (k : Nat) (h : k < ns.length), ∃ b o LA c, A = some ⟨b, o, none⟩ ∧ b < w.heap.size ∧ w.cell? ⟨b, o + k * 5, none⟩ = some (.int .u8 ns[k].kind) ∧ w.cell? ⟨b, o + k * 5 + 1, none⟩ = some (.int .i64 ns[k].at_) ∧
    w.cell? ⟨b, o + k * 5 + 2, none⟩ = some (.int .i64 ns[k].n) ∧ w.cell? ⟨b, o + k * 5 + 3, none⟩ = some (.string ns[k].s) ∧ w.cell? ⟨b, o + k * 5 + 4, none⟩ = some (.slice LA ns[k].l.length c) ∧ (ns[k].l.length ≤ c ∧ c ≤ maxLen) ∧ IRow w [] LA ns[k].l
theorem NiC.row {w : World} {A : Option Addr} {ns : List Ni} (h : NiC w A ns) : NiRow w [] A ns := fun k hk => by
  obtain ⟨b, o, LA, c, e, hb, c0, c1, c2, c3, c4, _, hI⟩ := h k hk
  exact ⟨b, o, LA, c, e, by simp, hb, c0, c1, c2, c3, c4, hI⟩
theorem NiC.far {w w' : World} {A : Option Addr} {ns : List Ni} (h : NiC w A ns) (f : MM.Far [] w w') : NiC w' A ns := fun k hk => by
  obtain ⟨b, o, LA, c, e, hb, c0, c1, c2, c3, c4, hc, hI⟩ := h k hk
  have g (x : Nat) : w'.cell? ⟨b, x, none⟩ = w.cell? ⟨b, x, none⟩ := f.cell (p := ⟨b, x, none⟩) hb (by simp)
  exact ⟨b, o, LA, c, e, Nat.lt_of_lt_of_le hb f.size, (g _).trans c0, (g _).trans c1, (g _).trans c2, (g _).trans c3, (g _).trans c4, hc, hI.far f⟩
theorem NiC.nd {w : World} {A : Option Addr} {ns : List Ni} (h : NiC w A ns) (hb : (ns.map EX.toD).map RX.toI = ns) : NdR w A (ns.map EX.toD) := by
  intro k hk
  have hk2 : k < ns.length := by simpa using hk
  obtain ⟨b, o, LA, c, e, hlt, c0, c1, c2, c3, c4, hc, hI⟩ := h k hk2
  have hx : RX.toI (ns.map EX.toD)[k] = ns[k] := by
    have := congrArg (fun l => l[k]?) hb
    simp only [List.getElem?_map, List.getElem?_eq_getElem hk2, Option.map_some] at this
    rw [List.getElem_map]
    exact Option.some.inj this
  rw [← hx] at c0 c1 c2 c3 c4 hI hc
  generalize (ns.map EX.toD)[k] = x at *
  have e5 : (RX.toI x).l.length = x.l.length := by simp [RX.toI]
  rw [e5] at c4 hc
  refine ⟨b, o, LA, c, e, hlt, c0, c1, c2, c3, c4, hc.1, hc.2, fun j hj => ?_⟩
  obtain ⟨b2, o2, e2, _, hb2, hcc⟩ := hI j (by rw [e5]; exact hj)
  refine ⟨b2, o2, e2, hb2, ?_⟩
  rw [hcc]
  simp [RX.toI]
/-- Data that are cut. -/
structure FewN (ns : List Ni) : Prop where
  len_ : ns.length ≤ 60
  s : ∀ x ∈ ns, x.s.size ≤ 140737488355328
  l : ∀ x ∈ ns, x.l.length ≤ 20
  n : ∀ x ∈ ns, -9223372036854775808 ≤ x.n ∧ x.n ≤ 9223372036854775807
theorem few8_few (w : World) (a : Option Addr) (len cap : Nat) (tl : List Na) (hz : Nas w a len cap tl) (hs : ∀ t ∈ tl, t.s.size ≤ 140737488355328) : FewN ((gathered tl len).map Na.ni) := by
  have hall : ∀ x ∈ (gathered tl len).map Na.ni, ∃ t : Na, (t.Ok w ∧ t ∈ tl) ∧ x = (t.cut).ni := fun x hx => by
    obtain ⟨t, ht, rfl⟩ := List.mem_map.1 hx
    unfold gathered at ht
    obtain ⟨t0, ht0, rfl⟩ := List.mem_map.1 ht
    obtain ⟨i, hi, rfl⟩ := List.getElem_of_mem (List.mem_of_mem_take ht0)
    obtain ⟨_, _, _, _, _, ho⟩ := hz.elems i _ (List.getElem?_eq_getElem hi)
    exact ⟨_, ⟨ho, List.getElem_mem hi⟩, rfl⟩
  refine ⟨by rw [List.length_map]; exact gathered_le tl len, fun x hx => ?_, fun x hx => ?_, fun x hx => ?_⟩
  · obtain ⟨t, ho, rfl⟩ := hall x hx
    exact hs t ho.2
  · obtain ⟨t, _, rfl⟩ := hall x hx
    show (t.zs.take 20).length ≤ 20
    rw [List.length_take]; omega
  · obtain ⟨t, ⟨ho, _⟩, rfl⟩ := hall x hx
    have := ho.hi
    show -9223372036854775808 ≤ t.n ∧ t.n ≤ 9223372036854775807
    simp [Lit.wf, IntKind.min, IntKind.max, IntKind.signed, IntKind.bits] at this
    omega
theorem few8_ni (a : Option Addr) (len cap : Nat) (tl : List Na) (w0 w : World) (hz : Nas w0 a len cap tl) (hF : MM.Far [] w0 w) (ns : List Ni) (n : Nat) (hns : (gathered tl len).map Na.ni = ns) (hn : ns.length = n) :
    Calls Tryz.prog 7 #[.slice a len cap] w fun e w' => ∃ A c, e = .returned (.slice A n c) ∧ NiC w' A ns ∧ MM.Far [] w w' := by
  have hz2 := hz.far hF
  refine (few8_any a len cap tl w hz2).mono ?_
  rintro e w' ⟨v, rfl, hG, hF2⟩
  subst hns
  obtain ⟨A, c, rfl, k0, k1, k2, k3, hh⟩ := MO.form hG
  refine ⟨A, c, by rw [← hn, List.length_map], fun k hk => ?_, hF2⟩
  have hk2 : k < (gathered tl len).length := by simpa using hk
  rcases hh with ⟨_, hz, _⟩ | ⟨g, rfl, _, hlt⟩
  · omega
  have hmem := List.getElem_mem hk2
  have hc (j : Nat) (hj : j < 5) (u : Value) (hu : ((gathered tl len)[k]).cells[j]? = some u) : w'.cell? ⟨g, 0 + k * 5 + j, none⟩ = some u := by
    have := @World.ownsRow.cells w' _ _ _ _ _ _ hG g rfl (k * 5 + j) u ((flat_at _ k hk2 j hj).trans hu)
    rw [MM.head_add] at this
    rw [Nat.zero_add]; exact this
  rw [List.getElem_map]
  generalize (gathered tl len)[k] = t at *
  unfold gathered at hmem
  obtain ⟨t0, ht0, rfl⟩ := List.mem_map.1 hmem
  obtain ⟨i, hi, rfl⟩ := List.getElem_of_mem (List.mem_of_mem_take ht0)
  obtain ⟨_, _, _, _, _, ho⟩ := hz2.elems i _ (List.getElem?_eq_getElem hi)
  have hlen : ((tl[i]).zs.take 20).length = min (tl[i]).l 20 := by rw [List.length_take, ho.hz.len_]; omega
  have hle := ho.hz.le
  refine ⟨g, 0, (tl[i]).A, (tl[i]).c, rfl, hlt, hc 0 (by omega) _ rfl, hc 1 (by omega) _ rfl, hc 2 (by omega) _ rfl, hc 3 (by omega) _ rfl, ?_, ⟨?_, ho.hz.max⟩, (irow_take ho.hz.src 20).far hF2⟩
  · have h4 := hc 4 (by omega) _ rfl
    rw [h4]
    show some (Value.slice _ (min (tl[i]).l 20) _) = some (Value.slice _ ((tl[i]).zs.take 20).length _)
    rw [hlen]
    rfl
  · show ((tl[i]).zs.take 20).length ≤ _
    rw [hlen]; omega
theorem sl_ints {w : World} {a : Option Addr} {len cap : Nat} {zs : List Int} (h : MR.Ints .i64 w a len cap zs) (m : Nat) (hm : m ≤ len) : Sl w [] (.slice a m cap) ((zs.take m).map num) := by
  have hl : ((zs.take m).map num).length = m := by rw [List.length_map, List.length_take, h.len_]; omega
  refine ⟨a, cap, by rw [hl], by rw [hl]; have := h.le; omega, ⟨h.max, fun _ _ _ _ _ _ _ u hu => ?_⟩, fun k u hu => ?_⟩
  · obtain ⟨z, _, rfl⟩ := List.mem_map.1 hu
    exact ⟨z, rfl⟩
  · have hk := (List.getElem?_eq_some_iff.1 hu).1
    rw [hl] at hk
    have hk2 : k < (zs.take m).length := by rw [List.length_take, h.len_]; omega
    obtain ⟨b, o, e, hS, hb, hc⟩ := irow_take h.src m k hk2
    refine ⟨b, o, e, by simp, hb, ?_⟩
    rw [hc, ← hu, List.getElem?_map, List.getElem?_eq_getElem hk2]
    rfl
/-- What an Expand of any row comes to. -/
def PlQ (w0 : World) (ok : Bool) (X : Except Int (List Fm × List Nat)) (e : Ending) (w : World) : Prop := match ok with
  | true => DxpQ w0 X e w
  | false => e = .returned (.tuple #[.slice none 0 0, .slice none 0 0, .int .i64 0, .int .i64 1]) ∧ MM.Far [] w0 w
theorem sum_le_mul {f : Nat → Nat} {C : Nat} : ∀ (l : List Nat), (∀ i ∈ l, f i ≤ C) → (l.map f).sum ≤ l.length * C := by
  intro l
  induction l with
  | nil => intro _; simp
  | cons a l ih =>
    intro h
    rw [List.map_cons, List.sum_cons, List.length_cons, Nat.succ_mul]
    have := h a (List.mem_cons_self ..)
    have := ih (fun i hi => h i (List.mem_cons_of_mem _ hi))
    omega
/-- How much work data of a few are. -/
theorem few_work {ns : List Ni} {zs : List Int} (hf : FewN ns) (hm : RX.may ns = true) (hr : inRange ns.length zs = true) (hz : zs.length ≤ 10) :
    sumT (ns.map EX.toD) (zs.map Int.toNat) ≤ 9600 ∧ ∀ i ∈ zs.map Int.toNat, wt (ns.map EX.toD) (.top i) ≤ 16 * (ns.map EX.toD).length := by
  obtain ⟨h1, h2, h3⟩ := may_rows2 ns hm (fun x hx => by have := hf.l x hx; omega) hf.n
  have h60 := hf.len_
  have hin : ∀ i ∈ zs.map Int.toNat, i < ns.length := fun i hi => by
    obtain ⟨z, hz, rfl⟩ := List.mem_map.1 hi
    have := of_decide_eq_true (List.all_eq_true.1 hr z hz)
    omega
  refine ⟨?_, fun i hi => ?_⟩
  · have := sum_le_mul (f := fun i => 16 * T (ns.map EX.toD) i) (C := 960) (zs.map Int.toNat) (fun i hi => by
      have h4 := hin i hi
      have h5 := h3 i h4
      show 16 * T (ns.map EX.toD) i ≤ 960
      omega)
    rw [List.length_map] at this
    unfold sumT
    have h6 : zs.length * 960 ≤ 10 * 960 := Nat.mul_le_mul_right _ hz
    omega
  · have h4 := hin i hi
    have h5 := h3 i h4
    rw [wt_T, List.length_map]
    omega
set_option maxHeartbeats 4000000 in
set_option maxRecDepth 20000 in
theorem cplay_any {w : World} {A TA : Option Addr} {n c tn tc : Nat} {ns : List Ni} {zs : List Int} (hN : NiC w A ns) (hn : ns.length = n) (hf : FewN ns) (hT : Sl w [] (.slice TA tn tc) (zs.map num)) (hzl : zs.length = tn) (htn : tn ≤ 10) :
    Calls Tryz.prog 6 #[.slice A n c, .slice TA tn tc] w (PlQ w (RX.may ns && inRange n zs) (EX.expand (ns.map EX.toD) (zs.map Int.toNat))) := by
  have h60 := hf.len_
  have HM := may_any ns n hn (by omega) (fun x hx => by have := hf.l x hx; omega) A c w hN.row
  cases hm : RX.may ns with
  | false =>
    rw [hm] at HM
    have HM := Lib.hid HM
    show Calls _ _ _ _ (PlQ w false _)
    clear hN hf hT hm hzl
    go_enter Tryz.func6, Tryz.ntmps6
    go_wp2_with (first
      | (go_at_call 15; (with_reducible refine HM.out.mono ?_); rintro e w1 ⟨rfl, hF1⟩; have HF1 := Lib.hid hF1; clear hF1))
    refine bodyPost_ret (v := .tuple #[.slice none 0 0, .slice none 0 0, .int .i64 0, .int .i64 1]) (by simp [results, Tryz.results6, go_sem]) rfl ?_
    exact ⟨rfl, HF1.out⟩
  | true =>
    rw [hm] at HM
    cases hr : inRange n zs with
    | false =>
      have HM := Lib.hid HM
      have HAR := Lib.hid (fun (w1 : World) (f : MM.Far [] w w1) => areIdx_any w1 (hT.far f (by simp)) hzl (by omega) (n : Int))
      rw [hr] at HAR
      show Calls _ _ _ _ (PlQ w false _)
      clear hN hf hT hm hzl hr
      unfold num at HAR
      go_enter Tryz.func6, Tryz.ntmps6
      go_wp2_with (first
        | (go_at_call 15; (with_reducible refine HM.out.mono ?_); rintro e w1 ⟨rfl, hF1⟩; have HF1 := Lib.hid hF1; clear hF1)
        | (go_at_call 16; (with_reducible refine (HAR.out _ HF1.out).mono ?_); rintro e w2 ⟨rfl, hF2⟩; have HF2 := Lib.hid (HF1.out.trans hF2 (by simp)); clear hF2))
      refine bodyPost_ret (v := .tuple #[.slice none 0 0, .slice none 0 0, .int .i64 0, .int .i64 1]) (by simp [results, Tryz.results6, go_sem]) rfl ?_
      exact ⟨rfl, HF2.out⟩
    | true =>
      obtain ⟨h1, h2, h3⟩ := may_rows2 ns hm (fun x hx => by have := hf.l x hx; omega) hf.n
      obtain ⟨g1, g2⟩ := few_work hf hm (by rw [hn]; exact hr) (by omega)
      have L : Lie w A n (ns.map EX.toD) := ⟨hN.nd h1, by rw [List.length_map]; exact hn, fun i => ndAt_all (Q := fun x => x.s.size ≤ 140737488355328) (fun x hx => by
        obtain ⟨y, hy, rfl⟩ := List.mem_map.1 hx
        exact hf.s y hy) (show (0 : Nat) ≤ 140737488355328 by omega) i, h2, fun i => ndAt_all (Q := fun x => x.l.length ≤ 100000) (fun x hx => by
        obtain ⟨y, hy, rfl⟩ := List.mem_map.1 hx
        have := hf.l y hy
        simp only [EX.toD, List.length_map]; omega) (by simp) i⟩
      have h5 := sum_tops (ns.map EX.toD) (zs.map Int.toNat)
      exact (expandF_any L HM hT hzl (by omega) hr (by unfold wtt; omega) g2).mono fun e w' hQ => hQ.dxp
set_option maxHeartbeats 4000000 in
set_option maxRecDepth 20000 in
theorem dplay_any {w : World} {A TA : Option Addr} {n c tn tc : Nat} {ns : List Ni} {zs : List Int} (hN : NiC w A ns) (hn : ns.length = n) (hf : FewN ns) (hT : Sl w [] (.slice TA tn tc) (zs.map num)) (hzl : zs.length = tn) (htn : tn ≤ 10) :
    Calls Tryz.prog 8 #[.slice A n c, .slice TA tn tc] w (PlQ w (RX.may ns && inRange n zs) (EX.expand (ns.map EX.toD) (zs.map Int.toNat))) := by
  have h60 := hf.len_
  have HM := dmay_any ns n hn (by omega) (fun x hx => by have := hf.l x hx; omega) A c w hN.row
  cases hm : RX.may ns with
  | false =>
    rw [hm] at HM
    have HM := Lib.hid HM
    show Calls _ _ _ _ (PlQ w false _)
    clear hN hf hT hm hzl
    go_enter Tryz.func8, Tryz.ntmps8
    go_wp2_with (first
      | (go_at_call 19; (with_reducible refine HM.out.mono ?_); rintro e w1 ⟨rfl, hF1⟩; have HF1 := Lib.hid hF1; clear hF1))
    refine bodyPost_ret (v := .tuple #[.slice none 0 0, .slice none 0 0, .int .i64 0, .int .i64 1]) (by simp [results, Tryz.results8, go_sem]) rfl ?_
    exact ⟨rfl, HF1.out⟩
  | true =>
    rw [hm] at HM
    cases hr : inRange n zs with
    | false =>
      have HM := Lib.hid HM
      have HT := Lib.hid hT
      have HZL := Lib.hid hzl
      have HRG := Lib.hid hr
      show Calls _ _ _ _ (PlQ w false _)
      generalize EX.expand (ns.map EX.toD) (zs.map Int.toNat) = XX
      clear hN hf hT hm hzl hr
      unfold num at *
      go_enter Tryz.func8, Tryz.ntmps8
      go_wp2_with (first
        | (go_at_call 19; (with_reducible refine HM.out.mono ?_); rintro e w1 ⟨rfl, hF1⟩; have HF1 := Lib.hid hF1; clear hF1))
      go_loopw [8] (fun s8 wr => ∃ k : Nat, k ≤ tn ∧ s8 = .int .i64 (k : Int) ∧ Hid ((∀ (j : Nat) (h : j < zs.length), j < k → 0 ≤ zs[j] ∧ zs[j] < (n : Int)) ∧ wr = w1)) (fun s8 _ => tn - (intOf s8).toNat)
      case atStart => exact ⟨0, by omega, rfl, Lib.hid ⟨fun j h hj => by omega, rfl⟩⟩
      case round =>
        obtain ⟨k, hk, rfl, hH⟩ := hrel
        have hwr := hH.out.2
        subst hwr
        have HALL := Lib.hid hH.out.1
        clear hH
        by_cases hlt : k < tn
        · have hk2 : k < zs.length := by rw [HZL.out]; exact hlt
          obtain ⟨A', c', e, hc1, hc2, hc3⟩ := HT.out.far HF1.out (by simp)
          injection e with e1 e2 e3
          subst e1 e3
          obtain ⟨g, o, rfl, hz, hg, cc⟩ := hc3 k (.int .i64 zs[k]) (by rw [List.getElem?_map, List.getElem?_eq_getElem hk2]; rfl)
          obtain ⟨z, hz5⟩ : ∃ z, zs[k] = z := ⟨_, rfl⟩
          rw [hz5] at cc
          have HZ5 : Hid (∀ h : k < zs.length, zs[k] = z) := Lib.hid (fun _ => hz5)
          clear hk2 e2 hc1 hc2 hc3 hz hg hz5
          by_cases hz0 : z < 0
          · have hz1 : decide (z < 0) = true := by rw [decide_eq_true_iff]; exact hz0
            go_wp2
            refine bodyPost_ret (v := .tuple #[.slice none 0 0, .slice none 0 0, .int .i64 0, .int .i64 1]) (by simp [results, Tryz.results8, go_sem]) rfl ?_
            exact ⟨rfl, HF1.out⟩
          · have hz1 : decide (z < 0) = false := by rw [decide_eq_false_iff_not]; exact hz0
            by_cases hzn : (n : Int) ≤ z
            · have hz3 : decide ((n : Int) ≤ z) = true := by rw [decide_eq_true_iff]; exact hzn
              go_wp2
              refine bodyPost_ret (v := .tuple #[.slice none 0 0, .slice none 0 0, .int .i64 0, .int .i64 1]) (by simp [results, Tryz.results8, go_sem]) rfl ?_
              exact ⟨rfl, HF1.out⟩
            · have hz3 : decide ((n : Int) ≤ z) = false := by rw [decide_eq_false_iff_not]; exact hzn
              go_wp2
              go_roundw
              case rel => exact ⟨k + 1, by omega, by go_num, Lib.hid ⟨fun j h hj => by
                by_cases hjk : j = k
                · subst hjk
                  rw [HZ5.out h]; omega
                · exact HALL.out j h (by omega), trivial⟩⟩
              case measure => simp [intOf]; omega
        · exfalso
          have : inRange n zs = true := by
            unfold inRange
            rw [List.all_eq_true]
            intro z hz
            obtain ⟨j, hj, rfl⟩ := List.getElem_of_mem hz
            have := HALL.out j hj (by have := HZL.out; omega)
            exact decide_eq_true this
          rw [HRG.out] at this
          cases this
    | true =>
      obtain ⟨h1, h2, h3⟩ := may_rows2 ns hm (fun x hx => by have := hf.l x hx; omega) hf.n
      obtain ⟨g1, g2⟩ := few_work hf hm (by rw [hn]; exact hr) (by omega)
      have D : Dta w A n (ns.map EX.toD) := dta_of (hN.nd h1) (by rw [List.length_map]; exact hn) h2 (by rw [h1]; exact hm) (fun x hx => by
        obtain ⟨y, hy, rfl⟩ := List.mem_map.1 hx
        have := hf.l y hy
        simp only [EX.toD, List.length_map]; omega)
      exact dexpand_any D HM hT hzl (by omega) hr (by omega) g2
set_option maxHeartbeats 4000000 in
set_option maxRecDepth 20000 in
theorem plays_any (a : Option Addr) (len cap : Nat) (tl : List Na) (ta : Option Addr) (tlen tcap : Nat) (zs : List Int) (s : ByteArray) (w : World) (hz : Nas w a len cap tl) (hs : ∀ t ∈ tl, t.s.size ≤ 140737488355328) (hi : MR.Ints .i64 w ta tlen tcap zs) :
    Calls Tryz.prog 3 #[.slice a len cap, .slice ta tlen tcap, .string s] w fun e w' => e = .returned (.bool true) ∧ Below w.heap.size w w' := by
  have hfew := few8_few w a len cap tl hz hs
  obtain ⟨ns, hns⟩ : ∃ ns, (gathered tl len).map Na.ni = ns := ⟨_, rfl⟩
  rw [hns] at hfew
  obtain ⟨n, hn⟩ : ∃ n, ns.length = n := ⟨_, rfl⟩
  obtain ⟨m, hm⟩ : ∃ m, min tlen 10 = m := ⟨_, rfl⟩
  have hm10 : m ≤ 10 := by omega
  have hml : m ≤ tlen := by omega
  have hT := sl_ints hi m hml
  have hzl : (zs.take m).length = m := by rw [List.length_take, hi.len_]; omega
  have hle := hi.le
  have hmax := hi.max
  have hnil := hi.nil
  unfold maxLen at hmax
  have HFW := Lib.hid (fun (w1 : World) (h : MM.Far [] w w1) => few8_ni a len cap tl w w1 hz h ns n hns hn)
  have HC := Lib.hid (fun (A : Option Addr) (c : Nat) (w1 : World) (h : NiC w1 A ns) (f : MM.Far [] w w1) => cplay_any (c := c) h hn hfew (hT.far f (by simp)) hzl hm10)
  have HD := Lib.hid (fun (A : Option Addr) (c : Nat) (w1 : World) (h : NiC w1 A ns) (f : MM.Far [] w w1) => dplay_any (c := c) h hn hfew (hT.far f (by simp)) hzl hm10)
  have HS := Lib.hid shown_any
  have HR1 := Lib.hid (fun (w1 : World) => reservedF_any w1 s)
  have HR2 := Lib.hid (fun (w1 : World) => rreserved_any w1 s)
  have HSMALL : Hid (∀ fs ts, (RX.may ns && inRange n (zs.take m)) = true → EX.expand (ns.map EX.toD) ((zs.take m).map Int.toNat) = .ok (fs, ts) → fs.length ≤ 100000 ∧ ts.length ≤ 100000 ∧ ∀ x ∈ fs, x.l.length ≤ 100000 ∧ x.p.length ≤ 100000) := Lib.hid (fun fs ts hb h => by
    rw [Bool.and_eq_true] at hb
    obtain ⟨h1, h2, h3⟩ := may_rows2 ns hb.1 (fun x hx => by have := hfew.l x hx; omega) hfew.n
    obtain ⟨g1, g2⟩ := few_work hfew hb.1 (by rw [hn]; exact hb.2) (by omega)
    have h4 := runTops_len h2 _ _ _ _ _ _ h
    have h5 := sum_tops (ns.map EX.toD) ((zs.take m).map Int.toNat)
    have h6 := made_small h
    have hl1 : fs.length ≤ 100000 := by have := h4.1; simp only [List.length_nil] at this; omega
    refine ⟨hl1, ?_, fun x hx => ?_⟩
    · have := h4.2
      rw [List.length_map, hzl] at this
      simp only [List.length_nil] at this
      omega
    · have := h6 x hx
      omega)
  generalize EX.expand (ns.map EX.toD) ((zs.take m).map Int.toNat) = XX at *
  generalize (RX.may ns && inRange n (zs.take m)) = ok at *
  have e1 : (min (tlen : Int) 10).toNat = m := by omega
  have e2 : min (tlen : Int) 10 = (m : Int) := by omega
  clear hfew hns hn hz hi hT hzl hs
  cases ok with
  | false =>
      clear HSMALL
      rcases ta with _ | ad
      all_goals
        first | (obtain rfl : tcap = 0 := hnil rfl; obtain rfl : tlen = 0 := (by omega); obtain rfl : m = 0 := (by omega); clear e1 e2) | skip
        have e3 : (min (0 : Int) 10).toNat = 0 := by decide
        have e4 : min (0 : Int) 10 = 0 := by decide
        go_enter Tryz.func3, Tryz.ntmps3
        go_wp2_with (first
          | (go_at_call 5; (with_reducible refine (HS.out _).mono ?_); rintro e w1 ⟨rfl, hF1⟩; have HF1 := Lib.hid hF1; clear hF1)
          | (go_at_call 7; (with_reducible refine (HFW.out _ HF1.out).mono ?_); rintro e w2 ⟨A2, c2, rfl, hN2, hF2⟩; have HF2 := Lib.hid (HF1.out.trans hF2 (by simp)); have HC1 := Lib.hid (HC.out _ c2 _ hN2 HF2.out); clear hF2 hN2 HF1)
          | (go_at_call 6; (with_reducible refine HC1.out.mono ?_); rintro e w3 hQ; obtain ⟨rfl, hF3⟩ : e = .returned (.tuple #[.slice none 0 0, .slice none 0 0, .int .i64 0, .int .i64 1]) ∧ MM.Far [] w2 w3 := hQ; have HF3 := Lib.hid (HF2.out.trans hF3 (by simp)); clear hF3)
          | (go_at_call 7; (with_reducible refine (HFW.out _ HF3.out).mono ?_); rintro e w4 ⟨A4, c4, rfl, hN4, hF4⟩; have HF34 := Lib.hid hF4; have HF4 := Lib.hid (HF3.out.trans hF4 (by simp)); have HD1 := Lib.hid (HD.out _ c4 _ hN4 HF4.out); clear hF4 hN4)
          | (go_at_call 8; (with_reducible refine HD1.out.mono ?_); rintro e w5 hQ; obtain ⟨rfl, hF5⟩ : e = .returned (.tuple #[.slice none 0 0, .slice none 0 0, .int .i64 0, .int .i64 1]) ∧ MM.Far [] w4 w5 := hQ; have HSM := Lib.hid (fsame_yes [] 0 rfl (by omega) (fun x hx => by cases hx) none none 0 0 w5 (fun k hk => by simp at hk) (fun k hk => by simp at hk)); have HIN := Lib.hid (fun (w6 : World) (f : MM.Far [] w5 w6) => ints_call (w := w6) (A1 := none) (A2 := none) (l := []) (n := 0) (c1 := 0) (c2 := 0) rfl (by omega) (introw_nil _ _) (introw_nil _ _)); have HF5 := Lib.hid (HF4.out.trans hF5 (by simp)); clear hF5)
          | (go_at_call 9; (refine HSM.out.mono ?_); rintro e w6 ⟨rfl, hF6⟩; have HI6 := Lib.hid (HIN.out _ hF6); have HF6 := Lib.hid (HF5.out.trans hF6 (by simp)); clear hF6)
          | (go_at_call 10; (refine HI6.out.mono ?_); rintro e w7 ⟨rfl, hF7⟩; have HF7 := Lib.hid (HF6.out.trans hF7 (by simp)); clear hF7)
          | (go_at_call 11; (with_reducible refine (HR1.out _).mono ?_); rintro e w8 ⟨rfl, hF8⟩; have HF8 := Lib.hid (HF7.out.trans hF8 (by simp)); clear hF8)
          | (go_at_call 12; (with_reducible refine (HR2.out _).mono ?_); rintro e w9 ⟨rfl, hF9⟩; have HF9 := Lib.hid (HF8.out.trans hF9 (by simp)); clear hF9))
        go_ret
        exact ⟨by first | rfl | simp, HF9.out.below_nil⟩
  | true =>
    cases XX with
    | error a2 =>
      clear HSMALL
      rcases ta with _ | ad
      all_goals
        first | (obtain rfl : tcap = 0 := hnil rfl; obtain rfl : tlen = 0 := (by omega); obtain rfl : m = 0 := (by omega); clear e1 e2) | skip
        have e3 : (min (0 : Int) 10).toNat = 0 := by decide
        have e4 : min (0 : Int) 10 = 0 := by decide
        go_enter Tryz.func3, Tryz.ntmps3
        go_wp2_with (first
          | (go_at_call 5; (with_reducible refine (HS.out _).mono ?_); rintro e w1 ⟨rfl, hF1⟩; have HF1 := Lib.hid hF1; clear hF1)
          | (go_at_call 7; (with_reducible refine (HFW.out _ HF1.out).mono ?_); rintro e w2 ⟨A2, c2, rfl, hN2, hF2⟩; have HF2 := Lib.hid (HF1.out.trans hF2 (by simp)); have HC1 := Lib.hid (HC.out _ c2 _ hN2 HF2.out); clear hF2 hN2 HF1)
          | (go_at_call 6; (with_reducible refine HC1.out.mono ?_); rintro e w3 hQ; obtain ⟨rfl, hF3⟩ : e = .returned (.tuple #[.slice none 0 0, .slice none 0 0, .int .i64 a2, .int .i64 80]) ∧ MM.Far [] w2 w3 := hQ; have HF3 := Lib.hid (HF2.out.trans hF3 (by simp)); clear hF3)
          | (go_at_call 7; (with_reducible refine (HFW.out _ HF3.out).mono ?_); rintro e w4 ⟨A4, c4, rfl, hN4, hF4⟩; have HF34 := Lib.hid hF4; have HF4 := Lib.hid (HF3.out.trans hF4 (by simp)); have HD1 := Lib.hid (HD.out _ c4 _ hN4 HF4.out); clear hF4 hN4)
          | (go_at_call 8; (with_reducible refine HD1.out.mono ?_); rintro e w5 hQ; obtain ⟨rfl, hF5⟩ : e = .returned (.tuple #[.slice none 0 0, .slice none 0 0, .int .i64 a2, .int .i64 80]) ∧ MM.Far [] w4 w5 := hQ; have HSM := Lib.hid (fsame_yes [] 0 rfl (by omega) (fun x hx => by cases hx) none none 0 0 w5 (fun k hk => by simp at hk) (fun k hk => by simp at hk)); have HIN := Lib.hid (fun (w6 : World) (f : MM.Far [] w5 w6) => ints_call (w := w6) (A1 := none) (A2 := none) (l := []) (n := 0) (c1 := 0) (c2 := 0) rfl (by omega) (introw_nil _ _) (introw_nil _ _)); have HF5 := Lib.hid (HF4.out.trans hF5 (by simp)); clear hF5)
          | (go_at_call 9; (refine HSM.out.mono ?_); rintro e w6 ⟨rfl, hF6⟩; have HI6 := Lib.hid (HIN.out _ hF6); have HF6 := Lib.hid (HF5.out.trans hF6 (by simp)); clear hF6)
          | (go_at_call 10; (refine HI6.out.mono ?_); rintro e w7 ⟨rfl, hF7⟩; have HF7 := Lib.hid (HF6.out.trans hF7 (by simp)); clear hF7)
          | (go_at_call 11; (with_reducible refine (HR1.out _).mono ?_); rintro e w8 ⟨rfl, hF8⟩; have HF8 := Lib.hid (HF7.out.trans hF8 (by simp)); clear hF8)
          | (go_at_call 12; (with_reducible refine (HR2.out _).mono ?_); rintro e w9 ⟨rfl, hF9⟩; have HF9 := Lib.hid (HF8.out.trans hF9 (by simp)); clear hF9))
        go_ret
        exact ⟨by first | rfl | simp, HF9.out.below_nil⟩
    | ok y =>
      obtain ⟨fs, ts⟩ := y
      obtain ⟨hl1, hl2, hl3⟩ := HSMALL.out fs ts rfl rfl
      obtain ⟨n1, hn1⟩ : ∃ n, fs.length = n := ⟨_, rfl⟩
      obtain ⟨n2, hn2⟩ : ∃ n, ts.length = n := ⟨_, rfl⟩
      rw [hn1] at hl1
      rw [hn2] at hl2
      have HSA := Lib.hid (fun (A1 A2 : Option Addr) (c1 c2 : Nat) (w : World) (h1 : FmR w A1 fs) (h2 : FmR w A2 fs) => fsame_yes fs n1 hn1 hl1 hl3 A1 A2 c1 c2 w h1 h2)
      have HIA := Lib.hid (fun (w : World) (A1 A2 : Option Addr) (c1 c2 : Nat) (h1 : IntRow w A1 ts) (h2 : IntRow w A2 ts) => ints_call (c1 := c1) (c2 := c2) hn2 hl2 h1 h2)
      have HN1 := Lib.hid hn1
      have HN2 := Lib.hid hn2
      clear HSMALL hl1 hl2 hl3 hn1 hn2
      rcases ta with _ | ad
      all_goals
        first | (obtain rfl : tcap = 0 := hnil rfl; obtain rfl : tlen = 0 := (by omega); obtain rfl : m = 0 := (by omega); clear e1 e2) | skip
        have e3 : (min (0 : Int) 10).toNat = 0 := by decide
        have e4 : min (0 : Int) 10 = 0 := by decide
        go_enter Tryz.func3, Tryz.ntmps3
        go_wp2_with (first
          | (go_at_call 5; (with_reducible refine (HS.out _).mono ?_); rintro e w1 ⟨rfl, hF1⟩; have HF1 := Lib.hid hF1; clear hF1)
          | (go_at_call 7; (with_reducible refine (HFW.out _ HF1.out).mono ?_); rintro e w2 ⟨A2, c2, rfl, hN2, hF2⟩; have HF2 := Lib.hid (HF1.out.trans hF2 (by simp)); have HC1 := Lib.hid (HC.out _ c2 _ hN2 HF2.out); clear hF2 hN2 HF1)
          | (go_at_call 6; (with_reducible refine HC1.out.mono ?_); rintro e w3 hQ; obtain ⟨A3, c3, T3, d3, he, hF3, hT3, hf3⟩ := hQ; (replace he : e = .returned (.tuple #[.slice A3 fs.length c3, .slice T3 ts.length d3, .int .i64 0, .int .i64 0]) := he); rw [HN1.out, HN2.out] at he; subst he; have HFM3 := Lib.hid hF3; have HT3 := Lib.hid hT3; have HF3 := Lib.hid (HF2.out.trans hf3 (by simp)); clear hF3 hT3 hf3)
          | (go_at_call 7; (with_reducible refine (HFW.out _ HF3.out).mono ?_); rintro e w4 ⟨A4, c4, rfl, hN4, hF4⟩; have HF34 := Lib.hid hF4; have HF4 := Lib.hid (HF3.out.trans hF4 (by simp)); have HD1 := Lib.hid (HD.out _ c4 _ hN4 HF4.out); clear hF4 hN4)
          | (go_at_call 8; (with_reducible refine HD1.out.mono ?_); rintro e w5 hQ; obtain ⟨A5, c5, T5, d5, he, hF5, hT5, hf5⟩ := hQ; (replace he : e = .returned (.tuple #[.slice A5 fs.length c5, .slice T5 ts.length d5, .int .i64 0, .int .i64 0]) := he); rw [HN1.out, HN2.out] at he; subst he; have HSM := Lib.hid (HSA.out A3 A5 c3 c5 w5 ((HFM3.out.far HF34.out).far hf5) hF5); have HIN := Lib.hid (fun (w6 : World) (f : MM.Far [] w5 w6) => HIA.out w6 T3 T5 d3 d5 (((HT3.out.far HF34.out).far hf5).far f) (hT5.far f)); have HF5 := Lib.hid (HF4.out.trans hf5 (by simp)); clear hF5 hT5 hf5)
          | (go_at_call 9; (refine HSM.out.mono ?_); rintro e w6 ⟨rfl, hF6⟩; have HI6 := Lib.hid (HIN.out _ hF6); have HF6 := Lib.hid (HF5.out.trans hF6 (by simp)); clear hF6)
          | (go_at_call 10; (refine HI6.out.mono ?_); rintro e w7 ⟨rfl, hF7⟩; have HF7 := Lib.hid (HF6.out.trans hF7 (by simp)); clear hF7)
          | (go_at_call 11; (with_reducible refine (HR1.out _).mono ?_); rintro e w8 ⟨rfl, hF8⟩; have HF8 := Lib.hid (HF7.out.trans hF8 (by simp)); clear hF8)
          | (go_at_call 12; (with_reducible refine (HR2.out _).mono ?_); rintro e w9 ⟨rfl, hF9⟩; have HF9 := Lib.hid (HF8.out.trans hF9 (by simp)); clear hF9))
        go_ret
        exact ⟨by first | rfl | simp, HF9.out.below_nil⟩
end EW
end Go.Proofs.YtaghlpolljaedaaGreat
