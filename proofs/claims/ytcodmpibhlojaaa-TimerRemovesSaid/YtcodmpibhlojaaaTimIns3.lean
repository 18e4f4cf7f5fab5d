/-
  slices.Insert ahead of the end where there is no room: a new row; then Insert at any place. Conditions: as in TimIns.
-/
import Derived.Test.YtcodmpibhlojaaaTimIns2
namespace Go.Proofs.Ytcodmpibhlojaaa
open Go.RowKit Go.Lib
namespace TL
open TM TR MM
set_option maxHeartbeats 4000000 in
set_option maxRecDepth 100000 in
theorem ins_grow (w : World) (b cap : Nat) (cur : Array Value) (l : List Ti) (i : Nat) (x : Ti) (vb : Nat) (hi : i < l.length) (hlen : l.length ≤ 64) (hroom : cap < l.length + 1) (hc1 : l.length ≤ cap)
    (hb : w.heap[b]? = some (.cells cur 52 (0, 0))) (hc4 : cur.toList.take (l.length * 3) = en l) (hx : Row w vb 52 (cs x)) :
    Calls Try.prog 19 #[.slice (some ⟨b, 0, none⟩) l.length cap, .int .i64 i, .slice (some ⟨vb, 0, none⟩) 1 1] w (InsQ w (.slice (some ⟨b, 0, none⟩) l.length cap) l i x) := by
  have hce : ∀ k, k < l.length * 3 → cur.toList[k]? = (en l)[k]? := fun k hk => by rw [← hc4, List.getElem?_take, if_pos hk]
  have hlt : b < w.heap.size := (Array.getElem?_eq_some_iff.1 hb).1
  have hvlt : vb < w.heap.size := hx.lt
  obtain ⟨n, hn⟩ : ∃ n, n = l.length := ⟨_, rfl⟩
  have hcn : cap = n := by omega
  obtain ⟨i0, hi0, hz0, hs0, hb0⟩ := tim_i
  obtain ⟨G, hG⟩ : ∃ G, G = grownCap w (n + 1) cap 52 := ⟨_, rfl⟩
  have hGn : n + 1 ≤ G := by rw [hG]; exact grownCap_ge w _ _ _
  have hGm : G ≤ maxLen := by rw [hG]; exact grownCap_le_maxLen w (n + 1) cap _ (by unfold maxLen; omega)
  obtain ⟨ROW, hROW⟩ : ∃ ROW : Array Value, ROW = (en (l.take i)).toArray ++ Builtin.zeroCells (#[.int .i64 0, .int .i64 0, .int .i64 0] : Array Value) (n + 1 - i) ++ Builtin.zeroCells (#[.int .i64 0, .int .i64 0, .int .i64 0] : Array Value) (G - (n + 1)) := ⟨_, rfl⟩
  have hRs : ROW.size = G * 3 := by
    rw [hROW]
    simp only [Array.size_append, zeros_len, List.size_toArray, en_len, List.length_take, Nat.min_eq_left (show i ≤ l.length by omega)]
    omega
  obtain ⟨W1, hW1⟩ : ∃ W1, W1 = w.drew.alloc (.cells ROW 52) := ⟨_, rfl⟩
  have hap : ∀ ty, (Builtin.append_ #[47, 3] ty #[.slice (some ⟨b, 0, none⟩) i cap, .int .i64 ((n : Int) + 1 - (i : Int))]).run Try.prog w = .ok (.slice (some ⟨w.heap.size, 0, none⟩) (n + 1) G) W1 := fun ty => by
    have hold : (Builtin.firstCells i0.size i (.slice (some ⟨b, 0, none⟩) i cap)).run Try.prog w.drew = .ok (en (l.take i)).toArray w.drew := by
      rw [hs0]
      refine run_firstCells_some w.drew 3 i ⟨b, 0, none⟩ i cap (en (l.take i)) (by rw [en_len, List.length_take, Nat.min_eq_left (by omega)]) (fun j v hj => ?_)
      rw [head_add]
      show w.cell? _ = _
      have hj' := (List.getElem?_eq_some_iff.1 hj).1
      rw [en_len, List.length_take, Nat.min_eq_left (show i ≤ l.length by omega)] at hj'
      rw [cell_cur hb, hce _ (by omega)]
      rw [← en_take, List.getElem?_take, if_pos hj'] at hj
      exact hj
    have hfit : (i + (n + 1 - i)) * i0.bytes ≤ 140737488355328 := by rw [hb0]; omega
    have h := Lib.run_append_grow_zeros w 47 3 ty 52 i0 _ .i64 .i64 tims_slice Try.underlying3 hi0 hz0 (some ⟨b, 0, none⟩) i cap (en (l.take i)) hold (n + 1 - i) (by omega) (by rw [hs0]; omega) (by omega) (by omega) (by rw [hb0]; omega) (growslice_fits (by omega) hfit)
    rw [show i + (n + 1 - i) = n + 1 by omega, ← hG] at h
    rw [show (n : Int) + 1 - (i : Int) = ((n + 1 - i : Nat) : Int) by omega, h, hW1, hROW]
    rfl
  have hg1 : W1.heap[w.heap.size]? = some (.cells ROW 52 (0, 0)) := by
    rw [hW1]
    have := Row.new w.drew 52 ROW.toList
    unfold Row at this
    simpa using this
  have hb1 : W1.heap[b]? = some (.cells cur 52 (0, 0)) := by
    have h : Row w b 52 cur.toList := by unfold Row; simpa using hb
    have := h.drew.alloc (.cells ROW 52)
    rw [← hW1] at this
    unfold Row at this
    simpa using this
  have hx1 : Row W1 vb 52 (cs x) := by rw [hW1]; exact hx.drew.alloc _
  obtain ⟨g, hg⟩ : ∃ g, g = w.heap.size := ⟨_, rfl⟩
  rw [← hg] at hap hg1
  have hgb : b ≠ g := by omega
  have hgv : vb ≠ g := by omega
  obtain ⟨cur1, hcur1⟩ : ∃ cur1 : Array Value, cur1 = (ROW.toList.take (i * 3) ++ cs x ++ ROW.toList.drop (i * 3 + (cs x).length)).toArray := ⟨_, rfl⟩
  obtain ⟨W2, hW2⟩ : ∃ W2, W2 = W1.setRow g cur1 := ⟨_, rfl⟩
  have hs1 : cur1.size = G * 3 := by rw [hcur1]; exact lay_len ROW _ _ (by simp [cs]; omega) hRs
  have hg2 : W2.drew.heap[g]? = some (.cells cur1 52 (0, 0)) := by rw [hW2]; exact setRow_heap _ g _ _ _ _ hg1
  have hb2 : W2.drew.heap[b]? = some (.cells cur 52 (0, 0)) := by
    have h : Row W1 b 52 cur.toList := by unfold Row; simpa using hb1
    have := (Row.setRow_other h hgb cur1).drew
    rw [← hW2] at this
    unfold Row at this
    simpa using this
  have hd : (en (l.drop i)).length = (n - i) * 3 := by rw [en_len, List.length_drop, hn]
  obtain ⟨cur2, hcur2⟩ : ∃ cur2 : Array Value, cur2 = (cur1.toList.take ((i + 1) * 3) ++ en (l.drop i) ++ cur1.toList.drop ((i + 1) * 3 + (en (l.drop i)).length)).toArray := ⟨_, rfl⟩
  obtain ⟨W3, hW3⟩ : ∃ W3, W3 = W2.drew.setRow g cur2 := ⟨_, rfl⟩
  have hs2 : cur2.size = G * 3 := by rw [hcur2]; exact lay_len cur1 _ _ (by rw [hd]; omega) hs1
  have hg3 : W3.heap[g]? = some (.cells cur2 52 (0, 0)) := by rw [hW3]; exact setRow_heap _ g _ _ _ _ hg2
  have hcp1 : ∀ ty, (Builtin.copy_ #[47, 47] ty #[.slice (some ⟨g, i * 3, none⟩) (n + 1 - i) (G - i), .slice (some ⟨vb, 0, none⟩) 1 1]).run Try.prog W1 = .ok (goInt ((1 : Nat))) W2 := fun ty => by
    rw [hW2, hcur1]
    refine run_copy_k W1 _ _ ty 52 3 g (i * 3) _ _ ⟨vb, 0, none⟩ _ _ ROW _ (cs x) tims_slice tim_size hg1 1 (by simp only [Nat.min_def]; split <;> omega) rfl ?_ (by rw [hRs]; simp [cs]; omega) (fun u hu => en_one [x] u (by simpa [en] using hu))
    intro k u hu
    rw [head_add]
    exact hx1.at hu
  have hcp2 : ∀ ty, (Builtin.copy_ #[47, 47] ty #[.slice (some ⟨g, (i + 1) * 3, none⟩) (n + 1 - (i + 1)) (G - (i + 1)), .slice (some ⟨b, i * 3, none⟩) (n - i) (cap - i)]).run Try.prog W2.drew = .ok (goInt ((n - i : Nat))) W3 := fun ty => by
    rw [hW3, hcur2]
    refine run_copy_k W2.drew _ _ ty 52 3 g ((i + 1) * 3) _ _ ⟨b, i * 3, none⟩ _ _ cur1 _ (en (l.drop i)) tims_slice tim_size hg2 (n - i) (by simp only [Nat.min_def]; split <;> omega) hd ?_ (by rw [hd, hs1]; omega) (en_one _)
    intro k u hu
    rw [Addr.add_lit, cell_cur hb2, hce _ (by have := (List.getElem?_eq_some_iff.1 hu).1; omega)]
    rw [← en_drop, List.getElem?_drop] at hu
    exact hu
  have hQ : InsQ w (.slice (some ⟨b, 0, none⟩) l.length cap) l i x (.returned (.slice (some ⟨g, 0, none⟩) (n + 1) G)) W3 := by
    refine ⟨_, rfl, ⟨?_, .inr ⟨g, G, cur2, by rw [hn], Nat.zero_le _, hg3, by omega, hGm, hs2, ?_⟩⟩, ?_, fun b' hb' => .inr (by cases hb'; show w.heap.size ≤ g; omega)⟩
    · rw [en_len]; simp; omega
    · refine ins_row l i (by omega) x _ (fun k hk => ?_) (fun k hk => ?_) (fun k hk => ?_)
      · rw [hcur2]
        simp only []
        rw [lay_get _ _ _ (by rw [hs1, hd]; omega), if_pos (by omega), hcur1]
        simp only []
        rw [lay_get _ _ _ (by rw [hRs]; simp [cs]; omega), if_pos hk, hROW]
        simp only [Array.toList_append]
        rw [List.append_assoc, List.getElem?_append_left (by rw [en_len, List.length_take, Nat.min_eq_left (by omega)]; omega), ← en_take, List.getElem?_take, if_pos hk]
      · rw [hcur2]
        simp only []
        rw [lay_get _ _ _ (by rw [hs1, hd]; omega), if_pos (by omega), hcur1]
        simp only []
        rw [lay_get _ _ _ (by rw [hRs]; simp [cs]; omega), if_neg (by omega), if_pos (by simp [cs]; omega)]
        congr 1
        omega
      · rw [hcur2]
        simp only []
        rw [lay_get _ _ _ (by rw [hs1, hd]; omega), if_neg (by omega), if_pos (by rw [hd]; omega), ← en_drop, List.getElem?_drop]
        congr 1
        omega
    · rw [hW3, hW2, hW1]
      refine (Far.drew ?_).setRow (fun h => absurd h (by show ¬ g < w.heap.size; omega)) _
      exact (((Far.refl [b] w).drew.alloc _).setRow (fun h => absurd h (by show ¬ g < w.heap.size; omega)) _)
  have HQ := Lib.hid hQ
  have HC2 := Lib.hid hcp2
  have hap3 := Lib.hid hap
  have hcp3 := hcp1 3
  have hin : i ≤ n := by omega
  have hinl : i < n := by omega
  have hni : ¬ (i : Int) = (n : Int) := by omega
  have hci : ¬ cap = i := by omega
  have hGi : ¬ G = i := by omega
  have hGi1 : ¬ G = i + 1 := by omega
  have hnc : n ≤ cap := by omega
  have hic : i ≤ cap := by omega
  have hn64 : n ≤ 64 := by omega
  have hgt : ((cap : Int) < (n : Int) + 1) := by omega
  have htn : ((i : Int) + 1).toNat = i + 1 := by omega
  have hw1 : IntKind.i64.wrap ((i : Int) + 1) = (i : Int) + 1 := by rw [IntKind.wrap_i64]; omega
  have hc1' : (0 : Int) ≤ (i : Int) + 1 := by omega
  have hc2' : ¬ ((i : Int) + 1 < 0) := by omega
  have hb3 : i + 1 ≤ n + 1 := by omega
  have hb4 : (i : Int) ≤ (n : Int) := by omega
  have hb5 : (i : Int) ≤ (n : Int) + 1 := by omega
  have hCN := Lib.hid hcn
  clear hQ hcp1 hcp2 hs2 hg3 hW3 hcur2 hd hb2 hg2 hs1 hW2 hcur1 hgb hgv hg hx1 hb1 hg1 hap hW1 hRs hROW hG hce hb hc4 hx hcn hi0 hz0 hs0 hb0
  rw [← hn] at HQ ⊢
  clear hn hi hlen hroom hc1
  go_enter Try.func19, Try.ntmps19
  go_wp2_with (at_builtin; refine wpList_append_eq rfl _ _ 47 3 rfl _ _ rfl rfl hap3.out ?_)
  go_region_law (refine step_copy rfl _ _ 47 rfl _ _ (by simp [Act.eval, Act.put]) (by simp [Act.eval, Act.put]) HC2.out ?_)
  all_goals
    go_wp2
    go_ret
    exact HQ.out
theorem ins_any (w : World) (v : Value) (l : List Ti) (i : Nat) (x : Ti) (vb : Nat) (hi : i ≤ l.length) (hown : w.ownsRow 0 52 3 v l.length (en l)) (hlen : l.length ≤ 64) (hx : Row w vb 52 (cs x)) (hne : v.ownBlock ≠ some vb) :
    Calls Try.prog 19 #[v, .int .i64 i, .slice (some ⟨vb, 0, none⟩) 1 1] w (InsQ w v l i x) := by
  by_cases he : i = l.length
  · subst he
    exact ins_end w v l x vb hown hlen hx
  · rcases own_cases hown with ⟨_, rfl⟩ | ⟨b, cap, cur, rfl, hb, hc1, hc2, hc3, hc4⟩
    · simp at hi; exact absurd hi he
    · by_cases hr : l.length + 1 ≤ cap
      · exact ins_shift w b cap cur l i x vb (by omega) hlen hr hc2 hb hc3 hc4 hx (fun e => hne (by rw [e]; rfl))
      · exact ins_grow w b cap cur l i x vb (by omega) hlen (by omega) hc1 hb hc4 hx
end TL
end Go.Proofs.Ytcodmpibhlojaaa
