/-
  slices.Delete of one timer of a row that the call has made. Conditions: 64 timers or fewer; the place is one of the row's.
-/
import Derived.Test.YtcodmpibhlojaaaTimLib
namespace Go.Proofs.Ytcodmpibhlojaaa
open Go.RowKit Go.Lib
namespace TL
open TM TR MM
theorem tim_i : ∃ i0, Try.prog.info? 52 = some i0 ∧ i0.zero = some (.agg #[.int .i64 0, .int .i64 0, .int .i64 0]) ∧ i0.size = 3 ∧ i0.bytes = 24 := by
  obtain ⟨i, hi, hz, hs, hb⟩ := info_parts tim_info
  exact ⟨i, hi, hz, hs, hb⟩
set_option maxHeartbeats 4000000 in
set_option maxRecDepth 100000 in
theorem del_any (w : World) (v : Value) (l : List Ti) (i j : Nat) (hi : i < l.length) (hj : j = i + 1) (hown : w.ownsRow 0 52 3 v l.length (en l)) (hlen : l.length ≤ 64) :
    Calls Try.prog 30 #[v, .int .i64 i, .int .i64 j] w fun e w' =>
      ∃ v', e = .returned v' ∧ w'.ownsRow 0 52 3 v' (l.eraseIdx i).length (en (l.eraseIdx i)) ∧ Far v.ownBlock.toList w w' ∧ v'.ownBlock = v.ownBlock := by
  rcases own_cases hown with ⟨rfl, rfl⟩ | ⟨b, cap, cur, rfl, hb, hc1, hc2, hc3, hc4⟩
  · exact absurd hi (by simp)
  · clear hown
    have hlt : b < w.heap.size := (Array.getElem?_eq_some_iff.1 hb).1
    obtain ⟨i0, hi0, hz0, hs0, hb0⟩ := tim_i
    obtain ⟨n, hn⟩ : ∃ n, n = l.length := ⟨_, rfl⟩
    obtain ⟨m, hm⟩ : ∃ m, m = n - j := ⟨_, rfl⟩
    obtain ⟨news, hnews⟩ : ∃ news, news = en (l.drop j) := ⟨_, rfl⟩
    have hnl : news.length = m * 3 := by rw [hnews, en_len, List.length_drop]; omega
    have hce : ∀ k u, (en l)[k]? = some u → cur.toList[k]? = some u := fun k u hu => by
      rw [← hc4, List.getElem?_take] at hu
      split at hu
      · exact hu
      · cases hu
    obtain ⟨A, hA, hsrc⟩ : ∃ A : Addr, (if cap = j then some (⟨b, 0, none⟩ : Addr) else some ⟨b, j * 3, none⟩) = some A ∧ Hid (∀ t u, news[t]? = some u → w.drew.cell? (A.add t) = some u) := by
      by_cases h : cap = j
      · refine ⟨⟨b, 0, none⟩, by simp [h], fun t u hu => ?_⟩
        have h0 : news.length = 0 := by rw [hnl]; omega
        rw [List.length_eq_zero_iff.1 h0] at hu
        simp at hu
      · refine ⟨⟨b, j * 3, none⟩, by simp [h], fun t u hu => ?_⟩
        rw [Addr.add_lit]
        show w.cell? _ = _
        rw [cell_cur hb]
        refine hce _ _ ?_
        rw [hnews, ← en_drop, List.getElem?_drop] at hu
        exact hu
    have s1 : Hid (news.length = m * 3) := hnl
    have s2 : Hid (∀ u ∈ news, u.oneCell' = true) := by rw [hnews]; exact en_one _
    have hbd : w.drew.heap[b]? = some (.cells cur 52 (0, 0)) := hb
    have s3 : Hid (∀ t, t < news.length → (w.drew.cell? ⟨b, 0 + i * 3 + t, none⟩).isSome = true ∧ w.drew.frozen? ⟨b, 0 + i * 3 + t, none⟩ = false) := by
      intro t ht
      rw [hnl] at ht
      refine ⟨?_, ?_⟩
      · rw [cell_cur hbd, List.getElem?_eq_getElem (by simp; omega)]; rfl
      · have : Row w.drew b 52 cur.toList := by unfold Row; simpa using hbd
        exact this.frozen _
    obtain ⟨cur1, hcur1⟩ : ∃ cur1 : Array Value, cur1 = (cur.toList.take (0 + i * 3) ++ news ++ cur.toList.drop (0 + i * 3 + news.length)).toArray := ⟨_, rfl⟩
    obtain ⟨W1, hW1⟩ : ∃ W1, W1 = w.drew.setCells b (0 + i * 3) news := ⟨_, rfl⟩
    have hX : W1 = w.drew.setRow b cur1 := by rw [hW1, hcur1, cells_row b _ news _ cur _ hbd (by rw [hnl, hc3]; omega)]
    have hb1 : W1.heap[b]? = some (.cells cur1 52 (0, 0)) := by rw [hX]; exact setRow_heap _ b _ _ _ _ hbd
    have hs1 : cur1.size = cur.size := by
      rw [hcur1]
      simp [hnl, hc3]
      omega
    obtain ⟨cur2, hcur2⟩ : ∃ cur2 : Array Value, cur2 = (cur1.toList.take ((i + m) * 3) ++ List.replicate ((n - (i + m)) * 3) (Value.int .i64 0) ++ cur1.toList.drop ((i + m) * 3 + (n - (i + m)) * 3)).toArray := ⟨_, rfl⟩
    have hcl : ∀ ty, (Builtin.clear_ #[47] ty #[.slice (some ⟨b, (i + m) * 3, none⟩) (n - (i + m)) (cap - (i + m))]).run Try.prog W1 = .ok (.tuple #[]) (W1.setRow b cur2) := fun ty => by
      have h := run_clear_k (P := Try.prog) W1 47 52 ty _ (List.replicate ((n - (i + m)) * 3) (.int .i64 0)) tims_slice (tim_zero W1) b ((i + m) * 3) (n - (i + m)) (cap - (i + m)) (by omega) (zeros _)
        (fun u hu => by rw [List.eq_of_mem_replicate hu]; rfl) cur1 _ hb1 (by simp [hs1, hc3]; omega)
      rw [h, hcur2]
      simp
    have hend : (W1.setRow b cur2).ownsRow 0 52 3 (.slice (some ⟨b, 0, none⟩) (i + m) cap) (l.eraseIdx i).length (en (l.eraseIdx i)) ∧ Far [b] w (W1.setRow b cur2) := by
      have hel : (l.eraseIdx i).length = i + m := by rw [List.length_eraseIdx]; simp [hi]; omega
      refine ⟨⟨by rw [en_len], .inr ⟨b, cap, cur2, by rw [hel], Nat.zero_le _, setRow_heap _ b _ _ _ _ hb1, by omega, hc2, ?_, ?_⟩⟩, ?_⟩
      · rw [hcur2]
        simp [hs1, hc3]
        omega
      · rw [hel, hcur2]
        have hc1l : cur1.toList.length = cap * 3 := by simp [hs1, hc3]
        rw [List.append_assoc, List.take_append_of_le_length (by simp [hs1, hc3]; omega), List.take_take, Nat.min_self, hcur1]
        have e1 : cur.toList.take (0 + i * 3) = en (l.take i) := by
          rw [← en_take, ← hc4, List.take_take]
          congr 1
          omega
        rw [e1, List.take_append_of_le_length (by simp [en_len, hnl]; omega), List.take_of_length_le (by simp [en_len, hnl]; omega), hnews, ← en_app, List.eraseIdx_eq_take_drop_succ, hj]
      · rw [hX]
        exact ((Far.refl [b] w).drew.setRow (fun _ => by simp) _).setRow (fun _ => by simp) _
    have hend' := Lib.hid hend
    have hW : Hid (W1 = w.drew.setCells b (0 + i * 3) news) := hW1
    have hic : i ≤ cap := by omega
    have hjc : j ≤ cap := by omega
    have hij : ¬ (i : Int) = (j : Int) := by omega
    have hin : i ≤ n := by omega
    have hni : ¬ n = i := by omega
    have hnc : n ≤ cap := by omega
    have hij2 : i ≤ j := by omega
    have hjn : j ≤ n := by omega
    rw [← hn]
    have hN := Lib.hid hn
    have hM := Lib.hid hm
    have hMr : n - j = m := hm.symm
    have hJ := Lib.hid hj
    clear hW1 hX hb1 hs1 hcur2 hcur1 hend hbd hnl hce hnews hb hc3 hc4 hn hm hj
    have mixed : Try.prog.follows .mixedOrders = true := by kernel_rfl
    go_enter Try.func30, Try.ntmps30
    go_wp2_with fail
    go_region_law_o (refine step_append_room rfl (.tmp 22) (.tmp 25) 47 rfl 52 i0 3 tims_slice hi0 hs0 b 0 i cap (by simp [Act.eval, Act.put]) A m (cap - j) news (by simp [Act.eval, Act.put]) s1.out hsrc.out s2.out (by have := hM.out; omega) s3.out ?_; rw [← hW.out])
    go_wp2
    go_ret
    exact ⟨_, rfl, hend'.out.1, hend'.out.2, rfl⟩
end TL
end Go.Proofs.Ytcodmpibhlojaaa
