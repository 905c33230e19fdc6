/- Plain facts of nodes: what was written is read; the two ways to say what is read. -/
import Derived.Test.YtmebdjafnefneaaDoorNodeX
import Derived.Test.YtmebdjafnefneaaDoorPkNR
import Derived.Test.YtmebdjafnefneaaDoorSealPl
namespace Go.Proofs.YtmebdjafnefneaaDoor
open Go Go.RowKit Go.Proofs

theorem kt_off {r : List UInt8} (h : ktE r = 0) : r = (ktK r).bytes ++ ktR r := by
  unfold ktE at h
  split at h
  · rename_i hy
    have h9 : 9 ≤ r.length := of_decide_eq_true (by unfold ktY at hy; rw [Bool.and_eq_true] at hy; exact hy.1)
    unfold ktK ktR
    rw [if_pos hy, if_pos hy]
    unfold kdOf Kd.bytes
    dsimp only
    rw [dig_num _ 4 (by simp; omega), dig_num _ 1 (by simp; omega), dig_num _ 4 (by simp; omega)]
    have e3 : (r.drop 5).take 4 ++ r.drop 9 = r.drop 5 := by have := List.take_append_drop 4 (r.drop 5); rwa [List.drop_drop] at this
    have e2 : (r.drop 4).take 1 ++ r.drop 5 = r.drop 4 := by have := List.take_append_drop 1 (r.drop 4); rwa [List.drop_drop] at this
    rw [List.append_assoc, List.append_assoc, e3, e2, List.take_append_drop]
  · split at h <;> omega
theorem tt_off {r : List UInt8} (h : ttE r = 0) : r = dig ((ttS r).length : Int) 1 ++ (ttS r ++ ttR r) := by
  unfold ttE at h
  split at h
  · rename_i hy
    obtain ⟨h1, h2⟩ := of_decide_eq_true hy
    unfold ttS ttR
    rw [if_pos hy, if_pos hy]
    unfold bodyT restT
    have e0 : ((r.drop 1).take (numL (r.take 1))).length = numL (r.take 1) := by rw [List.length_take, List.length_drop]; omega
    rw [e0, dig_num _ 1 (by simp; omega)]
    have e1 : (r.drop 1).take (numL (r.take 1)) ++ r.drop (1 + numL (r.take 1)) = r.drop 1 := by have := List.take_append_drop (numL (r.take 1)) (r.drop 1); rwa [List.drop_drop] at this
    rw [e1, List.take_append_drop]
  · omega
theorem t2_off {r : List UInt8} (h : t2E r = 0) : r = dig (t2V r) 2 ++ t2R r := by
  unfold t2E at h
  split at h
  · rename_i hy
    have h1 := of_decide_eq_true hy
    unfold t2V t2R
    rw [if_pos hy, if_pos hy, dig_num _ 2 (by simp; omega), List.take_append_drop]
  · omega
theorem tt_back (v l : List UInt8) (hv : v.length ≤ 255) : ttS (dig (v.length : Int) 1 ++ (v ++ l)) = v ∧ ttR (dig (v.length : Int) 1 ++ (v ++ l)) = l ∧ ttE (dig (v.length : Int) 1 ++ (v ++ l)) = 0 := by
  have e1 : (dig (v.length : Int) 1 ++ (v ++ l)).take 1 = dig (v.length : Int) 1 := List.take_left' (dig_len _ _)
  have e2 : (dig (v.length : Int) 1 ++ (v ++ l)).drop 1 = v ++ l := List.drop_left' (dig_len _ _)
  have e3 : numL (dig (v.length : Int) 1) = v.length := by rw [numL_dig', Nat.mod_eq_of_lt (by omega)]
  have hy : ttY (dig (v.length : Int) 1 ++ (v ++ l)) = true := by
    refine decide_eq_true ?_
    rw [e1, e3]
    simp [dig_len]
  unfold ttS ttR ttE bodyT restT
  rw [if_pos hy, if_pos hy, if_pos hy, e1, e3, e2, ← List.drop_drop, e2]
  exact ⟨List.take_left' rfl, List.drop_left' rfl, rfl⟩
theorem t2_back (a : Int) (l : List UInt8) (h0 : 0 ≤ a) (h1 : a < 65536) : t2V (dig a 2 ++ l) = a ∧ t2R (dig a 2 ++ l) = l ∧ t2E (dig a 2 ++ l) = 0 := by
  have hy : t2Y (dig a 2 ++ l) = true := decide_eq_true (by rw [List.length_append, dig_len]; omega)
  unfold t2V t2R t2E
  rw [if_pos hy, if_pos hy, if_pos hy, List.take_left' (dig_len _ _), List.drop_left' (dig_len _ _), numL_one a 2 h0 (by omega)]
  exact ⟨rfl, rfl, rfl⟩
theorem step_it_back (xs : List Itm) (x : Itm) (l : List UInt8) (hk : x.k.may = true) (hv : x.v.length ≤ 28) : rnStep ⟨0, xs, []⟩ (itBytes x ++ l) = some (⟨0, xs ++ [x], []⟩, l) := by
  have e : itBytes x ++ l = x.k.bytes ++ (dig (x.v.length : Int) 1 ++ (x.v ++ l)) := by unfold itBytes; simp
  obtain ⟨a1, a2, a3⟩ := kt_back x.k hk (dig (x.v.length : Int) 1 ++ (x.v ++ l))
  obtain ⟨b1, b2, b3⟩ := tt_back x.v l (by omega)
  rw [e]
  unfold rnStep
  rw [a1, a2, a3, b1, b2, b3, if_pos rfl, if_pos rfl, if_pos rfl]
theorem step_kid_back (lv : Int) (hl : lv ≠ 0) (xs : List Kidd) (x : Kidd) (l : List UInt8) (hk : x.k.may = true) (h0 : 0 ≤ x.a) (h1 : x.a < 65536) : rnStep ⟨lv, [], xs⟩ (kidBytes x ++ l) = some (⟨lv, [], xs ++ [x]⟩, l) := by
  have e : kidBytes x ++ l = x.k.bytes ++ (dig x.a 2 ++ l) := by unfold kidBytes; simp
  obtain ⟨a1, a2, a3⟩ := kt_back x.k hk (dig x.a 2 ++ l)
  obtain ⟨b1, b2, b3⟩ := t2_back x.a l h0 h1
  rw [e]
  unfold rnStep
  rw [a1, a2, a3, b1, b2, b3, if_pos rfl, if_neg hl, if_pos rfl]
theorem rn_items (xs : List Itm) (z : List UInt8) (hk : ∀ j, j < xs.length → (itAt xs j).k.may = true ∧ (itAt xs j).v.length ≤ 28) : ∀ j, j ≤ xs.length → rnTo 0 (xs.flatMap itBytes ++ z) j = some (⟨0, xs.take j, []⟩, (xs.drop j).flatMap itBytes ++ z)
  | 0, _ => rfl
  | j + 1, hj => by
    have ih := rn_items xs z hk j (by omega)
    rw [rnTo_next _ _ _ _ _ ih]
    have hx := itAt_get (show j < xs.length by omega)
    have hd : xs.drop j = itAt xs j :: xs.drop (j + 1) := by
      rw [← List.getElem_cons_drop (h := by omega)]
      rw [List.getElem?_eq_getElem (by omega)] at hx
      rw [Option.some.inj hx]
    obtain ⟨h1, h2⟩ := hk j (by omega)
    rw [hd, List.flatMap_cons, List.append_assoc, step_it_back _ _ _ h1 h2]
    have ht : xs.take (j + 1) = xs.take j ++ [itAt xs j] := by
      rw [List.take_succ_eq_append_getElem (by omega)]
      rw [List.getElem?_eq_getElem (by omega)] at hx
      rw [Option.some.inj hx]
    rw [ht]
theorem rn_kids (lv : Int) (hl : lv ≠ 0) (xs : List Kidd) (z : List UInt8) (hk : ∀ j, j < xs.length → (kidAt xs j).k.may = true ∧ 0 ≤ (kidAt xs j).a ∧ (kidAt xs j).a < 65536) : ∀ j, j ≤ xs.length → rnTo lv (xs.flatMap kidBytes ++ z) j = some (⟨lv, [], xs.take j⟩, (xs.drop j).flatMap kidBytes ++ z)
  | 0, _ => rfl
  | j + 1, hj => by
    have ih := rn_kids lv hl xs z hk j (by omega)
    rw [rnTo_next _ _ _ _ _ ih]
    have hx := kidAt_get (show j < xs.length by omega)
    have hd : xs.drop j = kidAt xs j :: xs.drop (j + 1) := by
      rw [← List.getElem_cons_drop (h := by omega)]
      rw [List.getElem?_eq_getElem (by omega)] at hx
      rw [Option.some.inj hx]
    obtain ⟨h1, h2, h3⟩ := hk j (by omega)
    rw [hd, List.flatMap_cons, List.append_assoc, step_kid_back lv hl _ _ _ h1 h2 h3]
    have ht : xs.take (j + 1) = xs.take j ++ [kidAt xs j] := by
      rw [List.take_succ_eq_append_getElem (by omega)]
      rw [List.getElem?_eq_getElem (by omega)] at hx
      rw [Option.some.inj hx]
    rw [ht]
theorem rise_may {ks : List Kd} (h : rises ks = true) (j : Nat) (hj : j < ks.length) : (keyAt ks j).may = true := by
  have := all_iff.1 (show (List.range ks.length).all (riseOk ks) = true from h) j hj
  unfold riseOk at this
  rw [Bool.and_eq_true] at this
  exact this.1
/-- A node's body is read as the node. -/
theorem rn_back {N : Nd} (hm : N.may = true) (z : List UInt8) : rnTo N.lvl (N.body ++ z) (N.items.length + N.kids.length) = some (N, z) := by
  have hfit := may_fit hm
  obtain ⟨l, its, ks⟩ := N
  by_cases hl : l = 0
  · subst hl
    have hk : ks = [] := hfit.1 rfl
    subst hk
    have hmm := hm
    rw [may_leaf _ rfl rfl] at hm
    unfold mayI at hm
    rw [Bool.and_eq_true] at hm
    have h2 := all_iff.1 hm.2
    have := rn_items its z (fun j hj => by
      have h3 := h2 j hj
      unfold okI riseOk fitI at h3
      rw [Bool.and_eq_true, Bool.and_eq_true, keyAt_it] at h3
      exact ⟨h3.1.1, of_decide_eq_true h3.2⟩) its.length (Nat.le_refl _)
    unfold Nd.body
    simp only [List.flatMap_nil, List.append_nil, List.length_nil, Nat.add_zero]
    rw [this, List.take_length, List.drop_length]
    rfl
  · have hi : its = [] := hfit.2 hl
    subst hi
    have hx : 1 ≤ l ∧ l ≤ 7 := by
      unfold Nd.may at hm
      rw [if_neg hl, Bool.and_eq_true, Bool.and_eq_true] at hm
      have h := of_decide_eq_true hm.2.2
      exact ⟨h.1, Int.lt_add_one_iff.1 h.2.1⟩
    rw [may_inner _ hl hx rfl] at hm
    unfold mayK at hm
    rw [Bool.and_eq_true] at hm
    have h2 := all_iff.1 hm.2
    have := rn_kids l hl ks z (fun j hj => by
      have h3 := h2 j hj
      unfold okK riseOk fitK at h3
      rw [Bool.and_eq_true, Bool.and_eq_true, keyAt_kid] at h3
      have h4 : 1 ≤ (kidAt ks j).a ∧ (kidAt ks j).a ≤ 2047 := of_decide_eq_true h3.2
      exact ⟨h3.1.1, by omega, by omega⟩) ks.length (Nat.le_refl _)
    unfold Nd.body
    simp only [List.flatMap_nil, List.nil_append, List.length_nil, Nat.zero_add]
    rw [this, List.take_length, List.drop_length]
    rfl
/-- What was read off a row stood there. -/
theorem rn_off (l : Int) (body : List UInt8) : ∀ (j : Nat) (N : Nd) (r : List UInt8), rnTo l body j = some (N, r) → body = N.body ++ r ∧ N.lvl = l ∧ N.items.length + N.kids.length = j ∧ (l = 0 → N.kids = []) ∧ (l ≠ 0 → N.items = [])
  | 0, N, r, h => by
    injection h with h
    injection h with h1 h2
    subst h1 h2
    exact ⟨rfl, rfl, rfl, fun _ => rfl, fun _ => rfl⟩
  | j + 1, N, r, h => by
    cases hj : rnTo l body j with
    | none => rw [rnTo_none l body j (j + 1) hj (by omega)] at h; cases h
    | some p =>
      obtain ⟨M, s⟩ := p
      rw [rnTo_next _ _ _ _ _ hj] at h
      obtain ⟨e1, e2, e3, e4, e5⟩ := rn_off l body j M s hj
      unfold rnStep at h
      split at h
      · rename_i hk
        split at h
        · rename_i h0
          split at h
          · rename_i htt
            injection h with h
            injection h with h1 h2
            subst h1 h2
            have l0 : l = 0 := e2.symm.trans h0
            have hks := e4 l0
            refine ⟨?_, e2, ?_, fun _ => hks, fun h => absurd l0 h⟩
            · rw [e1]
              unfold Nd.body
              dsimp only
              rw [hks]
              simp only [List.flatMap_nil, List.append_nil, List.flatMap_append, List.flatMap_cons]
              rw [List.append_assoc]
              congr 1
              conv => lhs; rw [kt_off hk, tt_off htt]
              unfold itBytes
              simp
            · dsimp only
              rw [List.length_append]
              simp
              omega
          · cases h
        · rename_i h0
          split at h
          · rename_i htt
            injection h with h
            injection h with h1 h2
            subst h1 h2
            have l0 : l ≠ 0 := fun e => h0 (e2.trans e)
            have hks := e5 l0
            refine ⟨?_, e2, ?_, fun h => absurd h l0, fun _ => hks⟩
            · rw [e1]
              unfold Nd.body
              dsimp only
              rw [hks]
              simp only [List.flatMap_nil, List.nil_append, List.flatMap_append, List.flatMap_cons]
              rw [List.append_assoc]
              congr 1
              conv => lhs; rw [kt_off hk, t2_off htt]
              unfold kidBytes
              simp
            · dsimp only
              rw [List.length_append]
              simp
              omega
          · cases h
      · cases h
theorem head_kind (N : Nd) (h0 : 0 ≤ N.lvl) : (if 0 < N.lvl then (4 : Int) else 3) = (if N.lvl = 0 then 3 else 4) := by
  by_cases h : N.lvl = 0
  · rw [if_pos h, if_neg (by omega)]
  · rw [if_neg h, if_pos (by omega)]
theorem head_eq {M : Nd} {h : Hd} {addr : Int} (h0 : 0 ≤ M.lvl) (hl : M.lvl = h.level) (hc : (M.items.length : Int) + (M.kids.length : Int) = h.count) (hk : h.kind = if h.level = 0 then 3 else 4) (ha : h.addr = addr) : M.head addr h.gen = h := by
  obtain ⟨kd, ad, ct, lv, gn⟩ := h
  have hl : M.lvl = lv := hl
  have hc : (M.items.length : Int) + (M.kids.length : Int) = ct := hc
  have hk : kd = if lv = 0 then 3 else 4 := hk
  have ha : ad = addr := ha
  have h1 := head_kind M h0
  show (⟨if 0 < M.lvl then 4 else 3, addr, (M.items.length : Int) + (M.kids.length : Int), M.lvl, gn⟩ : Hd) = _
  rw [h1, hc, hl, ← hk, ha]
theorem blk_pad (h : Hd) (l r : List UInt8) (hr : allZ r = true) (hl : l.length + r.length = 236) : blkL h l = blkL h (l ++ r) := by
  have e : restL h l = restL h (l ++ r) := by
    unfold restL
    have z := allZ_rep hr
    rw [show 236 - (l ++ r).length = 0 by rw [List.length_append]; omega, show 236 - l.length = r.length by omega, ← z]
    simp
  unfold blkL
  rw [e]
theorem allZ_zeros (n : Nat) : allZ (List.replicate n 0) = true := by
  unfold allZ
  rw [List.all_eq_true]
  intro x hx
  rw [(List.mem_replicate.1 hx).2]
  rfl
/-- A block that was written is read as the node, at its address alone. -/
theorem cread_back {N : Nd} {addr gen : Int} (hm : N.may = true) (hE : writeE N addr gen = 0) (a2 : Int) : creadN (writeB N addr gen) a2 = if addr = a2 then some N else none := by
  unfold writeE at hE
  rw [if_pos hm] at hE
  obtain ⟨hok, hl, hB⟩ := run_take_seal _ _ hE
  unfold writeB
  rw [if_pos hm, hB]
  obtain ⟨o1, o2, o3⟩ := blk_open _ _ hok hl
  obtain ⟨_, _, _, h0⟩ := may_sizes hm
  unfold creadN
  rw [if_pos o3, o1, o2]
  have hc : (N.head addr gen).count.toNat = N.items.length + N.kids.length := by unfold Nd.head; dsimp only; omega
  have hlv : (N.head addr gen).level = N.lvl := rfl
  rw [hc, hlv, rn_back hm]
  unfold cfin
  dsimp only
  by_cases ha : addr = a2
  · have hk : (N.head addr gen).kind = (if (N.head addr gen).level = 0 then 3 else 4) := head_kind N h0
    rw [if_pos ha, if_pos ⟨hk, ha, allZ_zeros _, hm⟩]
  · rw [if_neg ha, if_neg (fun h => ha h.2.1)]
theorem cread_read (b : List UInt8) (addr : Int) : creadN b addr = readN b addr := by
  refine Option.ext fun N => ?_
  constructor
  · intro h
    unfold creadN at h
    split at h
    · rename_i hE
      have hob : okB b = true := by
        cases hb : okB b
        · rw [(op_no hb).2.2] at hE; cases hE
        · rfl
      cases hrn : rnTo (opH b).level (opB b) (opH b).count.toNat with
      | none => rw [hrn] at h; cases h
      | some p =>
        obtain ⟨M, r⟩ := p
        rw [hrn] at h
        unfold cfin at h
        dsimp only at h
        by_cases hh : (opH b).kind = (if (opH b).level = 0 then 3 else 4) ∧ (opH b).addr = addr ∧ allZ r = true ∧ M.may = true
        · rw [if_pos hh] at h
          obtain ⟨h1, h2, h3, h4⟩ := hh
          injection h with h
          subst h
          obtain ⟨e1, e2, e3, e4, e5⟩ := rn_off _ _ _ _ _ hrn
          obtain ⟨m1, m2, _, m4⟩ := may_sizes h4
          have hok := opH_ok hE
          have hin := of_decide_eq_true hok
          have hcnt : rnCount b = (opH b).count.toNat := by
            have : M.items.length + M.kids.length ≤ 12 := by
              by_cases hz : (opH b).level = 0
              · rw [e4 hz]; simp; omega
              · rw [e5 hz]; simp; omega
            unfold rnCount
            omega
          have hb20 := (op_yes hob).2.1
          have hl256 := (of_decide_eq_true hob).1
          have hlen : M.body.length + r.length = 236 := by
            have := congrArg List.length e1
            rw [hb20, List.length_drop, List.length_append] at this
            omega
          have hhead : M.head addr (opH b).gen = opH b := head_eq m4 e2 (by omega) h1 h2
          unfold readN
          rw [if_pos hE, hcnt, hrn]
          unfold readFin
          dsimp only
          have w1 : writeE M addr (opH b).gen = 0 := by
            unfold writeE
            rw [if_pos h4, hhead]
            unfold sealE
            rw [if_pos hok, if_pos (by omega)]
          have w2 : writeB M addr (opH b).gen = b := by
            unfold writeB
            rw [if_pos h4, hhead]
            unfold sealB
            rw [if_pos hok, if_pos (by omega), blk_pad _ _ r h3 hlen, ← e1, hb20]
            have := (form_of b hob).2
            unfold sealB at this
            rw [if_pos hok, if_pos (by rw [List.length_drop]; omega)] at this
            exact this
          rw [if_pos ⟨w1, w2⟩]
        · rw [if_neg hh] at h; cases h
    · cases h
  · intro h
    unfold readN at h
    split at h
    · rename_i hE
      cases hrn : rnTo (opH b).level (opB b) (rnCount b) with
      | none => rw [hrn] at h; cases h
      | some p =>
        obtain ⟨M, r⟩ := p
        rw [hrn] at h
        unfold readFin at h
        dsimp only at h
        split at h
        · rename_i hh
          obtain ⟨w1, w2⟩ := hh
          injection h with h
          subst h
          have hm : M.may = true := by
            cases hm : M.may
            · unfold writeE at w1; rw [hm] at w1; cases w1
            · rfl
          have := cread_back hm w1 addr
          rw [w2, if_pos rfl] at this
          exact this
        · cases h
    · cases h
end Go.Proofs.YtmebdjafnefneaaDoor
