import PyProof.Rows.All
import Wide.All
import OpenK.AllK
import Wide.FinOn
import HandS.Base
import HandS.Call
import HandS.List
import HandS.Comp
import HandS.Ends
import HandS.Iter
import HandS.Text
import HandS.Wide
import HandS.Codes
import HandS.Style
import HandS.Words
import HandS.WordsList
import PyProof.EqAt
import PyProof.EqKinds
import PyProof.TupleCall
import KE.KFromBytes
import KE.KExcInit
import HandS.Exc
import HandS.ExcInit
import HandS.ExcIs
import HandS.ExcOwn
import HandS.ExcField
import HandS.MakeKwOnly
import KE.KExcIs
import PyProof.ExcBaseAll.IndexError
import PyProof.ExcBaseAll.LookupError
import HandS.RaiseMore
import PyProof.ReprRoads
import PyProof.ReprLen
import PyProof.CallFns
import HandS.Walk
import PySem.Challenge.RW_foreheads_k01_errors_and_what_they_keep
set_option Elab.async false
set_option linter.all false
set_option maxRecDepth 100000
set_option maxHeartbeats 4000000
namespace Z
open PySem PySem.Spec PyProof.Rows L2
def Sm (H H' : Hp) : Prop := ∀ b o, H b = some o → H' b = some o
theorem Sm.refl (H : Hp) : Sm H H := fun _ _ h => h
theorem Sm.trans {H H1 H2 : Hp} (a : Sm H H1) (b : Sm H1 H2) : Sm H H2 := fun c o h => b c o (a c o h)
theorem Sm.new {H : Hp} {p : Addr} {o : HO} (h : H p = none) : Sm H (upd H p o) := fun b u e => by
  rw [upd_ne (ne_of_none e h)]; exact e
theorem Sm.rd {H H' : Hp} {a : Addr} {u : HO} (e : Sm H H') (h : Rd H a u) : Rd H' a u := by
  rcases h with h | ⟨o, h⟩
  · exact .inl (e a _ h)
  · exact .inr ⟨o, e a _ h⟩
theorem Sm.seq {K : PySem.W.Frag} {H H' : Hp} {a : Addr} {xs : List V} (e : Sm H H') (h : SqL K H a xs) : SqL K H' a xs := by
  rcases h with h | h
  · exact .inl (e.rd h)
  · exact .inr h
theorem Sm.tup {K : PySem.W.Frag} {H H' : Hp} {a : Addr} {xs : List V} (e : Sm H H') (h : SqT K H a xs) : SqT K H' a xs := by
  rcases h with h | h
  · exact .inl (e.rd h)
  · exact .inr h
theorem Sm.free {H H' : Hp} (e : Sm H H') {l : Addr} (h : H' l = none) : H l = none := by
  cases q : H l with
  | none => rfl
  | some o => rw [e l o q] at h; cases h
mutual
theorem dp_mono {K : PySem.W.Frag} {H H' : Hp} (e : Sm H H') : ∀ {v : V} {d : PyData}, Dp K H v d → Dp K H' v d
  | _, _, .non => .non
  | _, _, .bl b => .bl b
  | _, _, .int i => .int i
  | _, _, .str x => .str x
  | _, _, .lst s a => .lst (e.seq s) (dpAll_mono e a)
  | _, _, .tup s a => .tup (e.tup s) (dpAll_mono e a)
theorem dpAll_mono {K : PySem.W.Frag} {H H' : Hp} (e : Sm H H') : ∀ {vs : List V} {ds : List PyData}, DpAll K H vs ds → DpAll K H' vs ds
  | _, _, .nil => .nil
  | _, _, .cons h t => .cons (dp_mono e h) (dpAll_mono e t)
end
theorem dpAll_ints {K : PySem.W.Frag} {H : Hp} : ∀ l : List Int, DpAll K H (l.map V.int) (l.map PyData.int)
  | [] => .nil
  | x :: l => .cons (.int x) (dpAll_ints l)
theorem dpAll_strs {K : PySem.W.Frag} {H : Hp} : ∀ l : List Str, DpAll K H (l.map V.str) (l.map PyData.str)
  | [] => .nil
  | x :: l => .cons (.str x) (dpAll_strs l)
theorem dpAll_bools {K : PySem.W.Frag} {H : Hp} : ∀ l : List Bool, DpAll K H (l.map V.bl) (l.map PyData.bool)
  | [] => .nil
  | x :: l => .cons (.bl x) (dpAll_bools l)
theorem dpAll_len {K : PySem.W.Frag} {H : Hp} : ∀ {vs : List V} {ds : List PyData}, DpAll K H vs ds → vs.length = ds.length
  | _, _, .nil => rfl
  | _, _, .cons _ t => by rw [List.length_cons, List.length_cons, dpAll_len t]
theorem dpAll_get {K : PySem.W.Frag} {H : Hp} : ∀ {vs : List V} {ds : List PyData} {i : Nat} {d : PyData}, DpAll K H vs ds → ds[i]? = some d → ∃ v, vs[i]? = some v ∧ Dp K H v d
  | _, _, _, _, .nil, e => by simp at e
  | _, _, 0, _, .cons h t, e => by
    have e' : _ = _ := Option.some.inj e
    subst e'
    exact ⟨_, rfl, h⟩
  | _, _, i + 1, d, .cons h t, e => dpAll_get (i := i) t e
theorem dpAll_append {K : PySem.W.Frag} {H : Hp} : ∀ {vs ws : List V} {ds es : List PyData}, DpAll K H vs ds → DpAll K H ws es → DpAll K H (vs ++ ws) (ds ++ es)
  | _, _, _, _, .nil, h => h
  | _, _, _, _, .cons h t, k => .cons h (dpAll_append t k)
/-! the heap without two addresses -/
def msk (a c : Addr) (H : Hp) : Hp := fun b => if b = a ∨ b = c then none else H b
theorem msk_ne {a c b : Addr} {H : Hp} (h1 : b ≠ a) (h2 : b ≠ c) : msk a c H b = H b := by
  unfold msk; rw [if_neg (fun h => h.elim h1 h2)]
theorem msk_some {a c b : Addr} {H : Hp} {o : HO} (h : msk a c H b = some o) : H b = some o ∧ b ≠ a ∧ b ≠ c := by
  unfold msk at h
  split at h
  · cases h
  · rename_i n
    exact ⟨h, fun e => n (.inl e), fun e => n (.inr e)⟩
theorem msk_le {a c : Addr} {H : Hp} : Sm (msk a c H) H := fun _ _ h => (msk_some h).1
theorem msk_new {a c p : Addr} {H : Hp} {o : HO} (h : H p = none) : Sm (msk a c H) (msk a c (upd H p o)) := fun b u e => by
  obtain ⟨e1, n1, n2⟩ := msk_some e
  rw [msk_ne n1 n2, upd_ne (ne_of_none e1 h)]; exact e1
theorem msk_in {a c p : Addr} {H : Hp} {o : HO} (h : p = a ∨ p = c) : msk a c (upd H p o) = msk a c H := by
  funext b
  unfold msk
  by_cases hb : b = a ∨ b = c
  · rw [if_pos hb, if_pos hb]
  · rw [if_neg hb, if_neg hb, upd_ne]
    intro e
    subst e
    exact hb h
theorem msk_at {a c p : Addr} {H : Hp} {o : HO} (h1 : p ≠ a) (h2 : p ≠ c) : msk a c (upd H p o) p = some o := by
  rw [msk_ne h1 h2, upd_same]
theorem Sm.msk {a c : Addr} {H H' : Hp} (h : Sm H H') : Sm (msk a c H) (msk a c H') := fun b o e => by
  obtain ⟨e1, n1, n2⟩ := msk_some e
  rw [msk_ne n1 n2]; exact h b o e1
/-! the source of draws: a list of a list of numbers and a number -/
structure DealS (H : Hp) (a c : Addr) (cells : List Int) (m : Int) : Prop where
  ha : H a = some (.lst [.ref c, .int m])
  hc : H c = some (.lst (cells.map V.int))
  pos : ∀ x ∈ cells, 0 ≤ x
  len : cells.length ≤ 63
  m0 : 0 ≤ m
  m1 : m < 2147483647
theorem DealS.ne {H : Hp} {a c : Addr} {cells : List Int} {m : Int} (h : DealS H a c cells m) : a ≠ c :=
  ne_of h.ha h.hc (by
    intro e
    injection e with e
    cases cells with
    | nil => cases e
    | cons x r => simp at e)
def DealAt (H : Hp) (a c : Addr) : Prop := ∃ cells m, DealS H a c cells m
theorem DealS.sm {H H' : Hp} {a c : Addr} {cells : List Int} {m : Int} (h : DealS H a c cells m) (e : Sm H H') : DealS H' a c cells m :=
  ⟨e _ _ h.ha, e _ _ h.hc, h.pos, h.len, h.m0, h.m1⟩
theorem DealAt.sm {H H' : Hp} {a c : Addr} (h : DealAt H a c) (e : Sm H H') : DealAt H' a c := let ⟨x, y, z⟩ := h; ⟨x, y, z.sm e⟩
theorem DealAt.newNe {H : Hp} {a c p : Addr} (h : DealAt H a c) (n : H p = none) : p ≠ a ∧ p ≠ c := by
  obtain ⟨x, y, z⟩ := h
  exact ⟨fun e => (by rw [e, z.ha] at n; cases n), fun e => (by rw [e, z.hc] at n; cases n)⟩
def spDraw : Sp := fun vs H Q _ => ∃ (a c : Addr) (n : Int), vs = [.ref a, .int n] ∧ DealAt H a c ∧ 0 < n ∧ n < 1073741824 ∧
  ∀ r H', 0 ≤ r → r < n → DealAt H' a c → Sm (msk a c H) (msk a c H') → Q (.int r) H'
theorem shaped_ints (l : List Int) : SeqAt.shaped (.list (l.map PyData.int)) = true := by
  have h1 : ∀ l : List Int, PyData.canLayAll0 (l.map PyData.int) = true := fun l => by
    induction l with
    | nil => simp [PyData.canLayAll0]
    | cons x l ih => simp [PyData.canLayAll0, PyData.canLay0, ih]
  have h2 : ∀ l : List Int, PyData.depthAll (l.map PyData.int) ≤ 1 := fun l => by
    induction l with
    | nil => simp [PyData.depthAll]
    | cons x l ih => simp [PyData.depthAll, PyData.depth] <;> omega
  unfold SeqAt.shaped
  rw [Bool.and_eq_true]
  refine ⟨by simp [PyData.canLay0, h1], decide_eq_true ?_⟩
  have := h2 l
  simp only [PyData.depth]
  omega
end Z
namespace Z
open PySem PySem.Spec PyProof.Rows L2
theorem ite0 {b : Bool} {A B : Prop} (e : b = false) (h : B) : if b = true then A else B := by
  subst e
  exact iteFF h
where iteFF {A B : Prop} (h : B) : if false = true then A else B := by rw [if_neg Bool.false_ne_true]; exact h
theorem ite1 {b : Bool} {A B : Prop} (e : b = true) (h : A) : if b = true then A else B := by
  subst e
  rw [if_pos rfl]; exact h
theorem iteB {b : Bool} {A B : Prop} (h1 : b = true → A) (h0 : b = false → B) : if b = true then A else B := by
  cases b with
  | true => rw [if_pos rfl]; exact h1 rfl
  | false => rw [if_neg Bool.false_ne_true]; exact h0 rfl
theorem snoc_cases {α : Type} (l : List α) : l = [] ∨ ∃ r z, l = r ++ [z] := by
  rcases h : l.reverse with _ | ⟨z, r⟩
  · left
    exact List.reverse_eq_nil_iff.mp h
  · right
    refine ⟨r.reverse, z, ?_⟩
    have := congrArg List.reverse h
    rw [List.reverse_reverse, List.reverse_cons] at this
    exact this
theorem neq_nil0 {ds : List PyData} (h : ds = []) : (!PyData.eqv (.list ds) (.list [])) = false := by
  subst h; simp [PyData.eqv, PyData.eqvAll]
theorem neq_nil1 {ds : List PyData} (h : ds ≠ []) : (!PyData.eqv (.list ds) (.list [])) = true := by
  cases ds with
  | nil => exact absurd rfl h
  | cons x r => simp [PyData.eqv, PyData.eqvAll]
theorem neq_nil {ds : List PyData} : (!PyData.eqv (.list ds) (.list [])) = !ds.isEmpty := by
  cases ds with
  | nil => simp [PyData.eqv, PyData.eqvAll]
  | cons x r => simp [PyData.eqv, PyData.eqvAll]
theorem shaped_nil : SeqAt.shaped (.list []) = true := by decide +kernel
theorem last_get {α : Type} (l : List α) (z : α) : (l ++ [z])[(l ++ [z]).length - 1]? = some z := by
  rw [List.length_append, List.length_singleton, Nat.add_sub_cancel]
  exact List.getElem?_concat_length
end Z

theorem List.getElem?_map_some {α β : Type} {f : α → β} {l : List α} {i : Nat} {x : β} (h : (l.map f)[i]? = some x) : ∃ y, l[i]? = some y ∧ f y = x := by
  rw [List.getElem?_map] at h
  cases e : l[i]? with
  | none => rw [e] at h; cases h
  | some y => rw [e] at h; exact ⟨y, rfl, Option.some.inj h⟩
set_option Elab.async false
set_option linter.all false
set_option maxRecDepth 100000
set_option maxHeartbeats 4000000
namespace Z
open PySem PySem.Spec PyProof.Rows L2
open C8 (Cal pe_c Mak pe_mk Met pe_mt pe_mt0 pe_gc)
def topS (i : Nat) : Stmt := PySem.Challenge.pw_foreheads_k01_errors_and_what_they_keep.main.body.getD i (.Pass ⟨0, 0, 0, 0⟩)
theorem log_lt {n : Int} (h : n < 1073741824) : n.natAbs.log2 < 9000 ∨ n < 0 := by
  by_cases h0 : n < 0
  · exact .inr h0
  · left
    have : n.natAbs < 2 ^ 30 := by omega
    by_cases hz : n.natAbs = 0
    · rw [hz]; decide
    · have := (Nat.log2_lt hz).mpr this
      omega
structure Bt (mg : Str → Option Value) : Prop where
  n_int : mg "int" = none
  n_abs : mg "abs" = none
  n_len : mg "len" = none
  n_range : mg "range" = none
  n_tuple : mg "tuple" = none
section
variable {P : Program} {w : World} {K : PySem.W.Frag} {mg : Str → Option Value} {base : Heap}
abbrev s_draw : Stmt := topS 14
theorem sc_draw : FnScope ["_law_deal_here", "_law_many", "_law_left"] ["_law_deal_here", "_law_many"] (defScope s_draw) := ⟨rfl, rfl, rfl, by decide +kernel, rfl, by decide +kernel, by decide +kernel⟩
theorem ok_draw {f : Addr} {fd : FuncData} {k : Nat} (F : Fun K "_law_draw" "_law_draw" s_draw f fd) (T : Bt mg) : FnOk P w K mg base CX0 (k + 1) f fd ["_law_deal_here", "_law_many"] spDraw := by
  refine F.ok sc_draw (fun vs H Q E h => ?_) (fun cdv A outer s H vs Q E hr h => ?_)
  · obtain ⟨a, c, n, rfl, _⟩ := h
    rfl
  · obtain ⟨a, c, n, rfl, hD, n0, n1, q⟩ := h
    have hu64 : A.units + 3 + 64 < cLine := by have := hr.un; show A.units + 3 + 64 < _; have e : (A.deeper (envOfC "_law_draw" (defScope s_draw) s.heap.objs.size f cdv)).units = A.units + 3 := rfl; omega
    refine ⟨_, (pss_cons (ps_while PassesOwn.never ((pw_and (pt_cmpR (op_neD hu64) (pe_ix ix_list (pv 0) pe_int (fun _ _ => rfl)) (pe_lst pa_nil) (nomark _)) (pw_and1 (pt_cmpR op_eq (pe_ix ix_list (pe_ix ix_list (pv 0) pe_int (fun _ _ => rfl)) (pe_un un_neg pe_int) (fun _ _ => rfl)) pe_int (nomark _))))).pt
        (pss_one (ps_expr (pe_bm0 PySem.F.plainAttrs_list PySem.F.slot_list_pop PySem.F.type_list_pop mt_pop (pe_ix ix_list (pv 0) pe_int (fun _ _ => rfl))))))
      (pss_cons (ps_if (pt_cmpR (op_neD hu64) (pe_ix ix_list (pv 0) pe_int (fun _ _ => rfl)) (pe_lst pa_nil) (nomark _))
        (pss_cons (ps_set (i := 2) sc_draw.nd rfl (Or.inl rfl) (pe_bm0 PySem.F.plainAttrs_list PySem.F.slot_list_pop PySem.F.type_list_pop mt_pop (pe_ix ix_list (pv 0) pe_int (fun _ _ => rfl))))
        (pss_cons (ps_expr (pe_bm PySem.F.plainAttrs_list PySem.F.slot_list_append PySem.F.type_list_append mt_append (pe_ix ix_list (pv 0) pe_int (fun _ _ => rfl)) (pa_cons (pe_op op_fdivW (pv 2) (pv 1)) pa_nil)))
        (pss_one (ps_ret (pe_op op_mod (pe_callTy call_int1 (by rfl) T.n_int (by decide +kernel) (pa_cons (pv 2) pa_nil)) (pv 1))))))
        pss_nil)
      (pss_cons (ps_asg (pe_op op_mod (pe_callTy call_int1 (by rfl) T.n_int (by decide +kernel) (pa_cons (pe_op op_mul (pe_ix ix_list (pv 0) pe_int (fun _ _ => rfl)) pe_int) pa_nil)) pe_int) (pg_sub (pv 0) pe_int set_list))
      (pss_one (ps_ret (pe_op op_mod (pe_callTy call_int1 (by rfl) T.n_int (by decide +kernel) (pa_cons (pe_op op_fdivW (pe_ix ix_list (pv 0) pe_int (fun _ _ => rfl)) pe_int) pa_nil)) (pv 1))))))), ?_⟩
    obtain ⟨cells, m, hS⟩ := hD
    refine ⟨fun j σ H1 => σ = [some (.ref a), some (.int n), none] ∧ ∃ cells, DealS H1 a c cells m ∧ j = cells.length ∧ Sm (msk a c H) (msk a c H1), ⟨_, rfl, cells, hS, rfl, Sm.refl _⟩, ?_⟩
    rintro j σ H1 ⟨rfl, cells, hS, rfl, e1⟩
    refine ⟨_, rfl, a, _, 0, _, rfl, rfl, .inl (.inl hS.ha), atI_nat (j := 0) rfl, Nat.zero_le _, fun p hp => ?_⟩
    have hS2 : DealS (upd H1 p (.lst [])) a c cells m := hS.sm (Sm.new hp)
    have e2 : Sm (msk a c H) (msk a c (upd H1 p (.lst []))) := e1.trans (msk_new hp)
    refine ⟨.list (cells.map .int), .list [], .lst (.inl (.inl hS2.hc)) (dpAll_ints _), .lst (.inl (.inl upd_same)) .nil, shaped_ints _, shaped_nil, _, rfl, ?_⟩
    rcases snoc_cases cells with rfl | ⟨l, z, rfl⟩
    · refine ite0 (neq_nil0 rfl) (ite0 rfl ?_)
      -- if deal[0] != []
      refine ⟨_, rfl, a, _, 0, _, rfl, rfl, .inl (.inl hS2.ha), atI_nat (j := 0) rfl, Nat.zero_le _, fun p2 hp2 => ?_⟩
      have hS3 : DealS (upd (upd H1 p (.lst [])) p2 (.lst [])) a c [] m := hS2.sm (Sm.new hp2)
      have e3 : Sm (msk a c H) (msk a c (upd (upd H1 p (.lst [])) p2 (.lst []))) := e2.trans (msk_new hp2)
      refine ⟨.list (([] : List Int).map .int), .list [], .lst (.inl (.inl hS3.hc)) (dpAll_ints _), .lst (.inl (.inl upd_same)) .nil, shaped_ints _, shaped_nil, _, rfl, ?_⟩
      refine ite0 (neq_nil0 rfl) ?_
      -- deal[1] = int(deal[1] * 48271) % 2147483647
      refine ⟨_, rfl, a, _, 1, _, rfl, rfl, .inl (.inl hS3.ha), atI_nat (j := 1) rfl, m, 48271, rfl, rfl, .inr ⟨by decide, by decide⟩, .inl ⟨_, rfl, _, _, rfl, rfl, (show (0 : Int) < 2147483647 by decide), _, rfl, a, _, 1, 1, rfl, rfl, hS3.ha, rfl, ?_⟩⟩
      have m0 : 0 ≤ m * 48271 % 2147483647 := Int.emod_nonneg _ (by decide)
      have m1 : m * 48271 % 2147483647 < 2147483647 := Int.emod_lt_of_pos _ (by decide)
      have hS4 : DealS (upd (upd (upd H1 p (.lst [])) p2 (.lst [])) a (.lst [.ref c, .int (m * 48271 % 2147483647)])) a c [] (m * 48271 % 2147483647) :=
        ⟨upd_same, by rw [upd_ne hS3.ne.symm]; exact hS3.hc, hS3.pos, hS3.len, m0, m1⟩
      -- return int(deal[1] // 8) % many
      refine ⟨_, rfl, a, _, 1, _, rfl, rfl, .inl (.inl hS4.ha), atI_nat (j := 1) rfl, _, 8, rfl, rfl, ⟨by decide, by decide⟩, .inl ⟨_, rfl, _, rfl, _, n, rfl, rfl, n0, ?_⟩⟩
      refine q _ _ (Int.emod_nonneg _ (by omega)) (Int.emod_lt_of_pos _ n0) ⟨_, _, hS4⟩ ?_
      rw [msk_in (.inl rfl)]
      exact e3
    · refine ite1 (neq_nil1 (by simp)) ?_
      -- deal[0][-1] == 0
      have hz : 0 ≤ z := hS2.pos z (by simp)
      have hp' : ∀ x ∈ l, 0 ≤ x := fun x hx => hS2.pos x (by simp [hx])
      have hl' : l.length + 1 ≤ 63 := by have := hS2.len; simpa using this
      have hm : ((l ++ [z]).map V.int) = l.map V.int ++ [V.int z] := by simp
      refine ⟨_, rfl, a, _, 0, _, rfl, rfl, .inl (.inl hS2.ha), atI_nat (j := 0) rfl, 1, rfl, c, _, -1, _, rfl, rfl, .inl (.inl hS2.hc), (by rw [hm]; exact atI_last _ _), rfl, _, rfl, iteB (fun hb => ?_) (fun hb => ?_)⟩
      · -- pop
        refine ⟨fun σ' H' => σ' = [some (.ref a), some (.int n), none] ∧ ∃ cells, DealS H' a c cells m ∧ cells.length = l.length ∧ Sm (msk a c H) (msk a c H'), fun σ' H' hN => ?_, ?_⟩
        · obtain ⟨rfl, cells, h1, h2, h3⟩ := hN
          exact ⟨_, by rw [List.length_append, List.length_singleton]; exact Nat.lt_succ_self _, rfl, cells, h1, h2.symm, h3⟩
        · refine ⟨_, rfl, a, _, 0, _, rfl, rfl, .inl (.inl hS2.ha), atI_nat (j := 0) rfl, .inl ⟨rfl, _, .inl (.inl hS2.hc)⟩, c, _, V.int z, rfl, rfl, hS2.hc, (by rw [hm]; exact last_get _ _), ?_⟩
          refine ⟨rfl, l, ⟨by rw [upd_ne hS2.ne]; exact hS2.ha, by rw [upd_same, hm, List.dropLast_concat], hp', by omega, hS2.m0, hS2.m1⟩, rfl, ?_⟩
          rw [msk_in (.inr rfl)]
          exact e2
      · -- the loop's end, if deal[0] != []
        refine ⟨_, rfl, a, _, 0, _, rfl, rfl, .inl (.inl hS2.ha), atI_nat (j := 0) rfl, Nat.zero_le _, fun p2 hp2 => ?_⟩
        have hS3 : DealS (upd (upd H1 p (.lst [])) p2 (.lst [])) a c (l ++ [z]) m := hS2.sm (Sm.new hp2)
        have e3 : Sm (msk a c H) (msk a c (upd (upd H1 p (.lst [])) p2 (.lst []))) := e2.trans (msk_new hp2)
        refine ⟨.list ((l ++ [z]).map .int), .list [], .lst (.inl (.inl hS3.hc)) (dpAll_ints _), .lst (.inl (.inl upd_same)) .nil, shaped_ints _, shaped_nil, _, rfl, ?_⟩
        refine ite1 (neq_nil1 (by simp)) ?_
        -- left = deal[0].pop()
        refine ⟨_, rfl, a, _, 0, _, rfl, rfl, .inl (.inl hS3.ha), atI_nat (j := 0) rfl, .inl ⟨rfl, _, .inl (.inl hS3.hc)⟩, c, _, V.int z, rfl, rfl, hS3.hc, (by rw [hm]; exact last_get _ _), ?_⟩
        have hS4 : DealS (upd (upd (upd H1 p (.lst [])) p2 (.lst [])) c (.lst ((l ++ [z]).map V.int).dropLast)) a c l m :=
          ⟨by rw [upd_ne hS3.ne]; exact hS3.ha, by rw [upd_same, hm, List.dropLast_concat], hp', by omega, hS3.m0, hS3.m1⟩
        -- deal[0].append(left // many)
        refine ⟨_, rfl, a, _, 0, _, rfl, rfl, .inl (.inl hS4.ha), atI_nat (j := 0) rfl, .inl ⟨rfl, _, .inl (.inl hS4.hc)⟩, _, rfl, _, rfl, z, n, rfl, rfl, ⟨n0, (log_lt n1).resolve_right (by omega)⟩, c, _, _, rfl, rfl, hS4.hc, by rw [List.length_map]; exact small1000 (by omega), ?_⟩
        -- return int(left) % many
        refine ⟨_, rfl, .inl ⟨_, rfl, _, rfl, z, n, rfl, rfl, n0, ?_⟩⟩
        refine q _ _ (Int.emod_nonneg _ (by omega)) (Int.emod_lt_of_pos _ n0) ⟨l ++ [z / n], m, by rw [upd_ne hS4.ne]; exact hS4.ha, by rw [upd_same]; simp, fun x hx => ?_, by rw [List.length_append, List.length_singleton]; omega, hS4.m0, hS4.m1⟩ ?_
        · rcases List.mem_append.mp hx with h | h
          · exact hp' x h
          · rw [List.mem_singleton.mp h]; exact Int.ediv_nonneg hz (by omega)
        · rw [msk_in (.inr rfl), msk_in (.inr rfl)]
          exact e3

/-! deal -/
abbrev s_deal : Stmt := topS 13
abbrev n_deal : List Str := ["_law_script", "_law_base", "_law_cells", "_law_cell", "_law_mixed"]
abbrev p_deal : List Str := ["_law_script", "_law_base"]
theorem sc_deal : FnScope n_deal p_deal (defScope s_deal) := ⟨rfl, rfl, rfl, by decide +kernel, rfl, by decide +kernel, by decide +kernel⟩
def spDeal (K : PySem.W.Frag) : Sp := fun vs H Q _ => ∃ (a : Addr) (ns : List Int) (b : Int), vs = [.ref a, .int b] ∧ SqL K H a (ns.map V.int) ∧ ns.length ≤ 63 ∧
  ∀ d c H', Sm H H' → H d = none → H c = none → DealAt H' d c → Q (.ref d) H'
theorem absnn (x : Int) : 0 ≤ if x < 0 then -x else x := by split <;> omega
theorem cut_map (l : List Int) (lo hi : Option Int) : ∃ r : List Int, cutV (l.map V.int) lo hi = r.map V.int ∧ r.length ≤ l.length := by
  refine ⟨(l.drop (HT.sIx (l.map V.int).length 0 lo)).take (HT.sIx (l.map V.int).length (l.map V.int).length hi - HT.sIx (l.map V.int).length 0 lo), ?_, ?_⟩
  · unfold cutV
    rw [List.map_take, List.map_drop]
  · rw [List.length_take, List.length_drop]
    omega
theorem ok_deal {f : Addr} {fd : FuncData} {k : Nat} (F : Fun K "_law_deal" "_law_deal" s_deal f fd) (T : Bt mg) : FnOk P w K mg base CX0 (k + 1) f fd p_deal (spDeal K) := by
  refine F.ok sc_deal (fun vs H Q E h => ?_) (fun cdv A outer s H vs Q E hr h => ?_)
  · obtain ⟨a, ns, b, rfl, _⟩ := h
    rfl
  · obtain ⟨a, ns, b, rfl, hS, hlen, q⟩ := h
    refine ⟨_, (pss_cons (ps_setLc (i := 2) (own := [("_law_cell", 3)]) (tt := tYes) (by rfl) sc_deal.nd rfl rfl (sw_true rfl rfl rfl (by decide +kernel)) (pi_list (pe_slice sl_list (pv 0) (po_some (pv 1)) (po_some pe_int))) (blkOk_by (N := n_deal) (sc := defScope s_deal) (own := [("_law_cell", 3)]) (by decide +kernel)) (fun _ _ _ _ _ => pg_name (i := 3) sc_deal.nd rfl (Or.inl rfl)) (fun _ _ _ _ _ => pts_nil) (fun _ _ _ _ _ => (pe_callB call_abs (by rfl) T.n_abs (by decide +kernel) (pa_cons (pv 3) pa_nil))))
      (pss_cons (ps_set (i := 4) sc_deal.nd rfl (Or.inl rfl) (pe_op op_add pe_int (pe_op op_mul pe_int (pv 1))))
      (pss_cons (ps_for PassesOwn.never rfl (pi_list (pv 2)) (pg_name (i := 3) sc_deal.nd rfl (Or.inl rfl))
        (pss_one (ps_set (i := 4) sc_deal.nd rfl (Or.inl rfl) (pe_op op_mod (pe_callTy call_int1 (by rfl) T.n_int (by decide +kernel) (pa_cons (pe_op op_add (pe_op op_mul (pv 4) pe_int) (pe_op op_mod (pe_callTy call_int1 (by rfl) T.n_int (by decide +kernel) (pa_cons (pv 3) pa_nil)) pe_int)) pa_nil)) pe_int))))
      (pss_one (ps_ret (pe_lst (pa_cons (pe_revL (pe_lc (own := [("_law_cell", 3)]) (by rfl) sc_deal.nd (pi_list (pv 2)) (blkOk_by (N := n_deal) (sc := defScope s_deal) (own := [("_law_cell", 3)]) (by decide +kernel)) (fun _ _ _ _ _ => pg_name (i := 3) sc_deal.nd rfl (Or.inl rfl)) (fun _ _ _ _ _ => (pts_one (pt_cmpR op_ge (pv 3) (pe_op op_pow pe_int pe_int) (nomark _)))) (fun _ _ _ _ _ => (pv 3)))) (pa_cons (pe_op op_add (pe_op op_mod (pe_callTy call_int1 (by rfl) T.n_int (by decide +kernel) (pa_cons (pv 4) pa_nil)) pe_int) pe_int) pa_nil)))))))), ?_⟩
    obtain ⟨L, eL, lL⟩ := cut_map ns (some b) (some 63)
    refine ⟨_, rfl, _, rfl, b, rfl, 63, rfl, a, _, rfl, hS, fun p hp => ?_⟩
    have eP : cutV (ns.map V.int) (some b) (some 63) = L.map V.int := eL
    rw [eP]
    have sP : Sm H (upd H p (.lst (L.map V.int))) := Sm.new hp
    refine ⟨p, rfl, ⟨_, .inl (.inl upd_same)⟩, fun D hD => ?_⟩
    have hpD : p ≠ D := fun e => by rw [← e, upd_same] at hD; cases hD
    refine lc_list (K := K) (a := p) (xs := L.map V.int) (fun i H' => Sm H H' ∧ H' p = some (.lst (L.map V.int)) ∧ ∃ acc : List Int, H' D = some (.lst (acc.map V.int)) ∧ acc.length = i ∧ ∀ x ∈ acc, 0 ≤ x) ?_ (fun i H' _ h => .inl (.inl h.2.1)) ?_ ?_
    · exact ⟨sP.trans (Sm.new hD), by rw [upd_ne hpD, upd_same], [], upd_same, rfl, fun _ h => nomatch h⟩
    · rintro i x H1 hx ⟨s1, e1, acc, e2, la, pa⟩
      obtain ⟨y, hy, rfl⟩ := List.getElem?_map_some hx
      have hi : i < L.length := (List.getElem?_eq_some_iff.mp hy).1
      refine ⟨rfl, _, rfl, y, rfl, acc.map V.int, e2, ?_, ?_, ?_, ?_⟩
      · rw [List.length_map]; exact small1000 (by omega)
      · exact fun b o h => by
          rw [upd_ne]
          · exact s1 b o h
          · intro e
            subst e
            rw [sP b o h] at hD
            cases hD
      · rw [upd_ne hpD]; exact e1
      · refine ⟨acc ++ [if y < 0 then -y else y], by rw [upd_same, List.map_append]; rfl, by rw [List.length_append, List.length_singleton, la], fun x hx => ?_⟩
        rcases List.mem_append.mp hx with h | h
        · exact pa x h
        · rw [List.mem_singleton.mp h]; exact absnn y
    · rintro H1 ⟨s1, e1, cs, e2, la, pa⟩
      rw [List.length_map] at la
      -- mixed
      refine ⟨_, rfl, 17, b, rfl, rfl, .inl ⟨by decide, by decide⟩, _, _, rfl, rfl, ?_⟩
      refine ⟨_, rfl, D, rfl, ⟨_, .inl (.inl e2)⟩, for_list (K := K) (a := D) (xs := cs.map V.int) (fun i σ H' => H' = H1 ∧ ∃ v m, σ = [some (.ref a), some (.int b), some (.ref D), v, some (.int m)]) ⟨rfl, none, _, rfl⟩ (fun i σ H' _ h => by rw [h.1]; exact .inl (.inl e2)) ?_ ?_⟩
      · rintro i x σ H' hx ⟨rfl, v, m, rfl⟩
        obtain ⟨y, hy, rfl⟩ := List.getElem?_map_some hx
        refine ⟨_, rfl, m, 16807, rfl, rfl, .inr ⟨by decide, by decide⟩, _, rfl, .inl ⟨y, rfl, y, 2147483629, rfl, rfl, (show (0 : Int) < 2147483629 by decide), _, _, rfl, rfl, .inl ⟨_, rfl, _, 2147483647, rfl, rfl, (show (0 : Int) < 2147483647 by decide), rfl, _, _, rfl⟩⟩⟩
      · rintro σ H' ⟨rfl, v, m, rfl⟩
        -- the list of the great cells, turned
        refine ⟨_, rfl, D, rfl, ⟨_, .inl (.inl e2)⟩, fun D2 hD2 => ?_⟩
        have hD2D : D ≠ D2 := fun e => by rw [← e, e2] at hD2; cases hD2
        refine lc_list (K := K) (a := D) (xs := cs.map V.int) (fun i H2 => Sm H H2 ∧ H2 D = some (.lst (cs.map V.int)) ∧ ∃ acc : List Int, H2 D2 = some (.lst (acc.map V.int)) ∧ acc.length ≤ i ∧ ∀ x ∈ acc, 0 ≤ x) ?_ (fun i H' _ h => .inl (.inl h.2.1)) ?_ ?_
        · exact ⟨s1.trans (Sm.new hD2), by rw [upd_ne hD2D]; exact e2, [], upd_same, Nat.le_refl _, fun _ h => nomatch h⟩
        · rintro i x H2 hx ⟨s2, e3, acc, e4, la2, pa2⟩
          obtain ⟨y, hy, rfl⟩ := List.getElem?_map_some hx
          have hi : i < cs.length := (List.getElem?_eq_some_iff.mp hy).1
          have hy0 : 0 ≤ y := pa y (List.mem_of_getElem? hy)
          refine ⟨rfl, _, rfl, 10, 18, rfl, rfl, ⟨by decide, by decide, by decide⟩, _, _, rfl, rfl, _, rfl, iteB (fun hb => ?_) (fun hb => ?_)⟩
          · refine ⟨_, rfl, acc.map V.int, e4, ?_, ?_, ?_, ?_⟩
            · rw [List.length_map]; exact small1000 (by omega)
            · exact fun b o h => by
                rw [upd_ne]
                · exact s2 b o h
                · intro e
                  subst e
                  rw [s1 b o h] at hD2
                  cases hD2
            · rw [upd_ne hD2D]; exact e3
            · refine ⟨acc ++ [y], by rw [upd_same, List.map_append]; rfl, by rw [List.length_append, List.length_singleton]; omega, fun x hx => ?_⟩
              rcases List.mem_append.mp hx with h | h
              · exact pa2 x h
              · rw [List.mem_singleton.mp h]; exact hy0
          · exact ⟨s2, e3, acc, e4, by omega, pa2⟩
        · rintro H2 ⟨s2, e3, acc, e4, la2, pa2⟩
          rw [List.length_map] at la2
          refine ⟨D2, _, rfl, .inl (.inl e4), fun R hR => ?_⟩
          refine ⟨_, rfl, .inl ⟨m, rfl, m, 2147483646, rfl, rfl, (show (0 : Int) < 2147483646 by decide), _, _, rfl, rfl, (show 2 ≤ sizeLine by decide), fun d hd => ?_⟩⟩
          have m0 : 0 ≤ m % 2147483646 := Int.emod_nonneg _ (by decide)
          have m1 : m % 2147483646 < 2147483646 := Int.emod_lt_of_pos _ (by decide)
          have sR : Sm H2 (upd H2 R (.lst (acc.map V.int).reverse)) := Sm.new hR
          have hRd : R ≠ d := fun e => by rw [← e, upd_same] at hd; cases hd
          refine q d R _ ((s2.trans sR).trans (Sm.new hd)) ((s2.trans sR).free hd) (s2.free hR) ⟨acc.reverse, m % 2147483646 + 1, ⟨upd_same, ?_, fun x hx => pa2 x (List.mem_reverse.mp hx), by rw [List.length_reverse]; omega, by omega, by omega⟩⟩
          rw [upd_ne hRd, upd_same, List.map_reverse]
/-! pick -/
abbrev s_pick : Stmt := topS 15
theorem sc_pick : FnScope ["_law_deal_here", "_law_some"] ["_law_deal_here", "_law_some"] (defScope s_pick) := ⟨rfl, rfl, rfl, by decide +kernel, rfl, by decide +kernel, by decide +kernel⟩
def spPick (K : PySem.W.Frag) : Sp := fun vs H Q _ => ∃ (a c l : Addr) (xs : List V), vs = [.ref a, .ref l] ∧ DealAt H a c ∧ SqL K (msk a c H) l xs ∧ 0 < xs.length ∧ xs.length ≤ 1000 ∧
  ∀ (j : Nat) v H', xs[j]? = some v → DealAt H' a c → Sm (msk a c H) (msk a c H') → Q v H'
theorem ok_pick {f : Addr} {fd : FuncData} {k : Nat} (F : Fun K "_law_pick" "_law_pick" s_pick f fd) (T : Bt mg) (C : Cal P w K mg base (k + 1) "_law_draw" spDraw []) : FnOk P w K mg base CX0 (k + 2) f fd ["_law_deal_here", "_law_some"] (spPick K) := by
  refine F.ok sc_pick (fun vs H Q E h => ?_) (fun cdv A outer s H vs Q E hr h => ?_)
  · obtain ⟨a, c, l, xs, rfl, _⟩ := h
    rfl
  · obtain ⟨a, c, l, xs, rfl, hD, hS, h0, h1, q⟩ := h
    refine ⟨_, (pss_one (ps_ret (pe_ix ix_list (pv 1) (pe_c C hr (Nat.le_refl _) (by rfl) (pa_cons (pv 0) (pa_cons (pe_callB call_len_seq (by rfl) T.n_len (by decide +kernel) (pa_cons (pv 1) pa_nil)) pa_nil))) (fun _ _ => rfl)))), ?_⟩
    refine ⟨_, rfl, _, rfl, _, rfl, l, xs, rfl, .inl (msk_le.seq hS), a, c, (xs.length : Int), rfl, hD, by omega, by omega, fun r H' r0 r1 hD' e' => ?_⟩
    have hS' : SqL K H' l xs := (e'.trans msk_le).seq hS
    have hj : r.toNat < xs.length := by omega
    refine ⟨l, xs, r, xs[r.toNat], rfl, rfl, hS', at_of (j := r.toNat) (by omega) (List.getElem?_eq_getElem hj), ?_⟩
    exact q r.toNat _ H' (List.getElem?_eq_getElem hj) hD' e'
end
end Z
set_option Elab.async false
set_option linter.all false
set_option maxRecDepth 100000
set_option maxHeartbeats 4000000
set_option autoImplicit false
/-! Errors of own classes as plain values: made by place or by name, their field read, isinstance. -/
namespace PySem
namespace ZX
open PySem.W PySem.Calls PyProof.Rows PySem.HandSPX Builtin Builtin.ObjectAttr
/-- what is asked of the bases of a class that a maker of B's makes -/
structure Chain (B : String) (bm : List Value) : Prop where
  hB : bm.contains (.type B) = true
  hA : bm.contains (.type "AttributeError") = false
  hN : bm.contains (.type "NameError") = false
  hO : bm.contains (.type "object") = true
  hS : ∀ self, refuseLoop self "__setattr__" bm = pure ()
section
variable {M : Model} {A : Around} {E : Value → Shared → Prop} {h : Heap} {g : Array GenState} {d : Drawn} {t : Nat} {os : OsState}
variable {nm q : Str} {C N : Addr} {bs bm bmB : List Value} {hdct : Bool} {sn : List Str} {sub : List Value} {ab : Bool} {col : Option Bool} {dd : Option Addr} {k0 k1 k2 k3 k5 : Option Value} {B newId initId : String}
theorem z_checkNew (F : ExcBaseFacts B newId initId bmB) (hT : Chain B bm) {rest : List Value} {kw : List (Str × Value)} {Q : Unit → Shared → Prop}
    (hC : h.get? C = some (excClassObj nm q C N bs bm hdct sn sub ab col dd k0 k1 k2 k3 k5 newId))
    (hq : Q () ⟨h, g, d, t, os⟩) : wpAny M A (checkBuiltinCall newId ⟨.ref C :: rest, kw⟩) Q E ⟨h, g, d, t, os⟩ := by
  have zc : (Value.ref C :: bm).contains (.type B) = true := by
    rw [List.contains_cons, hT.hB, Bool.or_true]
  have zs := F.noStar
  simp only [checkBuiltinCall, F.newKind, F.newSplit, F.newRow]
  repeat (first
    | refine wpAny_loadPart_at hC ?_
    | (refine wpAny_isSubtype_exc hC ?_; rw [zc])
    | refine wpAny_staticBase_exc hC ?_
    | refine wpAny_madeBy_exc hC ?_
    | simp only [bne_self_eq_false, Bool.false_eq_true, if_false]
    | wp_step)
  exact hq
end
section
variable {prog : Program} {w : World} {A : Around} {E : Value → Shared → Prop} {R : Result → Shared → Prop} {h : Heap} {g : Array GenState} {d : Drawn} {t : Nat} {os : OsState}
variable {nm q : Str} {C N : Addr} {bs bm bmB : List Value} {hdct : Bool} {sn : List Str} {sub : List Value} {ab : Bool} {col : Option Bool} {dd : Option Addr} {k0 k1 k2 k3 k5 : Option Value} {B newId initId : String}
theorem z_new (F : ExcBaseFacts B newId initId bmB) (hT : Chain B bm) {rest : List Value} {kw : List (Str × Value)}
    (hC : h.get? C = some (excClassObj nm q C N bs bm hdct sn sub ab col dd k0 k1 k2 k3 k5 newId))
    (hq : R (.ok (.ret (.ref (h.objs.size + 1))))
      ⟨(h.push { cls := .type "tuple", data := .seq rest.toArray }).push (excO C h.objs.size), g, d, t, os⟩)
    (hrest : rest.length ≤ sizeLine) :
    codeAny (model prog w) A (.builtin newId ⟨.ref C :: rest, kw⟩) R ⟨h, g, d, t, os⟩ := by
  have z0 := F.ends
  have z1 : (Value.ref C :: bm).contains (.type B) = true := by
    rw [List.contains_cons, hT.hB, Bool.or_true]
  have z2 : (Value.ref C :: bm).contains (.type "AttributeError") = false := by
    rw [List.contains_cons, hT.hA]; rfl
  have z3 : (Value.ref C :: bm).contains (.type "NameError") = false := by
    rw [List.contains_cons, hT.hN]; rfl
  refine codeAny_builtinAt F.entry ?_
  unfold Builtin.«BaseException.__new__»
  refine wpAt_bind ?_
  show wpAt _ _ _ (stack >>= _) _ _ _
  refine wpAt_bind (wpAt_stack fun p below => wpAt_of_wpAny ?_)
  wp_walk
  refine wpAt_of_wpAny ?_
  rw [F.owner]
  repeat (first
    | with_reducible refine wpAny_madeHere_exc F.canon hC ?_
    | with_reducible refine wpAny_loadPart_at hC ?_
    | (with_reducible refine wpAny_isSubtype_exc hC ?_; first | rw [z1] | rw [z2] | rw [z3])
    | wp_step)
  show R _ _
  rw [Heap.size_push]
  exact hq
theorem z_typeCall (F : ExcBaseFacts B newId initId bmB) (hT : Chain B bm) {rest : List Value} {kw : List (Str × Value)} {fI : Addr} {Q : Fin → Shared → Prop}
    (hC : h.get? C = some (excClassObj nm q C N bs bm hdct sn sub ab col dd k0 k1 k2 k3 k5 newId))
    (hi : W.Looks (model prog w) h (typeLookup (.ref C) "__init__") (some (.ref fI)))
    (hb : ∀ self, W.Looks (model prog w) h (bindSpecial (.ref fI) self) (.ref fI, [self])) (hrest : rest.length ≤ sizeLine)
    (hq : codeAny (model prog w) A (.call (.ref fI) ⟨.ref (h.objs.size + 1) :: rest, kw⟩)
      (fun r s' => match r with | .ok (.ret v) => v = .none ∧ Q (.done (.ret (.ref (h.objs.size + 1)))) s' | .ok _ => False | .error e => E e s')
      ⟨(h.push (W.kdv_tup rest)).push (excO C h.objs.size), g, d, t, os⟩) :
    wpAny (model prog w) A (Builtin.«type.__call__» ⟨.ref C :: rest, kw⟩) Q E ⟨h, g, d, t, os⟩ := by
  repeat (first
    | with_reducible refine wpAny_loadPart_at hC ?_
    | with_reducible refine wpAny_madeBy_exc hC ?_
    | wp_step)
  refine codeAny_call_builtin_code (Code.quiet_builtin _ F.quiet) (z_checkNew F hT hC ?_)
  refine z_new F hT hC ?_ hrest
  show wpAny _ _ _ _ _ _
  have kk : ∀ b o, h.get? b = some o → ((h.push (W.kdv_tup rest)).push (excO C h.objs.size)).get? b = some o :=
    fun b o e => Heap.get?_push_of_some _ (Heap.get?_push_of_some _ e)
  have c1 := kk _ _ hC
  have c2 : ((h.push (W.kdv_tup rest)).push (excO C h.objs.size)).get? (h.objs.size + 1) = some (excO C h.objs.size) := by
    heap_get
  have c3 : (Value.ref C :: bm).contains (.ref C) = true := by simp
  have i1 := hi.keeps kk
  have b1 := (hb (.ref (h.objs.size + 1))).keeps kk
  unfold isInstance
  repeat (first
    | with_reducible refine wpAny_loadPart_at c2 ?_
    | (with_reducible refine wpAny_isSubtype_exc c1 ?_; rw [c3])
    | wp_step)
  show wpAny _ _ (typeLookup (.ref C) _) _ _ _
  refine i1.at ?_
  refine wpAny_holding (wpAny_bind (b1.at ?_))
  refine wpAny_bind (wpAny_call (codeAny_mono hq fun r s' z => ?_))
  rcases r with e | (v | _ | _ | _) <;> first | exact z | exact z.elim | skip
  obtain ⟨rfl, z⟩ := z
  first
    | exact wpAny_pure (wpAny_pure z)
    | (wp_walk; exact z)
theorem z_call (F : ExcBaseFacts B newId initId bmB) (hT : Chain B bm) {rest : List Value} {kw : List (Str × Value)} {fI : Addr}
    (hC : h.get? C = some (excClassObj nm q C N bs bm hdct sn sub ab col dd k0 k1 k2 k3 k5 newId))
    (hi : W.Looks (model prog w) h (typeLookup (.ref C) "__init__") (some (.ref fI)))
    (hb : ∀ self, W.Looks (model prog w) h (bindSpecial (.ref fI) self) (.ref fI, [self])) (hrest : rest.length ≤ sizeLine)
    (hq : codeAny (model prog w) (A.under (.builtin "type.__call__" ⟨.ref C :: rest, kw⟩))
      (.call (.ref fI) ⟨.ref (h.objs.size + 1) :: rest, kw⟩) (W.InitBack (h.objs.size + 1) R)
      ⟨(h.push (W.kdv_tup rest)).push (excO C h.objs.size), g, d, t, os⟩) :
    codeAny (model prog w) A (.call (.ref C) ⟨rest, kw⟩) R ⟨h, g, d, t, os⟩ := by
  have f1 := tc_lookup
  have f2 := tc_bind (.ref C)
  have ty : (⟨h, g, d, t, os⟩ : Shared).TypeIs (.ref C) "type" := ⟨_, hC, rfl⟩
  refine codeAny_of_tree ?_
  show wpAny _ _ (callAny (.ref C) _) _ _ _
  repeat (any_goals (first
    | assumption
    | with_reducible refine wpAny_loadPart_at hC ?_
    | wp_step))
  refine ⟨rfl, ?_⟩
  refine codeAny_call_builtin_at (Code.quiet_builtin _ (by decide +kernel)) entry_typeCall
    (wpAny_check_type_call_sub hC (z_typeCall F hT hC hi hb hrest ?_))
  refine codeAny_mono hq fun r s' z => ?_
  rcases r with e | (v | _ | _ | _) <;> exact z
end
section
variable {prog : Program} {w : World} {A : Around} {E : Value → Shared → Prop} {R : Result → Shared → Prop} {hp : Heap} {g : Array GenState} {d : Drawn} {t : Nat} {os : OsState}
theorem z_osa {K : W.Frag} {name : Str} {tk : Tok} {v : Value} {x C : Addr} {fv : Array Value} {cd : ClassData}
    (X : K.In hp) (hx : hp.get? x = some { cls := .ref C, data := .fields fv }) (hcd : W.clsIn K C = some cd)
    (ne : cd.mro.isEmpty = false) (hob : cd.mro.contains (.type "object") = true)
    (hpass : ∀ self, refuseLoop self "__setattr__" cd.mro = pure ()) (hh : cd.hasDict = true)
    (ha : W.findIn K (.ref C) name = some none)
    (hq : ∀ h' tk' dx, (∀ b o, b ≠ x → hp.get? b = some o → h'.get? b = some o) → hp.objs.size ≤ dx → dx ≠ x →
      h'.get? x = some { cls := .ref C, dict := some dx, data := .fields fv } →
      h'.Ns1 dx (fun y => if y = name then some v else none) → R (.ok (.ret .none)) ⟨h', g, d, tk', os⟩) :
    codeAny (model prog w) A (.call (.builtin "object.__setattr__") ⟨[.ref x, .str name tk, v], []⟩) R ⟨hp, g, d, t, os⟩ := by
  have I : W.InstAt hp x { cls := .ref C, data := .fields fv } C none := ⟨hx, rfl, rfl, trivial⟩
  have SF := F.store_object
  have xs : x ≠ hp.objs.size := Nat.ne_of_lt (Heap.lt_size hx)
  have sub : W.Looks (model prog w) hp (isInstance (.ref x) (.type "object")) true :=
    I.type.andThen (W.looks_mroIn X (by unfold W.mroIn; rw [hcd, Option.bind_some, if_neg (by rw [ne]; decide), hob]))
  refine codeAny_call_builtin SF.slot.plain SF.entry (@W.check_slot (model prog w) _ _ ⟨hp, g, d, t, os⟩ "object.__setattr__" "object"
    "__setattr__" (.ref x) [.str name tk, v] [] _ SF.kind SF.split sub (SF.args (.ref x) (.str name tk) v) ?_)
  have m1 : W.Looks (model prog w) hp (mroOf (.ref C)) cd.mro := (W.looks_clsIn X hcd).andThen .now
  have m3 : W.Looks (model prog w) hp (storeTaker? none) none := .now
  have m4 : W.Looks (model prog w) hp (classData C) cd := W.looks_clsIn X hcd
  rw [W.osa_eq, refuse_eq]
  refine wpAny_bind (wpAny_bind (I.type.at (wpAny_bind (m1.at ?_))))
  rw [hpass]
  refine wpAny_pure (wpAny_bind (I.type.at (wpAny_bind ((W.looks_findIn X ha).at (wpAny_bind (m3.at ?_))))))
  show wpAny _ _ (storeInOwnDict (.ref x) (.ref C) (.str name tk) name v false) _ _ _
  obtain ⟨nm, bs, mro, ns, qn, hd, sn, sb, ab, col, del⟩ := cd
  dsimp only at hh
  subst hh
  unfold storeInOwnDict ownDictForStores
  repeat (first
    | with_reducible refine store_in_new ?_ ?_
    | with_reducible refine wpAny_loadPart_at hx ?_
    | with_reducible refine m4.at ?_
    | wp_step)
  · exact ⟨_, #[], _, (Heap.get?_update_ne _ _ _ _ xs.symm).trans (Heap.get?_push_at rfl rfl), rfl,
      fun e he => absurd he (by simp), fun _ => rfl⟩
  · intro h' tk' hn' hs
    have hx1 : (hp.push { cls := .type "dict", data := .dict #[] }).get? x = some { cls := .ref C, data := .fields fv } :=
      Heap.get?_push_of_some _ hx
    refine hq h' tk' hp.objs.size (fun b o hb ho => ?_) (Nat.le_refl _) xs.symm ?_ hn'
    · exact (hs.2 b (Nat.ne_of_lt (Heap.lt_size ho))).trans
        ((Heap.get?_update_ne _ _ _ _ hb).trans (Heap.get?_push_of_some _ ho))
    · exact (hs.2 x xs).trans (Heap.get?_update_self _ hx1 rfl)
end
end ZX
end PySem

namespace L2
open PySem PySem.Spec PyProof.Rows
/-- the own error class at C, as the written part tells it -/
structure ErrC (K : PySem.W.Frag) (C : Addr) : Prop where
  cls : ∃ (B newId initId : String) (bmB : List Value) (nm q : Str) (N : Addr) (bs bm : List Value) (sn : List Str) (sub : List Value) (ab : Bool)
    (col : Option Bool) (dd : Option Addr) (k0 k1 k2 k3 k5 : Option Value), ExcBaseFacts B newId initId bmB ∧ PySem.ZX.Chain B bm ∧
    K.lookup C = some (excClassObj nm q C N bs bm true sn sub ab col dd k0 k1 k2 k3 k5 newId)
  sa : PySem.W.findIn K (.ref C) "__setattr__" = some (some (.builtin "object.__setattr__"))
  ga : PySem.W.findIn K (.ref C) "__getattribute__" = some (some (.builtin "BaseException.__getattribute__"))
  gg : PySem.W.findIn K (.ref C) "__getattr__" = some none
  exC : PySem.W.subIn K (.ref C) (.type "BaseException") = some true
  kC : PySem.W.keepIn K (.ref C) = true
  hdC : PySem.W.hasDictIn K C = true
section
variable {X : Cx} {pins : List (Addr × Obj)} {σ : St} {H : Hp} {s : Shared} {a C dx : Addr} {f : Str} {y : V} {u : Value} {Q : Unit → Shared → Prop} {E : Value → Shared → Prop} {A : Around}
theorem err_store (T : ErrC X.K C) (I : Inv X pins σ H s) (e : H a = some (exo a C none)) (hno : PySem.W.findIn X.K (.ref C) f = some none) (ry : RelV y u)
    (h : ∀ dx s', H dx = none → dx ≠ a → Inv X pins σ (upd (upd H dx (exd dx [(f, y)])) a (exo a C (some dx))) s' → Q () s') :
    wpAny (model X.prog X.w) A (setAttr (.ref a) f u) Q E s := by
  obtain ⟨B, newId, initId, bmB, nm, q, N, bs, bm, sn, sub, ab, col, dd, k0, k1, k2, k3, k5, F, hT, hC⟩ := T.cls
  have hcl : PySem.W.clsIn X.K C = some { name := nm, bases := bs, mro := .ref C :: bm, ns := N, qualname := q, hasDict := true, slotNames := sn, subclasses := sub, abstract := ab, collection := col, hasDel := false } := by
    unfold PySem.W.clsIn
    rw [hC] <;> rfl
  obtain ⟨t1, ho⟩ := exo_at I.hok e
  obtain ⟨hp, g, d, t, os⟩ := s
  refine PySem.W.set_plain I.kIn (od := none)
    (ox := { cls := .ref C, dict := none, data := .fields #[.ref t1, .none, .none, .none, .bool false, .none] }) ⟨ho, rfl, rfl, trivial⟩ T.sa ?_
  refine PySem.ZX.z_osa I.kIn ho hcl rfl (by show (Value.ref C :: bm).contains (.type "object") = true; rw [List.contains_cons, hT.hO, Bool.or_true])
    (fun self => by show refuseLoop self "__setattr__" (.ref C :: bm) = pure (); rw [refuseLoop_ref]; exact hT.hS self) rfl hno (fun h' tk' dx k dn dne hx hn => ?_)
  have hnd : H dx = none := I.hok.fresh dn
  have nd : ∀ {b : Addr} {o : Obj}, hp.get? b = some o → b ≠ dx := fun {b o} q => Nat.ne_of_lt (Nat.lt_of_lt_of_le (Heap.lt_size q) dn)
  have na : ∀ {b : Addr}, H b = none → b ≠ a := fun {b} n z => by
    rw [z, e] at n
    cases n
  have U : Un X.fs [] H (upd (upd H dx (exd dx [(f, y)])) a (exo a C (some dx))) hp h' :=
    { keep := fun b o q n _ _ => k b o (na n) q
      slot := fun b o q n _ _ => ⟨o.slots, k b o (na n) q⟩
      free := fun b o q n _ => by
        rw [upd_ne (na n), upd_ne (nd q)]
        exact n
      there := fun b o q _ => by
        by_cases hb : b = a
        · exact ⟨_, by rw [hb]; exact hx⟩
        · exact ⟨o, k b o hb q⟩
      tups := fun b xs q => by
        rw [upd_ne (at_ne e q exo_tup), upd_ne (ne_of_none q hnd)]
        exact q
      frzs := fun b o v q => by
        rw [upd_ne (at_ne e q exo_frz), upd_ne (ne_of_none q hnd)]
        exact q
      tbls := fun b ps q => ⟨#[], by
        rw [upd_ne (at_ne e q exo_tbl), upd_ne (ne_of_none q hnd), q]
        simp⟩ }
  refine h dx _ hnd dne (I.un (t' := tk') U fun b o q => ?_)
  by_cases hb : b = a
  · subst hb
    rw [upd_same] at q
    cases q
    exact exo_ok hx
  · rw [upd_ne hb] at q
    by_cases hd : b = dx
    · subst hd
      rw [upd_same] at q
      cases q
      exact exd_ok hn (relO_put (fs := []) ry fun g => True.intro)
    · rw [upd_ne hd] at q
      exact (I.hok b o q).stay
        (fun c v hc z => k c v (by
          rcases hc with hc | hc
          · rw [hc]
            exact hb
          · exact at_ne e hc exo_own) z)
        (fun c hc => by
          rw [upd_ne (at_ne e hc exo_own), upd_ne (ne_of_none hc hnd)]
          exact hc)
        (fun c xs hc => by
          rw [upd_ne (at_ne e hc exo_tup), upd_ne (ne_of_none hc hnd)]
          exact hc)
end
/-- self.f = e, the first field -/
def tErrSet (K : PySem.W.Frag) (f : Str) (to te : TE) : TS := fun D σ H => te σ H fun y H1 => to σ H1 fun x H2 =>
  ∃ a C : Addr, x = .ref a ∧ ErrC K C ∧ PySem.W.findIn K (.ref C) f = some none ∧ H2 a = some (exo a C none) ∧
    ∀ dx, H2 dx = none → dx ≠ a → D.nx σ (upd (upd H2 dx (exd dx [(f, y)])) a (exo a C (some dx)))
section
variable {X : Cx} {o e : Expr} {es : List Expr} {to te : TE} {ta : TA} {f : Str} {p p' p1 p2 pos : Pos}
theorem ps_errSet (ho : PE X o to) (he : PE X e te) (hs : swapsWith e (some (.Attribute o f p')) pos.line X.env = pure false := by rfl) :
    PS X (.Assign [.Attribute o f p'] e pos) (tErrSet X.K f to te) := by
  refine ⟨fun pins s σ H D I h => ?_⟩
  refine plainObj_wpAny_Assign_Attribute (thn (he.run pins s σ H _ I h) fun v s1 ⟨y, H1, I1, r1, q1⟩ =>
    thn (ho.run pins s1 σ H1 _ I1 q1) fun u s2 ⟨x, H2, I2, r2, a, C, ex, T, hno, ea, q⟩ => ?_) hs
  subst ex
  obtain rfl : u = Value.ref a := r2
  exact err_store T I2 ea hno r1 fun dx s' n ne J => ⟨σ, _, J, q dx n ne⟩
end
/-- what a made error leaves -/
def spErrInit (C : Addr) (f : Str) : Sp := fun vs H Q _ => ∃ (a : Addr) (v : V), vs = [.ref a, v] ∧ H a = some (exo a C none) ∧
  ∀ dx, H dx = none → dx ≠ a → Q .non (upd (upd H dx (exd dx [(f, v)])) a (exo a C (some dx)))

/-- the error class named x, made of one thing that it keeps as f -/
structure ErrM (P : Program) (w : World) (K : PySem.W.Frag) (mg : Str → Option Value) (base : Heap) (x f : Str) (C : Addr) : Prop where
  T : ErrC K C
  gC : mg x = some (.ref C)
  nf : PySem.W.findIn K (.ref C) f = some none
  ini : ∃ (fI : Addr) (fd : FuncData), PySem.W.findIn K (.ref C) "__init__" = some (some (.ref fI)) ∧ PySem.W.typeIn K (.ref fI) = some (.type "function") ∧
    FnOk P w K mg base CX0 1 fI fd ["self", f] (spErrInit C f) ∧ Binds K fd ["self", f] [] ∧
    ∀ (s : Shared) (u v : Value), BindsTo s fd ⟨[u], [(f, v)]⟩ [("self", u), (f, v)]
section
variable {X : Cx} {x f : Str} {C : Addr}
theorem upd_three {H : Hp} {a b : Addr} {o p q : HO} (d : b ≠ a) : upd (upd (upd H a o) b p) a q = upd (upd H b p) a q := by
  funext c
  by_cases h : c = a
  · rw [h, upd_same, upd_same]
  · rw [upd_ne h, upd_ne h]
    by_cases h2 : c = b
    · rw [h2, upd_same, upd_same]
    · rw [upd_ne h2, upd_ne h2, upd_ne h]
theorem run_err {pins : List (Addr × Obj)} {σ : St} {H : Hp} {s : Shared} {Q : VK} {v : V} {u : Value} {us : List Value} {kw : List (Str × Value)}
    (M : ErrM X.prog X.w X.K X.mg X.base x f C) (hr : Room 2 X.A) (I : Inv X pins σ H s) (r : RelV v u)
    (ha : (us = [u] ∧ kw = []) ∨ (us = [] ∧ kw = [(f, u)]))
    (h : ∀ a dx, H a = none → H dx = none → dx ≠ a → Q (.ref a) (upd (upd H dx (exd dx [(f, v)])) a (exo a C (some dx)))) :
    wpAny (model X.prog X.w) X.A (call (.ref C) us kw) (EP X pins σ Q) X.xe s := by
  obtain ⟨B, newId, initId, bmB, nm, q, N, bs, bm, sn, sub, ab, col, dd, k0, k1, k2, k3, k5, F, hT, hC⟩ := M.T.cls
  obtain ⟨fI, fd, i1, i2, FI, b1, b2⟩ := M.ini
  obtain ⟨hp, g, dr, tk, os⟩ := s
  have hsz : hp.objs.size ≤ hp.objs.size + 1 := Nat.le_succ _
  have hn : H (hp.objs.size + 1) = none := I.hok.fresh hsz
  have kk : ∀ b o, hp.get? b = some o → ((hp.push (PySem.W.kdv_tup us)).push (PySem.HandSPX.excO C hp.objs.size)).get? b = some o :=
    fun b o e => Heap.get?_push_of_some _ (Heap.get?_push_of_some _ e)
  have hget : ((hp.push (PySem.W.kdv_tup us)).push (PySem.HandSPX.excO C hp.objs.size)).get? (hp.objs.size + 1) = some (PySem.HandSPX.excO C hp.objs.size) := by
    heap_get
  have I2 : Inv X pins σ (upd H (hp.objs.size + 1) (exo (hp.objs.size + 1) C none))
      ⟨(hp.push (PySem.W.kdv_tup us)).push (PySem.HandSPX.excO C hp.objs.size), g, dr, tk, os⟩ :=
    I.laid (t' := tk) (a := hp.objs.size + 1) (o := exo (hp.objs.size + 1) C none) kk hsz (exo_ok hget)
  have r2 : Vals [V.ref (hp.objs.size + 1), v] [Value.ref (hp.objs.size + 1), u] := .cons rfl (.cons r .nil)
  have hb : BindsTo (⟨(hp.push (PySem.W.kdv_tup us)).push (PySem.HandSPX.excO C hp.objs.size), g, dr, tk, os⟩ : Shared) fd
      ⟨Value.ref (hp.objs.size + 1) :: us, kw⟩ ((["self", f] : List Str).zip [Value.ref (hp.objs.size + 1), u]) := by
    rcases ha with ⟨rfl, rfl⟩ | ⟨rfl, rfl⟩
    · exact b1 _ [Value.ref (hp.objs.size + 1), u] I2.kIn rfl
    · exact b2 _ _ _
  have hus : us.length ≤ sizeLine := by
    rw [sizeLine_eq]
    rcases ha with ⟨rfl, rfl⟩ | ⟨rfl, rfl⟩
    · exact (by decide : (1 : Nat) ≤ 16777216)
    · exact Nat.zero_le _
  have hq : spErrInit C f [V.ref (hp.objs.size + 1), v] (upd H (hp.objs.size + 1) (exo (hp.objs.size + 1) C none))
      (fun z H2 => z = .non ∧ Q (.ref (hp.objs.size + 1)) H2) (fun _ _ _ => False) := by
    refine ⟨_, v, rfl, upd_same, fun dx hd ne => ⟨rfl, ?_⟩⟩
    rw [upd_three ne]
    rw [upd_ne ne] at hd
    exact h _ dx hn hd ne
  have go := FI.run (X.A.under (.builtin "type.__call__" ⟨.ref C :: us, kw⟩)) X.stack _ _ ⟨Value.ref (hp.objs.size + 1) :: us, kw⟩ [Value.ref (hp.objs.size + 1), u] _ _ (fun _ _ _ => False)
    (hr.make C us kw) (I2.env0.make C us kw) hb r2 hq
  refine wpAny_call (PySem.ZX.z_call F hT (I.kIn _ _ hC) (PySem.W.looks_findIn I.kIn i1) (fun self => PySem.W.bind_fn I.kIn self i2) hus
    (codeAny_mono go fun r s' hq' => ?_))
  cases r with
  | error er => exact False.elim hq'
  | ok fl =>
    cases fl with
    | ret w' =>
      obtain ⟨z, H', I3, rv, ev, q3⟩ := I2.after hq'
      subst ev
      exact ⟨rv, ⟨V.ref (hp.objs.size + 1), H', I3, rfl, q3⟩⟩
    | next => exact False.elim hq'
    | brk => exact False.elim hq'
    | cont => exact False.elim hq'
def ErrQ (C : Addr) (f : Str) (Q : VK) (v : V) (H1 : Hp) : Prop :=
  ∀ a dx, H1 a = none → H1 dx = none → dx ≠ a → Q (.ref a) (upd (upd H1 dx (exd dx [(f, v)])) a (exo a C (some dx)))
def tErr (C : Addr) (f : Str) (te : TE) : TE := fun σ H Q => te σ H fun v H1 => ErrQ C f Q v H1
/-- x(e) -/
theorem pe_err1 {e : Expr} {te : TE} {p pos : Pos} (M : ErrM X.prog X.w X.K X.mg X.base x f C) (hr : Room 2 X.A) (hg : Gl X x) (he : PE X e te)
    (hdb : (x == ("__debug__" : Str)) = false := by decide) (hs : starEach (e :: []) X.env = (false, eval e X.env) :: starEach [] X.env := by rfl)
    (hpl : (backTo pos (starEach [] X.env)).any (·.1) = false := by rfl) : PE X (.Call (.Name x p) [e] [] pos) (tErr C f te) := by
  refine ⟨fun pins s σ H Q I h => ?_⟩
  refine wpAny_Call_Name_kw (ld_glob I hg M.gC ?_ hdb)
  have ha : PA X [e] (tCons te tNil) := pa_cons he pa_nil hs
  refine PySem.W.callWith_K (h₀ := X.base) I.ok.mod.kin M.T.kC
    (thn (ha.run pos pins s σ H (fun vs H1 => match vs with | [v] => ErrQ C f Q v H1 | _ => False) I h)
      fun us s1 ⟨vs, H1, I1, r, q⟩ => ⟨I1.kIn, ?_⟩) hs hpl
  cases r with
  | nil => exact False.elim q
  | cons ru rn =>
    cases rn with
    | nil => exact run_err M hr I1 ru (.inl ⟨rfl, rfl⟩) q
    | cons _ _ => exact False.elim q
/-- x(f=e) -/
theorem pe_errK {e : Expr} {te : TE} {p pos kpos : Pos} (M : ErrM X.prog X.w X.K X.mg X.base x f C) (hr : Room 2 X.A) (hg : Gl X x) (he : PE X e te)
    (hdb : (x == ("__debug__" : Str)) = false := by decide)
    (hall : (backToKw pos (keywordEach [⟨some f, e, kpos⟩] X.env)).all (·.1.isSome) = true := by rfl)
    (hks : (backToKw pos (keywordEach [⟨some f, e, kpos⟩] X.env)).filterMap (·.1) = [f] := by rfl)
    (hpl : ((backTo pos (starEach [] X.env)).any (·.1) || (backToKw pos (keywordEach [⟨some f, e, kpos⟩] X.env)).any (·.1.isNone)) = false := by rfl) :
    PE X (.Call (.Name x p) [] [⟨some f, e, kpos⟩] pos) (tErr C f te) := by
  refine ⟨fun pins s σ H Q I h => ?_⟩
  refine wpAny_Call_Name_kw (ld_glob I hg M.gC ?_ hdb)
  have ha : PK X [⟨some f, e, kpos⟩] (tCons te tNil) := pk_cons he pk_nil
  refine PySem.W.callWith_KW0 (h₀ := X.base) I.ok.mod.kin M.T.kC hall
    (thn (ha.run pos pins s σ H (fun vs H1 => match vs with | [v] => ErrQ C f Q v H1 | _ => False) I h)
      fun us s1 ⟨vs, H1, I1, r, q⟩ => ⟨I1.kIn, ?_⟩) hpl
  rw [hks]
  cases r with
  | nil => exact False.elim q
  | cons ru rn =>
    cases rn with
    | nil => exact run_err M hr I1 ru (.inr ⟨rfl, rfl⟩) q
    | cons _ _ => exact False.elim q
/-- e.f, e an own error with its dict -/
def tErrAt (K : PySem.W.Frag) (f : Str) (te : TE) : TE := fun σ H Q => te σ H fun x H1 => ∃ (a C d : Addr) (fs : List (Str × V)) (v : V),
  x = .ref a ∧ ErrC K C ∧ PySem.W.findIn K (.ref C) f = some none ∧ H1 a = some (exo a C (some d)) ∧ H1 d = some (exd d fs) ∧ fs.lookup f = some v ∧ Q v H1
theorem pe_errAt {e : Expr} {te : TE} {pos : Pos} (he : PE X e te) (hb : attributeBase e f X.env (eval e X.env) = eval e X.env := by rfl) :
    PE X (.Attribute e f pos) (tErrAt X.K f te) := by
  refine ⟨fun pins s σ H Q I h => ?_⟩
  refine attr_of hb (thn (he.run pins s σ H _ I h) fun u s1 hh => ?_)
  obtain ⟨x, H1, I1, rx, a, C, d, fs, v, ex, T, nf, ea, ed, lf, q⟩ := hh
  subst ex
  obtain rfl : u = Value.ref a := rx
  obtain ⟨t1, ho⟩ := exo_at I1.hok ea
  obtain ⟨mA, hns, rel⟩ := exd_at I1.hok ed
  obtain ⟨od, hod, hl⟩ := lookIn_ns hns
  obtain ⟨w', hu, ru⟩ := RelO.some_of (v := v) (o := mA f) (by rw [← lf]; exact rel f)
  have J : PySem.W.InstAt s1.heap a { cls := .ref C, dict := some d, data := .fields #[.ref t1, .none, .none, .none, .bool false, .none] } C (some od) := ⟨ho, rfl, rfl, hod⟩
  exact HandSPX.exc_get I1.kIn J T.ga T.gg T.exC (PySem.W.findObj_own T.hdC nf rfl (by rw [hl, hu])) (handed_of ru) ⟨v, H1, I1.tok _, ru, q⟩
/-- isinstance(e, c), e an own error -/
def rErrIs (K : PySem.W.Frag) : List V → Hp → VK → Prop := fun xs H Q => ∃ (a C : Addr) (d : Option Addr) (c : V) (cv : Value) (b : Bool),
  xs = [.ref a, c] ∧ H a = some (exo a C d) ∧ (∀ e, d = some e → ∃ fs, H e = some (exd e fs)) ∧ ExcC K C ∧ (∀ u, RelV c u → u = cv) ∧
  PySem.W.kitOne K (.ref C) cv = some b ∧ Q (.bl b) H
theorem call_errIs : CallR X (.builtin "isinstance") (rErrIs X.K) := by
  intro pins s σ H xs us Q I r h
  obtain ⟨a, C, d, c, cv, b, rfl, ea, ed, T, hcv, e, q⟩ := h
  cases r with
  | cons rx rr =>
    cases rr with
    | cons rt rr =>
      cases rr
      cases rx
      have ec := hcv _ rt
      subst ec
      obtain ⟨t1, ho⟩ := exo_at I.hok ea
      obtain ⟨cd, hc, _⟩ := PySem.W.any_some T.hd
      have hcl : (PySem.W.clsIn X.K C).isSome = true := by rw [hc]; rfl
      have fin : ∀ tk, EP X pins σ Q (.bool b) { s with toks := tk } := fun tk => ⟨.bl b, H, I.kept (t' := tk) fun _ _ z => z, rfl, q⟩
      cases d with
      | none =>
        exact PySem.W.kia_one (PySem.W.kitx_exc hcl T.hg T.hk T.hs T.ha T.hn T.ht T.hm) I.kIn
          (show PySem.W.InstAt s.heap a { cls := .ref C, dict := none, data := .fields #[.ref t1, .none, .none, .none, .bool false, .none] } C none from ⟨ho, rfl, rfl, trivial⟩) e (fun z => nomatch z) fin
      | some dd =>
        obtain ⟨fs, hd⟩ := ed dd rfl
        obtain ⟨mA, hns, rel⟩ := exd_at I.hok hd
        obtain ⟨od, hod, hl⟩ := lookIn_ns hns
        exact PySem.W.kia_one (PySem.W.kitx_exc hcl T.hg T.hk T.hs T.ha T.hn T.ht T.hm) I.kIn
          (show PySem.W.InstAt s.heap a { cls := .ref C, dict := some dd, data := .fields #[.ref t1, .none, .none, .none, .bool false, .none] } C (some od) from ⟨ho, rfl, rfl, hod⟩) e (fun z => nomatch z) fin
/-- x(), no __init__ of its own -/
structure Err0 (K : PySem.W.Frag) (mg : Str → Option Value) (x : Str) (C : Addr) : Prop where
  gC : mg x = some (.ref C)
  kC : PySem.W.keepIn K (.ref C) = true
  ex : PySem.W.excIn K C PySem.HandSPX.veTail "ValueError.__new__" = true
theorem pe_err0 {p pos : Pos} (M : Err0 X.K X.mg x C) (hg : Gl X x) (hdb : (x == ("__debug__" : Str)) = false := by decide) :
    PE X (.Call (.Name x p) [] [] pos) (fun _ H Q => ∀ a, H a = none → Q (.ref a) (upd H a (exo a C none))) := by
  refine ⟨fun pins s σ H Q I h => ?_⟩
  refine wpAny_Call_Name_kw (ld_glob I hg M.gC ?_ hdb)
  refine PySem.W.callWith_K0 I.kIn M.kC ?_
  show wpAny _ _ (call (.ref C) []) _ _ _
  obtain ⟨hp, g, dr, tk, os⟩ := s
  obtain ⟨bm, N, nm, qn, bs, hdct, sn, sub, ab, col, dd, k0, k1, k2, k3, k5, mN, hC, hN, hni, T⟩ := exc_obj I.kIn M.ex
  refine wpAny_call_exc_subT F.excBase_ValueError T hC hN hni (fun h' e hm => ?_) (by show 0 ≤ sizeLine; exact Nat.zero_le _)
  obtain ⟨t1, ht, _, _⟩ := hm.there
  have he : H e = none := I.hok.gone hm.new
  have ne : ∀ {b : Addr} {o : Obj}, hp.get? b = some o → b ≠ e := fun {b o} q z => by
    have y : hp.get? e = none := hm.new
    rw [z, y] at q
    cases q
  have U : Un X.fs [] H (upd H e (exo e C none)) hp h' :=
    { keep := fun b o q _ _ _ => hm.keeps b o q
      slot := fun b o q _ _ _ => ⟨o.slots, hm.keeps b o q⟩
      free := fun b o q n _ => by
        rw [upd_ne (ne q)]
        exact n
      there := fun b o q _ => ⟨o, hm.keeps b o q⟩
      tups := fun b xs q => by
        rw [upd_ne (ne_of_none q he)]
        exact q
      frzs := fun b o v q => by
        rw [upd_ne (ne_of_none q he)]
        exact q
      tbls := fun b ps q => ⟨#[], by
        rw [upd_ne (ne_of_none q he), q]
        simp⟩ }
  have J : Inv X pins σ (upd H e (exo e C none)) ⟨h', g, dr, tk, os⟩ := I.un (t' := tk) U fun b o q => by
    by_cases hb : b = e
    · subst hb
      rw [upd_same] at q
      cases q
      exact exo_ok ht
    · rw [upd_ne hb] at q
      exact (I.hok b o q).stay (fun c v _ z => hm.keeps c v z)
        (fun c hc => by rw [upd_ne (ne_of_none hc he)]; exact hc)
        (fun c xs hc => by rw [upd_ne (ne_of_none hc he)]; exact hc)
  exact ⟨.ref e, _, J, rfl, h e he⟩
end
end L2
set_option Elab.async false
set_option linter.all false
set_option maxRecDepth 100000
set_option maxHeartbeats 4000000
set_option autoImplicit false
/-! repr of plain data, where no repr is under way -/
namespace Z
open PySem PySem.Spec PyProof.Rows L2
structure Pl (n W : Nat) (d : PyData) : Prop where
  sh : d.showable = true
  nd : d.hasDict = false
  ls : d.leavesShort 32 = true
  dp : d.depth ≤ n
  wt : d.weight ≤ W
theorem Pl.mono {n m W U : Nat} {d : PyData} (h : Pl n W d) (a : n ≤ m) (b : W ≤ U) : Pl m U d :=
  ⟨h.sh, h.nd, h.ls, Nat.le_trans h.dp a, Nat.le_trans h.wt b⟩
theorem Pl.all {n W : Nat} : ∀ {ds : List PyData}, (∀ d ∈ ds, Pl n W d) →
    PyData.showableAll ds = true ∧ PyData.hasDictAll ds = false ∧ PyData.leavesShortAll 32 ds = true ∧ PyData.depthAll ds ≤ n ∧
      PyData.weightAll ds ≤ (W + 1) * ds.length
  | [], _ => by simp [PyData.showableAll, PyData.hasDictAll, PyData.leavesShortAll, PyData.depthAll, PyData.weightAll]
  | d :: ds, h => by
    have a := h d (by simp)
    obtain ⟨b1, b2, b3, b4, b5⟩ := Pl.all (ds := ds) fun e he => h e (by simp [he])
    have w := a.wt
    have p := a.dp
    refine ⟨by simp [PyData.showableAll, a.sh, b1], by simp [PyData.hasDictAll, a.nd, b2], by simp [PyData.leavesShortAll, a.ls, b3], ?_, ?_⟩
    · show max d.depth (PyData.depthAll ds) ≤ n
      omega
    · show d.weight + 1 + PyData.weightAll ds ≤ (W + 1) * (ds.length + 1)
      rw [Nat.mul_add]
      omega
theorem Pl.list {n W : Nat} {ds : List PyData} (h : ∀ d ∈ ds, Pl n W d) : Pl (n + 1) ((W + 1) * ds.length) (.list ds) := by
  obtain ⟨b1, b2, b3, b4, b5⟩ := Pl.all h
  exact ⟨b1, b2, b3, Nat.succ_le_succ b4, b5⟩
theorem Pl.tuple {n W : Nat} {ds : List PyData} (h : ∀ d ∈ ds, Pl n W d) : Pl (n + 1) ((W + 1) * ds.length) (.tuple ds) := by
  obtain ⟨b1, b2, b3, b4, b5⟩ := Pl.all h
  exact ⟨b1, b2, b3, Nat.succ_le_succ b4, b5⟩
theorem Pl.fits {n W : Nat} {d : PyData} (h : Pl n W d) (w : W ≤ 400000) : d.shown.length ≤ sizeLine := by
  have z := PyData.shown_le 32 (by decide) d h.ls
  have y := h.wt
  rw [sizeLine_eq]
  omega
theorem call_repr_pl {X : Cx} (hg : X.A.guards = some []) (hu : X.A.units + 64 < cLine) :
    CallR X (.builtin "repr") (fun xs H Q => ∃ v d, xs = [v] ∧ Dp X.K H v d ∧ Pl 40 400000 d ∧ Q (.str d.shown) H) := by
  intro pins s σ H xs us Q I r h
  obtain ⟨v, d, rfl, hd, pl, q⟩ := h
  obtain ⟨u, rfl, ru⟩ := vals1 r
  have fit := pl.fits (Nat.le_refl _)
  cases hd with
  | non =>
    cases ru
    exact PySem.P.repr_of_none ⟨.str "None", H, I.tok _, ⟨_, rfl⟩, q⟩
  | bl b =>
    cases ru
    exact PySem.P.repr_of_bool ⟨.str (if b then "True" else "False"), H, I.tok _, ⟨_, rfl⟩, q⟩
  | int i =>
    obtain ⟨t, rfl⟩ := ru
    have hz : i.natAbs.log2 < 1920 := of_decide_eq_true pl.sh
    exact PySem.P.repr_of_int hz ⟨.str (toString i), H, I.tok _, ⟨_, rfl⟩, q⟩
  | str x =>
    obtain ⟨t, rfl⟩ := ru
    exact PySem.P.repr_of_str ⟨.str (reprText x), H, I.tok _, ⟨_, rfl⟩, q⟩ fit
  | lst hs ha =>
    cases ru
    have hd : Dp X.K H (.ref _) (.list _) := .lst hs ha
    obtain ⟨as, hr⟩ := Dp.reads I _ _ _ hd rfl
    refine repr_of_reads' hr pl.sh (PyData.noDict_hsm pl.nd) hg (by have := pl.dp; omega) (fun _ _ e => e) (fun h' u tk hk => ?_) fit
    exact ⟨.str _, H, I.kept hk, ⟨_, rfl⟩, q⟩
  | tup hs ha =>
    cases ru
    have hd : Dp X.K H (.ref _) (.tuple _) := .tup hs ha
    obtain ⟨as, hr⟩ := Dp.reads I _ _ _ hd rfl
    refine repr_of_reads' hr pl.sh (PyData.noDict_hsm pl.nd) hg (by have := pl.dp; omega) (fun _ _ e => e) (fun h' u tk hk => ?_) fit
    exact ⟨.str _, H, I.kept hk, ⟨_, rfl⟩, q⟩
end Z
set_option Elab.async false
set_option linter.all false
set_option maxRecDepth 100000
set_option maxHeartbeats 4000000
set_option autoImplicit false
namespace Z
open PySem PySem.Spec PyProof.Rows L2
open C8 (Cal pe_c Mak pe_mk Met pe_mt pe_mt0 pe_gc)
section
variable {P : Program} {w : World} {K : PySem.W.Frag} {mg : Str → Option Value} {base : Heap}
/-- what draws of any things give -/
def AnyD : Nat → PyData → Prop
  | 0, d => Pl 1 70 d
  | m + 1, d => Pl 1 70 d ∨ ∃ ds : List PyData, ds.length ≤ 3 ∧ (∀ e ∈ ds, AnyD m e) ∧ (d = .list ds ∨ d = .tuple ds)
def anyW : Nat → Nat
  | 0 => 70
  | m + 1 => (anyW m + 1) * 3
theorem anyW_ge : ∀ m, 70 ≤ anyW m
  | 0 => Nat.le_refl _
  | m + 1 => by have := anyW_ge m; show 70 ≤ (anyW m + 1) * 3; omega
theorem AnyD.leaf {m : Nat} {d : PyData} (h : Pl 1 70 d) : AnyD m d := by
  cases m with
  | zero => exact h
  | succ m => exact .inl h
theorem AnyD.pl : ∀ {m : Nat} {d : PyData}, AnyD m d → Pl (m + 1) (anyW m) d
  | 0, d, h => h
  | m + 1, d, h => by
    have w0 := anyW_ge m
    rcases h with h | ⟨ds, l, a, e⟩
    · exact h.mono (by omega) (by show 70 ≤ (anyW m + 1) * 3; omega)
    · have b : ∀ e ∈ ds, Pl (m + 1) (anyW m) e := fun e he => AnyD.pl (a e he)
      have c : (anyW m + 1) * ds.length ≤ anyW (m + 1) := Nat.mul_le_mul_left _ l
      rcases e with rfl | rfl
      · exact (Pl.list b).mono (Nat.le_refl _) c
      · exact (Pl.tuple b).mono (Nat.le_refl _) c
/-- what is new in the second heap -/
def fre (H H' : Hp) : Hp := fun b => if H b = none then H' b else none
theorem fre_at {H H' : Hp} {p : Addr} {o : HO} (n : H p = none) (h : H' p = some o) : fre H H' p = some o := by
  unfold fre
  rw [if_pos n, h]
theorem fre_some {H H' : Hp} {p : Addr} {o : HO} (h : fre H H' p = some o) : H p = none ∧ H' p = some o := by
  unfold fre at h
  split at h
  · next e => exact ⟨e, h⟩
  · cases h
theorem free_of {H H1 : Hp} {a c p : Addr} (e : Sm (msk a c H) (msk a c H1)) (hD : DealAt H1 a c) (h : H1 p = none) : H p = none := by
  obtain ⟨na, nc⟩ : p ≠ a ∧ p ≠ c := hD.newNe h
  cases q : H p with
  | none => rfl
  | some o =>
    have z := (msk_le _ _ (e p o (by rw [msk_ne na nc]; exact q)))
    rw [h] at z
    cases z
theorem DealAt.some {H : Hp} {a c : Addr} (h : DealAt H a c) : H a ≠ none ∧ H c ≠ none := by
  obtain ⟨cells, m, S⟩ := h
  exact ⟨by rw [S.ha]; simp, by rw [S.hc]; simp⟩
theorem fr_tup {K : PySem.W.Frag} {H H1 H' : Hp} {a c p : Addr} {xs : List V} (hD : DealAt H1 a c) (h1 : H1 p = none) (n : H p = none)
    (e : Sm (msk a c (upd H1 p (.tup xs))) (msk a c H')) : SqT K (fre H H') p xs :=
  .inl (.inl (fre_at n (msk_le _ _ (e _ _ (msk_at (hD.newNe h1).1 (hD.newNe h1).2)))))
theorem fr_lst {K : PySem.W.Frag} {H H1 H' : Hp} {a c p : Addr} {xs : List V} (hD : DealAt H1 a c) (h1 : H1 p = none) (n : H p = none)
    (e : Sm (msk a c (upd H1 p (.lst xs))) (msk a c H')) : SqL K (fre H H') p xs :=
  .inl (.inl (fre_at n (msk_le _ _ (e _ _ (msk_at (hD.newNe h1).1 (hD.newNe h1).2)))))
/-- what is new, but for one address -/
def freD (H H' : Hp) (D : Addr) : Hp := fun b => if b = D then none else fre H H' b
theorem freD_upd {H H' : Hp} {D : Addr} {o : HO} : freD H (upd H' D o) D = freD H H' D := by
  funext b
  unfold freD
  by_cases h : b = D
  · rw [if_pos h, if_pos h]
  · rw [if_neg h, if_neg h]
    unfold fre
    rw [upd_ne h]
theorem freD_le {H H' : Hp} {D : Addr} : Sm (freD H H' D) (fre H H') := fun b o h => by
  unfold freD at h
  split at h
  · cases h
  · exact h
theorem freD_step {H H3 H4 : Hp} {a c D : Addr} (hD : DealAt H a c) (e : Sm (msk a c H3) (msk a c H4)) : Sm (freD H H3 D) (freD H H4 D) := fun b o h => by
  unfold freD at h ⊢
  by_cases hb : b = D
  · rw [if_pos hb] at h
    cases h
  · rw [if_neg hb] at h ⊢
    obtain ⟨n, h3⟩ := fre_some h
    have na : b ≠ a := fun z => hD.some.1 (by rw [← z]; exact n)
    have nc : b ≠ c := fun z => hD.some.2 (by rw [← z]; exact n)
    exact fre_at n (msk_le _ _ (e b o (by rw [msk_ne na nc]; exact h3)))
theorem freD_new {H H3 H4 : Hp} {a c D : Addr} (hD3 : DealAt H3 a c) (e : Sm (msk a c H) (msk a c H3)) (d : H3 D ≠ none) : Sm (fre H3 H4) (freD H H4 D) := fun b o h => by
  obtain ⟨n, h4⟩ := fre_some h
  have nb : b ≠ D := fun z => d (by rw [← z]; exact n)
  unfold freD
  rw [if_neg nb]
  exact fre_at (free_of e hD3 n) h4
theorem msk_keep {H H' : Hp} {a c D : Addr} {o : HO} (e : Sm (msk a c H) (msk a c H')) (n : H D = none) : Sm (msk a c H) (msk a c (upd H' D o)) := fun b u h => by
  obtain ⟨hb, na, nc⟩ := msk_some h
  have nb : b ≠ D := fun z => by
    rw [z, n] at hb
    cases hb
  have z := e b u h
  rw [msk_ne na nc] at z ⊢
  rw [upd_ne nb]
  exact z
theorem DealAt.upd {H : Hp} {a c D : Addr} {o : HO} (h : DealAt H a c) (na : D ≠ a) (nc : D ≠ c) : DealAt (upd H D o) a c := by
  obtain ⟨cells, m, S⟩ := h
  exact ⟨cells, m, by rw [upd_ne (Ne.symm na)]; exact S.ha, by rw [upd_ne (Ne.symm nc)]; exact S.hc, S.pos, S.len, S.m0, S.m1⟩
def spAny (K : PySem.W.Frag) (n : Nat) : Sp := fun vs H Q _ => ∃ (a c : Addr) (m : Nat), vs = [.ref a, .int m] ∧ m < n ∧ DealAt H a c ∧
  ∀ v d H', Dp K (fre H H') v d → AnyD m d → DealAt H' a c → Sm (msk a c H) (msk a c H') → Q v H'
/-- each of some values is plain data -/
def Odds (K : PySem.W.Frag) (H : Hp) (xs : List V) : Prop := ∀ x ∈ xs, ∃ d, Dp K H x d ∧ Pl 1 70 d
theorem Odds.nil {K : PySem.W.Frag} {H : Hp} : Odds K H [] := fun _ h => nomatch h
theorem Odds.cons {K : PySem.W.Frag} {H : Hp} {x : V} {xs : List V} (d : PyData) (h : Dp K H x d) (p : Pl 1 70 d) (t : Odds K H xs) : Odds K H (x :: xs) := fun y hy => by
  rcases List.mem_cons.mp hy with e | e
  · rw [e]
    exact ⟨d, h, p⟩
  · exact t y e
theorem Odds.mono {K : PySem.W.Frag} {H H' : Hp} {xs : List V} (e : Sm H H') (h : Odds K H xs) : Odds K H' xs := fun x hx =>
  let ⟨d, a, b⟩ := h x hx
  ⟨d, dp_mono e a, b⟩
theorem dpAll_ex {K : PySem.W.Frag} {H : Hp} {m : Nat} : ∀ {vs : List V}, (∀ v ∈ vs, ∃ d, Dp K H v d ∧ AnyD m d) → ∃ ds, DpAll K H vs ds ∧ ∀ d ∈ ds, AnyD m d
  | [], _ => ⟨[], .nil, fun _ h => nomatch h⟩
  | v :: vs, h => by
    obtain ⟨d, a, b⟩ := h v (by simp)
    obtain ⟨ds, a', b'⟩ := dpAll_ex (vs := vs) fun x hx => h x (by simp [hx])
    refine ⟨d :: ds, .cons a a', fun e he => ?_⟩
    rcases List.mem_cons.mp he with q | q
    · rw [q]
      exact b
    · exact b' e q
theorem pl_non : Pl 1 70 .none := ⟨by decide +kernel, by decide +kernel, by decide +kernel, by decide +kernel, by decide +kernel⟩
theorem pl_bl (b : Bool) : Pl 1 70 (.bool b) := by
  cases b <;> exact ⟨by decide +kernel, by decide +kernel, by decide +kernel, by decide +kernel, by decide +kernel⟩
theorem pl_big : Pl 1 70 (.int (10 ^ 20)) := ⟨by decide +kernel, by decide +kernel, by decide +kernel, by decide +kernel, by decide +kernel⟩
theorem pl_i0 : Pl 1 70 (.int 0) := ⟨by decide +kernel, by decide +kernel, by decide +kernel, by decide +kernel, by decide +kernel⟩
theorem pl_i1 : Pl 1 70 (.int 1) := ⟨by decide +kernel, by decide +kernel, by decide +kernel, by decide +kernel, by decide +kernel⟩
theorem pl_i2 : Pl 1 70 (.int 2) := ⟨by decide +kernel, by decide +kernel, by decide +kernel, by decide +kernel, by decide +kernel⟩
theorem pl_i7 : Pl 1 70 (.int 7) := ⟨by decide +kernel, by decide +kernel, by decide +kernel, by decide +kernel, by decide +kernel⟩
theorem pl_m1 : Pl 1 70 (.int (-1)) := ⟨by decide +kernel, by decide +kernel, by decide +kernel, by decide +kernel, by decide +kernel⟩
theorem pl_s0 : Pl 1 70 (.str (Str.ofString "")) := ⟨by decide +kernel, by decide +kernel, by decide +kernel, by decide +kernel, by decide +kernel⟩
theorem pl_s1 : Pl 1 70 (.str (Str.ofString "+")) := ⟨by decide +kernel, by decide +kernel, by decide +kernel, by decide +kernel, by decide +kernel⟩
theorem pl_s2 : Pl 1 70 (.str (Str.ofString "-+")) := ⟨by decide +kernel, by decide +kernel, by decide +kernel, by decide +kernel, by decide +kernel⟩
theorem pl_s3 : Pl 1 70 (.str (Str.ofString "marked")) := ⟨by decide +kernel, by decide +kernel, by decide +kernel, by decide +kernel, by decide +kernel⟩
theorem pl_t0 : Pl 1 70 (.tuple []) := ⟨by decide +kernel, by decide +kernel, by decide +kernel, by decide +kernel, by decide +kernel⟩
theorem pl_l0 : Pl 1 70 (.list []) := ⟨by decide +kernel, by decide +kernel, by decide +kernel, by decide +kernel, by decide +kernel⟩
theorem pl_t01 : Pl 1 70 (.tuple [.int 0, .int 1]) := ⟨by decide +kernel, by decide +kernel, by decide +kernel, by decide +kernel, by decide +kernel⟩
theorem pl_t10 : Pl 1 70 (.tuple [.int 1, .int 0]) := ⟨by decide +kernel, by decide +kernel, by decide +kernel, by decide +kernel, by decide +kernel⟩
theorem pl_l23 : Pl 1 70 (.list [.int 2, .int 3]) := ⟨by decide +kernel, by decide +kernel, by decide +kernel, by decide +kernel, by decide +kernel⟩
abbrev s_any : Stmt := topS 16
abbrev n_any : List Str := ["_law_deal_here", "_law_deep", "_law_form", "_law_odd", "_law_some", "_law_turn"]
abbrev p_any : List Str := ["_law_deal_here", "_law_deep"]
theorem sc_any : FnScope n_any p_any (defScope s_any) := ⟨rfl, rfl, rfl, by decide +kernel, rfl, by decide +kernel, by decide +kernel⟩
theorem any_step {n : Nat} {f : Addr} {fd : FuncData} (F : Fun K "_law_any" "_law_any" s_any f fd) (T : Bt mg) (Cd : Cal P w K mg base 2 "_law_draw" spDraw [])
    (Cp : Cal P w K mg base 3 "_law_pick" (spPick K) []) (Ca : Cal P w K mg base (n + 3) "_law_any" (spAny K n) []) :
    FnOk P w K mg base CX0 (n + 4) f fd p_any (spAny K (n + 1)) := by
  refine F.ok sc_any (fun vs H Q E h => ?_) (fun cdv A outer s H vs Q E hr h => ?_)
  · obtain ⟨a, c, m, rfl, _⟩ := h
    rfl
  · obtain ⟨a, c, m, rfl, hm, hD, q⟩ := h
    refine ⟨_, (pss_cons (ps_set (i := 2) sc_any.nd rfl (Or.inl rfl) (pe_c Cd hr (by omega) (by rfl) (pa_cons (pv 0) (pa_cons pe_int pa_nil))))
      (pss_cons (ps_if ((pw_or (pt_cmpR op_lt (pv 1) pe_int (nomark _)) (pw_or1 (pt_cmpR op_lt (pv 2) pe_int (nomark _))))).pt
        (pss_cons (ps_set (i := 3) sc_any.nd rfl (Or.inl rfl) (pe_lst (pa_cons pe_non (pa_cons pe_bl (pa_cons pe_bl (pa_cons pe_int (pa_cons pe_int (pa_cons pe_int (pa_cons pe_int (pa_cons (pe_un un_neg pe_int) (pa_cons pe_str (pa_cons pe_str (pa_cons pe_str (pa_cons pe_str (pa_cons (pe_tup pa_nil) (pa_cons (pe_lst pa_nil) (pa_cons (pe_tup (pa_cons pe_int (pa_cons pe_int pa_nil))) (pa_cons (pe_tup (pa_cons pe_int (pa_cons pe_int pa_nil))) (pa_cons (pe_lst (pa_cons pe_int (pa_cons pe_int pa_nil))) (pa_cons (pe_op op_pow pe_int pe_int) pa_nil))))))))))))))))))))
        (pss_one (ps_ret (pe_c Cp hr (by omega) (by rfl) (pa_cons (pv 0) (pa_cons (pv 3) pa_nil))))))
        pss_nil)
      (pss_cons (ps_setLc (i := 4) (own := [("_law_turn", 5)]) (tt := tYes) (by rfl) sc_any.nd rfl rfl (sw_true rfl rfl rfl (by decide +kernel)) (pi_range1 rfl T.n_range (pa_cons (pe_c Cd hr (by omega) (by rfl) (pa_cons (pv 0) (pa_cons pe_int pa_nil))) pa_nil)) (blkOk_by (N := n_any) (sc := defScope s_any) (own := [("_law_turn", 5)]) (by decide +kernel)) (fun _ _ _ _ _ => pg_name (i := 5) sc_any.nd rfl (Or.inl rfl)) (fun _ _ _ _ _ => pts_nil) (fun _ _ _ _ _ => (pe_c Ca hr (by omega) (by rfl) (pa_cons (pv 0) (pa_cons (pe_op op_sub (pv 1) pe_int) pa_nil)))))
      (pss_one (ps_ret (pe_ifExp (pt_cmpR op_lt (pv 2) pe_int (nomark _)) (pe_callTy call_tuple_of (by rfl) T.n_tuple (by decide +kernel) (pa_cons (pv 4) pa_nil)) (pv 4))))))), ?_⟩
    refine ⟨_, rfl, a, c, 8, rfl, hD, by decide, by decide, fun r H1 r0 r1 hD1 e1 => ?_⟩
    refine ⟨_, rfl, (m : Int), 1, rfl, rfl, _, rfl, iteB (fun hb => ?L1) (fun hb => ⟨_, rfl, r, 5, rfl, rfl, _, rfl, iteB (fun hb2 => ?L2) (fun hb2 => ?R)⟩)⟩
    case R =>
      refine ⟨_, rfl, a, c, 4, rfl, hD1, by decide, by decide, fun t H2 t0 t1 hD2 e2 => ⟨t, rfl, by omega, by omega, fun D hd => ?_⟩⟩
      have e12 := e1.trans e2
      have hm0 : ¬ (m : Int) < 1 := of_decide_eq_false hb
      have nD : H D = none := free_of e12 hD2 hd
      refine lc_range (lo := 0) (n := t.toNat) (fun i H' => DealAt H' a c ∧ Sm (msk a c H) (msk a c H') ∧ ∃ acc, H' D = some (.lst acc) ∧ acc.length = i ∧
        ∀ v ∈ acc, ∃ d, Dp K (freD H H' D) v d ∧ AnyD (m - 1) d) ?_ ?_ ?_
      · exact ⟨hD2.sm (Sm.new hd), msk_keep e12 nD, [], upd_same, rfl, fun _ z => nomatch z⟩
      · rintro i H3 hi ⟨hD3, e3, acc, eD, la, pa⟩
        have hDa : D ≠ a ∧ D ≠ c := hD2.newNe hd
        refine ⟨rfl, ?_⟩
        refine ⟨_, rfl, _, rfl, (m : Int), 1, rfl, rfl, a, c, m - 1, ?_, by omega, hD3, fun v d H4 dv av hD4 e4 => ?_⟩
        · have z : (m : Int) - 1 = ((m - 1 : Nat) : Int) := by omega
          show [V.ref a, V.int ((m : Int) - 1)] = _
          rw [z]
        · have eD4 : H4 D = some (.lst acc) := msk_le _ _ (e4 D _ (by rw [msk_ne hDa.1 hDa.2]; exact eD))
          refine ⟨acc, eD4, small1000 (by omega), hD4.upd hDa.1 hDa.2, msk_keep (e3.trans e4) nD, _, upd_same, ?_, ?_⟩
          · rw [List.length_append, la]
            rfl
          · intro x hx
            rw [freD_upd]
            rcases List.mem_append.mp hx with h | h
            · obtain ⟨d', a1, a2⟩ := pa x h
              exact ⟨d', dp_mono (freD_step hD e4) a1, a2⟩
            · rw [List.mem_singleton.mp h]
              exact ⟨d, dp_mono (freD_new hD3 e3 (by rw [eD]; simp)) dv, av⟩
      · rintro H3 ⟨hD3, e3, acc, eD, la, pa⟩
        obtain ⟨ds, da, dn⟩ := dpAll_ex pa
        have dl : ds.length ≤ 3 := by
          rw [← dpAll_len da]
          omega
        have hm2 : AnyD m (.list ds) ∧ AnyD m (.tuple ds) := by
          obtain ⟨m', rfl⟩ : ∃ m', m = m' + 1 := ⟨m - 1, by omega⟩
          exact ⟨.inr ⟨ds, dl, dn, .inl rfl⟩, .inr ⟨ds, dl, dn, .inr rfl⟩⟩
        refine ⟨_, rfl, r, 7, rfl, rfl, _, rfl, iteB (fun h7 => ?_) (fun h7 => ?_)⟩
        · refine ⟨_, rfl, D, acc, rfl, .inl ⟨.inl (.inl eD), fun l hl => ?_⟩⟩
          have nl : H l = none := free_of e3 hD3 hl
          refine q _ (.tuple ds) _ (.tup (.inl (.inl (fre_at nl upd_same))) (dpAll_mono (fun b o h => ?_) da)) hm2.2 (hD3.sm (Sm.new hl)) (e3.trans (msk_new hl))
          obtain ⟨n, h3⟩ := fre_some (freD_le _ _ h)
          exact fre_at n (Sm.new hl _ _ h3)
        · exact ⟨_, rfl, q _ (.list ds) _ (.lst (.inl (.inl (fre_at nD eD))) (dpAll_mono freD_le da)) hm2.1 hD3 e3⟩
    all_goals
      refine ⟨1, rfl, ⟨by decide, fun p1 h1 => ⟨by decide, fun p2 h2 => ⟨by decide, fun p3 h3 => ⟨by decide, fun p4 h4 => ⟨by decide, fun p5 h5 =>
        ⟨10, 20, rfl, rfl, ⟨by decide, by decide, by decide⟩, ⟨(show 18 ≤ sizeLine by decide), fun p6 h6 => ?_⟩⟩⟩⟩⟩⟩⟩⟩
      have n1 := free_of e1 hD1 h1
      have m1 := msk_new (a := a) (c := c) (o := .tup []) h1
      have s1 : Sm H1 _ := Sm.new (o := .tup []) h1
      have D1 := hD1.sm s1
      have n2 := free_of (e1.trans (m1)) D1 h2
      have m2 := msk_new (a := a) (c := c) (o := .lst []) h2
      have s2 := Sm.new (o := .lst []) h2
      have D2 := D1.sm s2
      have n3 := free_of (e1.trans (m1.trans (m2))) D2 h3
      have m3 := msk_new (a := a) (c := c) (o := .tup [.int 0, .int 1]) h3
      have s3 := Sm.new (o := .tup [.int 0, .int 1]) h3
      have D3 := D2.sm s3
      have n4 := free_of (e1.trans (m1.trans (m2.trans (m3)))) D3 h4
      have m4 := msk_new (a := a) (c := c) (o := .tup [.int 1, .int 0]) h4
      have s4 := Sm.new (o := .tup [.int 1, .int 0]) h4
      have D4 := D3.sm s4
      have n5 := free_of (e1.trans (m1.trans (m2.trans (m3.trans (m4))))) D4 h5
      have m5 := msk_new (a := a) (c := c) (o := .lst [.int 2, .int 3]) h5
      have s5 := Sm.new (o := .lst [.int 2, .int 3]) h5
      have D5 := D4.sm s5
      refine ⟨_, rfl, _, rfl, a, c, p6, _, rfl, D5.sm (Sm.new h6), .inl (.inl (msk_at (D5.newNe h6).1 (D5.newNe h6).2)), (by decide : (0 : Nat) < 18), (by decide : (18 : Nat) ≤ 1000), fun j v H' hj hD' e' => ?_⟩
      have m6 := (msk_new (a := a) (c := c) h6).trans e'
      have m16 := m1.trans (m2.trans (m3.trans (m4.trans (m5.trans m6))))
      have odd : Odds K (fre H H') _ := .cons .none .non pl_non (.cons (.bool true) (.bl _) (pl_bl _) (.cons (.bool false) (.bl _) (pl_bl _)
        (.cons (.int 0) (.int _) pl_i0 (.cons (.int 1) (.int _) pl_i1 (.cons (.int 2) (.int _) pl_i2 (.cons (.int 7) (.int _) pl_i7 (.cons (.int (-1)) (.int _) pl_m1
        (.cons (.str _) (.str _) pl_s0 (.cons (.str _) (.str _) pl_s1 (.cons (.str _) (.str _) pl_s2 (.cons (.str _) (.str _) pl_s3
        (.cons (.tuple []) (.tup (fr_tup hD1 h1 n1 (m2.trans (m3.trans (m4.trans (m5.trans m6))))) .nil) pl_t0
        (.cons (.list []) (.lst (fr_lst D1 h2 n2 (m3.trans (m4.trans (m5.trans m6)))) .nil) pl_l0
        (.cons (.tuple [.int 0, .int 1]) (.tup (fr_tup D2 h3 n3 (m4.trans (m5.trans m6))) (.cons (.int _) (.cons (.int _) .nil))) pl_t01
        (.cons (.tuple [.int 1, .int 0]) (.tup (fr_tup D3 h4 n4 (m5.trans m6)) (.cons (.int _) (.cons (.int _) .nil))) pl_t10
        (.cons (.list [.int 2, .int 3]) (.lst (fr_lst D4 h5 n5 m6) (.cons (.int _) (.cons (.int _) .nil))) pl_l23
        (.cons (.int (10 ^ 20)) (.int _) pl_big .nil)))))))))))))))))
      obtain ⟨d, dd, dp⟩ := odd v (List.mem_of_getElem? hj)
      exact q v d H' dd (AnyD.leaf dp) hD' (e1.trans m16)
theorem any_ok {f : Addr} {fd : FuncData} (F : Fun K "_law_any" "_law_any" s_any f fd) (T : Bt mg) (Cd : Cal P w K mg base 2 "_law_draw" spDraw [])
    (Cp : Cal P w K mg base 3 "_law_pick" (spPick K) []) (gm : mg "_law_any" = some (.ref f)) (hb : Binds K fd p_any []) :
    ∀ n, FnOk P w K mg base CX0 (n + 3) f fd p_any (spAny K n)
  | 0 => ⟨fun _ _ _ _ h => by obtain ⟨_, _, m, _, h, _⟩ := h; exact absurd h (Nat.not_lt_zero _), fun _ _ _ _ _ _ _ _ _ _ _ _ _ h => by obtain ⟨_, _, m, _, h, _⟩ := h; exact absurd h (Nat.not_lt_zero _)⟩
  | n + 1 => any_step F T Cd Cp ⟨⟨f, fd, p_any, [], any_ok F T Cd Cp gm hb n, gm, F.kp, hb, .nil⟩⟩
end
end Z
set_option Elab.async false
set_option linter.all false
set_option maxRecDepth 100000
set_option maxHeartbeats 4000000
set_option autoImplicit false
/-! A law whose body asks repr: its end, where it is known that no repr is under way. -/
namespace L2
open PySem PySem.Spec PyProof.Rows
/-- a def's promise where no display is under way -/
structure FnG (P : Program) (w : World) (K : PySem.W.Frag) (mg : Str → Option Value) (base : Heap) (k : Nat) (f : Addr) (fd : FuncData) (ps : List Str) (sp : Sp) : Prop where
  run : ∀ (A : Around) (outer : List Env) (s : Shared) (H : Hp) (args : Args) (us : List Value) (vs : List V) (Q : VK), A.guards = some [] → Room k A →
    Env0 P w K mg base A outer s H → BindsTo s fd args (ps.zip us) → Vals vs us → sp vs H Q (fun _ _ _ => False) →
    codeAny (model P w) A (.call (.ref f) args) (CR CX0 outer P w H s Q (fun _ _ _ => False)) s
section
variable {P : Program} {w : World} {K : PySem.W.Frag} {mg : Str → Option Value} {base : Heap}
theorem Fun.okG {x qual : Str} {st : Stmt} {f : Addr} {fd : FuncData} {N ps : List Str} {k : Nat} {sp : Sp} (F : Fun K x qual st f fd)
    (S : FnScope N ps (defScope st)) (len : ∀ vs H Q E, sp vs H Q E → vs.length = ps.length)
    (hbody : ∀ (cdv : Value) (A : Around) (outer : List Env) (s : Shared) (H : Hp) (vs : List V) (Q : VK) (E : XK), A.guards = some [] →
      Room k (A.deeper (envOfC qual (defScope st) s.heap.objs.size f cdv)) → sp vs H Q E →
      ∃ t, PSs (cxOf CX0 P w K mg base N qual (defScope st) f cdv A outer s H E).nox (defBody st) t ∧
        t { nx := fun _ H' => Q .non H', rt := Q } (start N vs) H) : FnG P w K mg base (k + 1) f fd ps sp := by
  obtain ⟨oc, od, kV, doc, pm, an, cdv, ct, osl, rfl, lk, hcd⟩ := F.ex
  refine ⟨fun A outer s H args us vs Q gd hr e0 hb r hsp => ?_⟩
  have hl := len _ _ _ _ hsp
  have inK : K.In s.heap := e0.mod.kin.keeps fun b o e => (e0.bs b o e).1
  have nl : s.heap.NoLimit := e0.mod.nolimit.keeps fun b o e => (e0.bs b o e).1
  have kinds : ∀ y ∈ ps.zip us, (defScope st).names.lookup y.1 = some .local ∨
      ((defScope st).names.lookup y.1 = some .cell ∧ ((cellsFrom (s.heap.objs.size + 1) (defScope st).names []).lookup y.1).isSome = true) := by
    rintro ⟨n, v⟩ hy
    cases S.par n (List.of_mem_zip hy).1 with
    | inl q => exact .inl q
    | inr q => exact .inr ⟨q, PySem.W.cellsFrom_some _ _ _ (.inl q)⟩
  refine codeAny_call_function hr.depth (inK _ _ lk) rfl S.co S.gen rfl (PySem.W.codeRec_of inK hcd) (hb _ _ _ _ ?_)
  refine wpAny_newFunctionEnv_cells S.kind kinds fun env he s1 x => ?_
  subst he
  refine ⟨nl.keeps x.toInCall.keep, codeAny_func ?_⟩
  obtain ⟨t, ht0, hq⟩ := hbody cdv A outer s H vs Q _ gd (hr.deeper _) hsp
  have ht := ht0.nox
  have I := inv_start S hr.hd e0 hl r x (CX := CX0) (E := fun _ _ _ => False)
  refine wpAny_mono (ht.run [] s1 (start N vs) H _ I hq) (fun fl s' hs => ?_) fun e s' hs => hs
  cases fl with
  | ret u =>
    obtain ⟨v, σ', H', J, rv, q⟩ := hs
    exact ⟨v, H', J.os, J.bare, J.base, J.hok, rv, q⟩
  | next =>
    obtain ⟨σ', H', J, q⟩ := hs
    exact ⟨V.non, H', J.os, J.bare, J.base, J.hok, rfl, q⟩
  | brk =>
    obtain ⟨_, _, _, q⟩ := hs
    exact False.elim q
  | cont =>
    obtain ⟨_, _, _, q⟩ := hs
    exact False.elim q
end

/-- the heap that the call finds: nothing is tracked but perhaps the script at a -/
structure Found (P : Program) (w : World) (K : PySem.W.Frag) (s : Shared) (a : Addr) (ns : List Int) (H : Hp) : Prop where
  only : Only H
  seq : SqL K H a (ns.map V.int)
  ok : HOk P w H s.heap
  at_ : ∀ b, H b ≠ none → b = a
  out : H a ≠ none → K.lookup a = none
theorem found_ex {P : Program} {w : World} {K : PySem.W.Frag} {s : Shared} {a : Addr} {vs : List Value} {ns : List Int} (KX : K.In s.heap)
    (ha : s.heap.get? a = some { cls := .type "list", data := .seq vs.toArray }) (hi : IntsAre vs ns) (hl : ns.length ≤ sizeLine) : ∃ H, Found P w K s a ns H := by
  have rv := vals_ints hi
  have len := hi.length
  cases e : K.lookup a with
  | some o =>
    have z := KX a o e
    rw [ha] at z
    cases z
    refine ⟨fun _ => none, fun _ => .inl rfl, .inr ⟨_, vs.toArray, _, e, rfl, rfl, rfl, ?_, by simpa using rv⟩, fun b u z => ?_, fun b z => absurd rfl z, fun z => absurd rfl z⟩
    · rw [List.size_toArray, len]
      exact hl
    · exact absurd z (by simp)
  | none =>
    let o : Obj := { cls := .type "list", data := .seq vs.toArray }
    let H : Hp := fun b => if b = a then some (.frz o (.lst (ns.map V.int))) else none
    have h1 : H a = some (.frz o (.lst (ns.map V.int))) := if_pos rfl
    have h2 : ∀ {b}, b ≠ a → H b = none := fun {b} hb => if_neg hb
    refine ⟨H, fun b => ?_, .inl (.inr ⟨o, h1⟩), fun b u z => ?_, fun b z => ?_, fun _ => e⟩
    · by_cases hb : b = a
      · rw [hb]
        exact .inr ⟨_, _, h1⟩
      · exact .inl (h2 hb)
    · by_cases hb : b = a
      · subst hb
        rw [h1] at z
        cases z
        exact ⟨ha, by rw [List.length_map]; exact hl, vs, _, rv, ha⟩
      · rw [h2 hb] at z
        cases z
    · by_cases hb : b = a
      · exact hb
      · exact absurd (h2 hb) z
/-- the law is called -/
theorem law_callG {P : Program} {w : World} {K : PySem.W.Frag} {mg mb : Str → Option Value} {k : Nat} {fa a : Addr} {fd : FuncData} {x : Str} {sp : Sp} {s : Shared} {vs : List Value} {ns : List Int}
    (KX : K.In s.heap) (hns : s.heap.Ns mainGlobals mg) (hb : s.heap.Ns builtinsNs mb) (hbb : ∀ x : Str, x ≠ "__name__" → mb x = bootBuiltins x)
    (hlim : s.heap.NoLimit) (hg : s.gens = #[]) (ha : s.heap.get? a = some { cls := .type "list", data := .seq vs.toArray }) (hi : IntsAre vs ns)
    (hl : ns.length ≤ sizeLine) (hr : Room k callerA) (F : ∀ base : Heap, K.In base → base.Ns mainGlobals mg → FnG P w K mg base k fa fd [x] sp)
    (hbind : ∀ (s : Shared) (u : Value), BindsTo s fd ⟨[u], []⟩ [(x, u)])
    (hsp : ∀ H : Hp, Only H → SqL K H a (ns.map V.int) → sp [.ref a] H (fun v _ => v = .bl true) fun _ _ _ => False) :
    codeAny (model P w) callerA (.call (.ref fa) ⟨[.ref a], []⟩)
      (fun r s' => r = .ok (.ret (.bool true)) ∧ OldK s.heap s'.heap ∧ s'.os = s.os ∧ AllBare s'.gens) s := by
  obtain ⟨H, fo⟩ := found_ex (P := P) (w := w) KX ha hi hl
  have isA : ∀ {b : Addr} {u : HO}, H b = some u → b = a := fun q => fo.at_ _ (by rw [q]; simp)
  have noDict : ∀ {b : Addr} {o : Obj} {es : Array DictEntry} {ep : Nat}, s.heap.get? b = some o → o.data = .dict es ep → H b = none := by
    intro b o es ep e d
    cases q : H b with
    | none => rfl
    | some u =>
      rw [isA q, ha] at e
      cases e
      cases (show Data.seq vs.toArray _ = Data.dict es ep from d)
  have spaces : ∀ {b : Addr} {m : Str → Option Value}, s.heap.Ns b m → (hidT s.heap H).Ns b m := by
    rintro b m ⟨o, es, ep, e, d, r⟩
    exact ⟨o, es, ep, hidT_get e (noDict e d), d, r⟩
  have inB : K.In (hidT s.heap H) := by
    intro b o e
    refine hidT_get (KX b o e) ?_
    cases q : H b with
    | none => rfl
    | some u =>
      have z := isA q
      subst z
      rw [fo.out (by rw [q]; simp)] at e
      cases e
  obtain ⟨mc, l1, l2⟩ := hlim
  have hM : Mod K mg (hidT s.heap H) := ⟨inB, spaces hns, ⟨mb, spaces hb, hbb⟩, ⟨mc, spaces l1, l2⟩⟩
  have noF : ∀ {b : Addr}, b ∉ frs [] := fun {b} z => absurd (show b ∈ ([] : List Addr) from z) (by simp)
  have e0 : Env0 P w K mg (hidT s.heap H) callerA [] s H := ⟨rfl, hM, fun b o e => of_hidT e, Nat.le_of_eq (hidT_size _ _), trivial, fun b z => absurd z noF, fo.ok, .of_eq hg⟩
  have run := (F _ inB (spaces hns)).run callerA [] s H ⟨[.ref a], []⟩ [.ref a] [.ref a] _ rfl hr e0 (hbind s (.ref a)) (.cons rfl .nil) (hsp H fo.only fo.seq)
  refine codeAny_mono run fun r s' h => ?_
  cases r with
  | error e => exact False.elim h
  | ok fl =>
    cases fl with
    | next => exact False.elim h
    | brk => exact False.elim h
    | cont => exact False.elim h
    | ret u =>
      obtain ⟨v, H', os, bare, un, hok', r', q⟩ := h
      obtain rfl : v = .bl true := q
      obtain rfl : u = Value.bool true := r'
      refine ⟨rfl, OldK.of_keep fun b o e => ?_, os, bare⟩
      cases q : H b with
      | none => exact un.keep b o e q noF (by simp)
      | some u =>
        rcases fo.only b with z | ⟨ob, xs, z⟩
        · rw [q] at z
          cases z
        · have same := fo.ok b _ z
          have same' := hok' b _ (un.frzs b ob _ z)
          have y := same.1
          rw [e] at y
          cases y
          exact same'.1
theorem walk_ofG {l : PySem.W.OpenLaw} {n k : Nat} {q : Program} {loose : List Str} {XP : (Str → Option Value) → Heap → Prop} {YP : World → Heap → Prop} {d : DefRec} {K : Params → PySem.W.Frag} {sp : PySem.W.Frag → Sp} {x : Str}
    (hn : l.most = some n) (hn2 : n ≤ sizeLine) (hdf : d.params.defaults = []) (hr : Room k callerA) (hY : ∀ (w : World) (h : Heap), YP w h → (K w.params).In h)
    (F : ∀ (w : World) (mg : Str → Option Value) (fa : Addr) (h : Heap), (K w.params).In h → h.Ns mainGlobals mg → mg d.name = some (.ref fa) →
      ∃ fd : FuncData, (∀ (s : Shared) (u : Value), BindsTo s fd ⟨[u], []⟩ [(x, u)]) ∧
        ∀ base : Heap, (K w.params).In base → base.Ns mainGlobals mg → FnG l.prog w (K w.params) mg base k fa fd [x] (sp (K w.params)))
    (hsp : ∀ (K : PySem.W.Frag) (H : Hp) (a : Addr) (ns : List Int), ns.length ≤ n → Only H → SqL K H a (ns.map V.int) → sp K [.ref a] H (fun v _ => v = .bl true) fun _ _ _ => False) :
    PySem.W.WalkO q loose XP YP l.row.toRowW d [] (fun f vs => PySem.call f vs) := by
  refine Att.attach_call hn hdf fun w s₀ s₁ mg mb fa o pm cd doc a vs ns G Y ho hd hcd hmg hobj hints hlen hg => ?_
  obtain ⟨fd, hb, hF⟩ := F w mg fa _ (hY w _ Y) G.T.g hmg
  exact law_callG (hY w _ Y) G.T.g G.T.b G.T.builtins G.T.nolimit hg hobj hints (Nat.le_trans hlen hn2) hr hF hb fun H hO hS => hsp _ H a ns hlen hO hS
end L2
set_option Elab.async false
set_option linter.all false
set_option maxRecDepth 100000
set_option maxHeartbeats 4000000
set_option autoImplicit false
namespace Z
open PySem PySem.Spec PyProof.Rows L2
open C8 (Cal pe_c Mak pe_mk Met pe_mt pe_mt0 pe_gc)
def Mono (te : TE) : Prop := ∀ (σ : L2.St) (H : Hp) (Q Q' : VK), (∀ v H, Q v H → Q' v H) → te σ H Q → te σ H Q'
theorem mono_var {i : Nat} : Mono (tVar i) := fun σ H Q Q' h q => by
  obtain ⟨v, e, q⟩ := q
  exact ⟨v, e, h _ _ q⟩
theorem pe_weak {X : Cx} {e : Expr} {t t' : TE} (h : PE X e t) (i : ∀ σ H Q, t' σ H Q → t σ H Q) : PE X e t' :=
  ⟨fun pins s σ H Q I q => h.run pins s σ H Q I (i σ H Q q)⟩
/-- what an error is made of and keeps -/
def tKeep (te : TE) : TE := fun σ H Q => te σ H fun v H1 => ∀ H2, Sm H1 H2 → Q v H2
theorem keep_imp {K : PySem.W.Frag} {C : Addr} {f : Str} {te : TE} (hm : Mono te) (T : ErrC K C) (nf : PySem.W.findIn K (.ref C) f = some none) (σ : L2.St) (H : Hp) (Q : VK)
    (q : tKeep te σ H Q) : tErrAt K f (tErr C f te) σ H Q := by
  refine hm σ H _ _ (fun v H1 h => ?_) q
  intro a dx na nd ne
  have e1 : upd (upd H1 dx (exd dx [(f, v)])) a (exo a C (some dx)) a = some (exo a C (some dx)) := upd_same
  have e2 : upd (upd H1 dx (exd dx [(f, v)])) a (exo a C (some dx)) dx = some (exd dx [(f, v)]) := by
    rw [upd_ne ne]
    exact upd_same
  refine ⟨a, C, dx, [(f, v)], v, rfl, T, nf, e1, e2, by simp [List.lookup], h _ ?_⟩
  exact (Sm.new nd).trans (Sm.new (by rw [upd_ne (Ne.symm ne)]; exact na))
section
variable {X : Cx} {x f : Str} {C : Addr} {e : Expr} {te : TE} {p pos pos2 kpos : Pos}
theorem pe_keep1 (M : ErrM X.prog X.w X.K X.mg X.base x f C) (hr : Room 2 X.A) (hg : Gl X x) (hm : Mono te) (he : PE X e te)
    (hdb : (x == ("__debug__" : Str)) = false := by decide) (hs : starEach (e :: []) X.env = (false, eval e X.env) :: starEach [] X.env := by rfl)
    (hpl : (backTo pos (starEach [] X.env)).any (·.1) = false := by rfl)
    (hb : attributeBase (.Call (.Name x p) [e] [] pos) f X.env (eval (.Call (.Name x p) [e] [] pos) X.env) = eval (.Call (.Name x p) [e] [] pos) X.env := by rfl) :
    PE X (.Attribute (.Call (.Name x p) [e] [] pos) f pos2) (tKeep te) :=
  pe_weak (pe_errAt (pe_err1 M hr hg he hdb hs hpl) hb) (keep_imp hm M.T M.nf)
theorem pe_keepK (M : ErrM X.prog X.w X.K X.mg X.base x f C) (hr : Room 2 X.A) (hg : Gl X x) (hm : Mono te) (he : PE X e te)
    (hdb : (x == ("__debug__" : Str)) = false := by decide)
    (hall : (backToKw pos (keywordEach [⟨some f, e, kpos⟩] X.env)).all (·.1.isSome) = true := by rfl)
    (hks : (backToKw pos (keywordEach [⟨some f, e, kpos⟩] X.env)).filterMap (·.1) = [f] := by rfl)
    (hpl : ((backTo pos (starEach [] X.env)).any (·.1) || (backToKw pos (keywordEach [⟨some f, e, kpos⟩] X.env)).any (·.1.isNone)) = false := by rfl)
    (hb : attributeBase (.Call (.Name x p) [] [⟨some f, e, kpos⟩] pos) f X.env (eval (.Call (.Name x p) [] [⟨some f, e, kpos⟩] pos) X.env) = eval (.Call (.Name x p) [] [⟨some f, e, kpos⟩] pos) X.env := by rfl) :
    PE X (.Attribute (.Call (.Name x p) [] [⟨some f, e, kpos⟩] pos) f pos2) (tKeep te) :=
  pe_weak (pe_errAt (pe_errK M hr hg he hdb hall hks hpl) hb) (keep_imp hm M.T M.nf)
end
section
variable {P : Program} {w : World} {K : PySem.W.Frag} {mg : Str → Option Value} {base : Heap}
/-- the nine that keep something -/
structure Nine (P : Program) (w : World) (K : PySem.W.Frag) (mg : Str → Option Value) (base : Heap) (C0 C1 C2 C3 C4 C6 C7 C8 C9 : Addr) : Prop where
  m0 : ErrM P w K mg base "InvalidCrowds" "word" C0
  m1 : ErrM P w K mg base "InvalidSaying" "word" C1
  m2 : ErrM P w K mg base "InvalidTalk" "word" C2
  m3 : ErrM P w K mg base "InvalidLine" "word" C3
  m4 : ErrM P w K mg base "InvalidText" "at" C4
  m6 : ErrM P w K mg base "Untrue" "at" C6
  m7 : ErrM P w K mg base "Refused" "at" C7
  m8 : ErrM P w K mg base "NoRow" "at" C8
  m9 : ErrM P w K mg base "NoCrowd" "crowd" C9
def spKept : Sp := fun vs H Q _ => ∃ v, vs = [v] ∧ ∀ p H', Sm H H' → H p = none → H' p = some (.lst (List.replicate 9 v)) → Q (.ref p) H'
abbrev s_kept : Stmt := topS 17
abbrev n_kept : List Str := ["_law_thing", "_law_found"]
abbrev p_kept : List Str := ["_law_thing"]
theorem sc_kept : FnScope n_kept p_kept (defScope s_kept) := ⟨rfl, rfl, rfl, by decide +kernel, rfl, by decide +kernel, by decide +kernel⟩
abbrev s_keptN : Stmt := topS 18
theorem sc_keptN : FnScope n_kept p_kept (defScope s_keptN) := ⟨rfl, rfl, rfl, by decide +kernel, rfl, by decide +kernel, by decide +kernel⟩
variable {C0 C1 C2 C3 C4 C6 C7 C8 C9 : Addr}
theorem ok_kept {f : Addr} {fd : FuncData} (F : Fun K "_law_kept" "_law_kept" s_kept f fd) (N : Nine P w K mg base C0 C1 C2 C3 C4 C6 C7 C8 C9) :
    FnOk P w K mg base CX0 3 f fd p_kept spKept := by
  refine F.ok sc_kept (fun vs H Q E h => ?_) (fun cdv A outer s H vs Q E hr h => ?_)
  · obtain ⟨v, rfl, _⟩ := h
    rfl
  · obtain ⟨v, rfl, q⟩ := h
    refine ⟨_, (pss_cons (ps_set (i := 1) sc_kept.nd rfl (Or.inl rfl) (pe_lst (pa_cons (pe_keep1 N.m0 hr (by rfl) mono_var (pv 0)) (pa_cons (pe_keep1 N.m1 hr (by rfl) mono_var (pv 0)) (pa_cons (pe_keep1 N.m2 hr (by rfl) mono_var (pv 0)) (pa_cons (pe_keep1 N.m3 hr (by rfl) mono_var (pv 0)) pa_nil))))))
      (pss_cons (ps_set (i := 1) sc_kept.nd rfl (Or.inl rfl) (pe_op op_cat (pv 1) (pe_lst (pa_cons (pe_keep1 N.m4 hr (by rfl) mono_var (pv 0)) (pa_cons (pe_keep1 N.m6 hr (by rfl) mono_var (pv 0)) (pa_cons (pe_keep1 N.m7 hr (by rfl) mono_var (pv 0)) (pa_cons (pe_keep1 N.m8 hr (by rfl) mono_var (pv 0)) pa_nil)))))))
      (pss_one (ps_ret (pe_op op_cat (pv 1) (pe_lst (pa_cons (pe_keep1 N.m9 hr (by rfl) mono_var (pv 0)) pa_nil))))))), ?_⟩
    refine ⟨_, rfl, fun H1 s1 => ⟨_, rfl, fun H2 s2 => ⟨_, rfl, fun H3 s3 => ⟨_, rfl, fun H4 s4 => ⟨(show 4 ≤ sizeLine by decide), fun p1 h1 => ?_⟩⟩⟩⟩⟩
    have e1 : upd H4 p1 (.lst [v, v, v, v]) p1 = some (.lst [v, v, v, v]) := upd_same
    have t4 := ((s1.trans s2).trans (s3.trans s4)).trans (Sm.new (o := .lst [v, v, v, v]) h1)
    refine ⟨_, rfl, _, rfl, fun H5 s5 => ⟨_, rfl, fun H6 s6 => ⟨_, rfl, fun H7 s7 => ⟨_, rfl, fun H8 s8 => ⟨(show 4 ≤ sizeLine by decide), fun p2 h2 => ?_⟩⟩⟩⟩⟩
    have t8 := ((s5.trans s6).trans (s7.trans s8)).trans (Sm.new (o := .lst [v, v, v, v]) h2)
    refine ⟨p1, p2, _, _, rfl, rfl, t8 _ _ e1, upd_same, (show 8 ≤ sizeLine by decide), fun p3 h3 => ?_⟩
    have t9 := (t4.trans t8).trans (Sm.new (o := .lst ([v, v, v, v] ++ [v, v, v, v])) h3)
    refine ⟨_, rfl, _, rfl, fun H9 s9 => ⟨(show 1 ≤ sizeLine by decide), fun p4 h4 => ?_⟩⟩
    have t10 := s9.trans (Sm.new (o := .lst [v]) h4)
    refine ⟨p3, p4, _, _, rfl, rfl, t10 _ _ upd_same, upd_same, (show 9 ≤ sizeLine by decide), fun p5 h5 => ?_⟩
    exact q p5 _ ((t9.trans t10).trans (Sm.new h5)) ((t9.trans t10).free h5) upd_same
theorem ok_keptN {f : Addr} {fd : FuncData} (F : Fun K "_law_kept_by_names" "_law_kept_by_names" s_keptN f fd) (N : Nine P w K mg base C0 C1 C2 C3 C4 C6 C7 C8 C9) :
    FnOk P w K mg base CX0 3 f fd p_kept spKept := by
  refine F.ok sc_keptN (fun vs H Q E h => ?_) (fun cdv A outer s H vs Q E hr h => ?_)
  · obtain ⟨v, rfl, _⟩ := h
    rfl
  · obtain ⟨v, rfl, q⟩ := h
    refine ⟨_, (pss_cons (ps_set (i := 1) sc_keptN.nd rfl (Or.inl rfl) (pe_lst (pa_cons (pe_keepK N.m0 hr (by rfl) mono_var (pv 0)) (pa_cons (pe_keepK N.m1 hr (by rfl) mono_var (pv 0)) (pa_cons (pe_keepK N.m2 hr (by rfl) mono_var (pv 0)) pa_nil)))))
      (pss_cons (ps_set (i := 1) sc_keptN.nd rfl (Or.inl rfl) (pe_op op_cat (pv 1) (pe_lst (pa_cons (pe_keepK N.m3 hr (by rfl) mono_var (pv 0)) (pa_cons (pe_keepK N.m4 hr (by rfl) mono_var (pv 0)) (pa_cons (pe_keepK N.m6 hr (by rfl) mono_var (pv 0)) pa_nil))))))
      (pss_one (ps_ret (pe_op op_cat (pv 1) (pe_lst (pa_cons (pe_keepK N.m7 hr (by rfl) mono_var (pv 0)) (pa_cons (pe_keepK N.m8 hr (by rfl) mono_var (pv 0)) (pa_cons (pe_keepK N.m9 hr (by rfl) mono_var (pv 0)) pa_nil))))))))), ?_⟩
    refine ⟨_, rfl, fun H1 s1 => ⟨_, rfl, fun H2 s2 => ⟨_, rfl, fun H3 s3 => ⟨(show 3 ≤ sizeLine by decide), fun p1 h1 => ?_⟩⟩⟩⟩
    have e1 : upd H3 p1 (.lst [v, v, v]) p1 = some (.lst [v, v, v]) := upd_same
    have t4 := ((s1.trans s2).trans s3).trans (Sm.new (o := .lst [v, v, v]) h1)
    refine ⟨_, rfl, _, rfl, fun H5 s5 => ⟨_, rfl, fun H6 s6 => ⟨_, rfl, fun H7 s7 => ⟨(show 3 ≤ sizeLine by decide), fun p2 h2 => ?_⟩⟩⟩⟩
    have t8 := ((s5.trans s6).trans s7).trans (Sm.new (o := .lst [v, v, v]) h2)
    refine ⟨p1, p2, _, _, rfl, rfl, t8 _ _ e1, upd_same, (show 6 ≤ sizeLine by decide), fun p3 h3 => ?_⟩
    have t9 := (t4.trans t8).trans (Sm.new (o := .lst ([v, v, v] ++ [v, v, v])) h3)
    refine ⟨_, rfl, _, rfl, fun H9 s9 => ⟨_, rfl, fun H10 s10 => ⟨_, rfl, fun H11 s11 => ⟨(show 3 ≤ sizeLine by decide), fun p4 h4 => ?_⟩⟩⟩⟩
    have t10 := ((s9.trans s10).trans s11).trans (Sm.new (o := .lst [v, v, v]) h4)
    refine ⟨p3, p4, _, _, rfl, rfl, t10 _ _ upd_same, upd_same, (show 9 ≤ sizeLine by decide), fun p5 h5 => ?_⟩
    exact q p5 _ ((t9.trans t10).trans (Sm.new h5)) ((t9.trans t10).free h5) upd_same
/-- what the names say of the classes -/
structure Sorts (K : PySem.W.Frag) (mg : Str → Option Value) (KE : Addr) : Prop where
  gK : mg "KnowError" = some (.ref KE)
  n_isi : mg "isinstance" = none
  n_ValueError : mg "ValueError" = none
  n_IndexError : mg "IndexError" = none
  n_KeyError : mg "KeyError" = none
/-- an own error, as it stands -/
structure IsE (H : Hp) (a C : Addr) (d : Option Addr) : Prop where
  ea : H a = some (exo a C d)
  ed : ∀ e, d = some e → ∃ fs, H e = some (exd e fs)
theorem lift {H H' : Hp} {d : Option Addr} (e : Sm H H') (h : ∀ e, d = some e → ∃ fs, H e = some (exd e fs)) : ∀ e, d = some e → ∃ fs, H' e = some (exd e fs) := fun b hb =>
  let ⟨fs, z⟩ := h b hb
  ⟨fs, e _ _ z⟩
theorem IsE.sm {H H' : Hp} {a C : Addr} {d : Option Addr} (h : IsE H a C d) (e : Sm H H') : IsE H' a C d := ⟨e _ _ h.ea, lift e h.ed⟩
variable {C5 KE : Addr}
def kinds (C0 C1 C2 C3 C4 C5 C6 C7 C8 C9 KE : Addr) : List Value := [.ref C0, .ref C1, .ref C2, .ref C3, .ref C4, .ref C5, .ref C6, .ref C7, .ref C8, .ref C9, .ref KE, .type "ValueError", .type "IndexError", .type "KeyError"]
def spSorts (K : PySem.W.Frag) (ks : List Value) : Sp := fun vs H Q _ => ∃ (a C : Addr) (d : Option Addr) (row : List Bool), vs = [.ref a] ∧ IsE H a C d ∧ ExcC K C ∧ row.length = 14 ∧
  ks.map (PySem.W.kitOne K (.ref C)) = row.map some ∧ ∀ p H', Sm H H' → H p = none → H' p = some (.lst (row.map V.bl)) → Q (.ref p) H'
abbrev s_sorts : Stmt := topS 19
abbrev n_sorts : List Str := ["_law_e", "_law_found"]
abbrev p_sorts : List Str := ["_law_e"]
theorem sc_sorts : FnScope n_sorts p_sorts (defScope s_sorts) := ⟨rfl, rfl, rfl, by decide +kernel, rfl, by decide +kernel, by decide +kernel⟩
theorem ok_sorts {f : Addr} {fd : FuncData} (F : Fun K "_law_sorts" "_law_sorts" s_sorts f fd) (N : Nine P w K mg base C0 C1 C2 C3 C4 C6 C7 C8 C9)
    (M5 : Err0 K mg "InvalidCommand" C5) (S : Sorts K mg KE) : FnOk P w K mg base CX0 3 f fd p_sorts (spSorts K (kinds C0 C1 C2 C3 C4 C5 C6 C7 C8 C9 KE)) := by
  refine F.ok sc_sorts (fun vs H Q E h => ?_) (fun cdv A outer s H vs Q E hr h => ?_)
  · obtain ⟨a, C, d, row, rfl, _⟩ := h
    rfl
  · obtain ⟨a, C, d, row, rfl, ⟨ea, ed⟩, T, hl, hk, q⟩ := h
    obtain ⟨b0, b1, b2, b3, b4, b5, b6, b7, b8, b9, b10, b11, b12, b13, rfl⟩ : ∃ b0 b1 b2 b3 b4 b5 b6 b7 b8 b9 b10 b11 b12 b13, row = [b0, b1, b2, b3, b4, b5, b6, b7, b8, b9, b10, b11, b12, b13] := by
      match row, hl with
      | [b0, b1, b2, b3, b4, b5, b6, b7, b8, b9, b10, b11, b12, b13], _ => exact ⟨b0, b1, b2, b3, b4, b5, b6, b7, b8, b9, b10, b11, b12, b13, rfl⟩
    simp only [kinds, List.map_cons, List.map_nil, List.cons.injEq, and_true] at hk
    obtain ⟨k0, k1, k2, k3, k4, k5, k6, k7, k8, k9, k10, k11, k12, k13⟩ := hk
    refine ⟨_, (pss_cons (ps_set (i := 1) sc_sorts.nd rfl (Or.inl rfl) (pe_lst (pa_cons (pe_callB call_errIs (by rfl) S.n_isi (by decide +kernel) (pa_cons (pv 0) (pa_cons (pe_glob (v := .ref C0) (by rfl) N.m0.gC rfl) pa_nil))) (pa_cons (pe_callB call_errIs (by rfl) S.n_isi (by decide +kernel) (pa_cons (pv 0) (pa_cons (pe_glob (v := .ref C1) (by rfl) N.m1.gC rfl) pa_nil))) (pa_cons (pe_callB call_errIs (by rfl) S.n_isi (by decide +kernel) (pa_cons (pv 0) (pa_cons (pe_glob (v := .ref C2) (by rfl) N.m2.gC rfl) pa_nil))) pa_nil)))))
      (pss_cons (ps_set (i := 1) sc_sorts.nd rfl (Or.inl rfl) (pe_op op_cat (pv 1) (pe_lst (pa_cons (pe_callB call_errIs (by rfl) S.n_isi (by decide +kernel) (pa_cons (pv 0) (pa_cons (pe_glob (v := .ref C3) (by rfl) N.m3.gC rfl) pa_nil))) (pa_cons (pe_callB call_errIs (by rfl) S.n_isi (by decide +kernel) (pa_cons (pv 0) (pa_cons (pe_glob (v := .ref C4) (by rfl) N.m4.gC rfl) pa_nil))) (pa_cons (pe_callB call_errIs (by rfl) S.n_isi (by decide +kernel) (pa_cons (pv 0) (pa_cons (pe_glob (v := .ref C5) (by rfl) M5.gC rfl) pa_nil))) pa_nil))))))
      (pss_cons (ps_set (i := 1) sc_sorts.nd rfl (Or.inl rfl) (pe_op op_cat (pv 1) (pe_lst (pa_cons (pe_callB call_errIs (by rfl) S.n_isi (by decide +kernel) (pa_cons (pv 0) (pa_cons (pe_glob (v := .ref C6) (by rfl) N.m6.gC rfl) pa_nil))) (pa_cons (pe_callB call_errIs (by rfl) S.n_isi (by decide +kernel) (pa_cons (pv 0) (pa_cons (pe_glob (v := .ref C7) (by rfl) N.m7.gC rfl) pa_nil))) (pa_cons (pe_callB call_errIs (by rfl) S.n_isi (by decide +kernel) (pa_cons (pv 0) (pa_cons (pe_glob (v := .ref C8) (by rfl) N.m8.gC rfl) pa_nil))) (pa_cons (pe_callB call_errIs (by rfl) S.n_isi (by decide +kernel) (pa_cons (pv 0) (pa_cons (pe_glob (v := .ref C9) (by rfl) N.m9.gC rfl) pa_nil))) pa_nil)))))))
      (pss_cons (ps_set (i := 1) sc_sorts.nd rfl (Or.inl rfl) (pe_op op_cat (pv 1) (pe_lst (pa_cons (pe_callB call_errIs (by rfl) S.n_isi (by decide +kernel) (pa_cons (pv 0) (pa_cons (pe_glob (v := .ref KE) (by rfl) S.gK rfl) pa_nil))) (pa_cons (pe_callB call_errIs (by rfl) S.n_isi (by decide +kernel) (pa_cons (pv 0) (pa_cons (pe_bltn (v := .ty "ValueError") (by rfl) S.n_ValueError (by decide +kernel) rfl) pa_nil))) pa_nil)))))
      (pss_one (ps_ret (pe_op op_cat (pv 1) (pe_lst (pa_cons (pe_callB call_errIs (by rfl) S.n_isi (by decide +kernel) (pa_cons (pv 0) (pa_cons (pe_bltn (v := .ty "IndexError") (by rfl) S.n_IndexError (by decide +kernel) rfl) pa_nil))) (pa_cons (pe_callB call_errIs (by rfl) S.n_isi (by decide +kernel) (pa_cons (pv 0) (pa_cons (pe_bltn (v := .ty "KeyError") (by rfl) S.n_KeyError (by decide +kernel) rfl) pa_nil))) pa_nil)))))))))), ?_⟩
    refine ⟨_, rfl, a, C, d, _, _, b0, rfl, ea, ed, T, fun u h => h, k0, ⟨_, rfl, a, C, d, _, _, b1, rfl, ea, ed, T, fun u h => h, k1, ⟨_, rfl, a, C, d, _, _, b2, rfl, ea, ed, T, fun u h => h, k2, ⟨(show 3 ≤ sizeLine by decide), fun p0 h0 => ?_⟩⟩⟩⟩
    have t0 := Sm.new (o := .lst [.bl b0, .bl b1, .bl b2]) h0
    refine ⟨_, rfl, ⟨_, rfl, a, C, d, _, _, b3, rfl, (t0 _ _ ea), (lift t0 ed), T, fun u h => h, k3, ⟨_, rfl, a, C, d, _, _, b4, rfl, (t0 _ _ ea), (lift t0 ed), T, fun u h => h, k4, ⟨_, rfl, a, C, d, _, _, b5, rfl, (t0 _ _ ea), (lift t0 ed), T, fun u h => h, k5, ⟨(show 3 ≤ sizeLine by decide), fun q1 g1 => ?_⟩⟩⟩⟩⟩
    have u1 := Sm.new (o := .lst [.bl b3, .bl b4, .bl b5]) g1
    refine ⟨p0, q1, _, _, rfl, rfl, u1 _ _ upd_same, upd_same, (show 6 ≤ sizeLine by decide), fun p1 h1 => ?_⟩
    have t1 := (t0.trans u1).trans (Sm.new (o := .lst [.bl b0, .bl b1, .bl b2, .bl b3, .bl b4, .bl b5]) h1)
    refine ⟨_, rfl, ⟨_, rfl, a, C, d, _, _, b6, rfl, (t1 _ _ ea), (lift t1 ed), T, fun u h => h, k6, ⟨_, rfl, a, C, d, _, _, b7, rfl, (t1 _ _ ea), (lift t1 ed), T, fun u h => h, k7, ⟨_, rfl, a, C, d, _, _, b8, rfl, (t1 _ _ ea), (lift t1 ed), T, fun u h => h, k8, ⟨_, rfl, a, C, d, _, _, b9, rfl, (t1 _ _ ea), (lift t1 ed), T, fun u h => h, k9, ⟨(show 4 ≤ sizeLine by decide), fun q2 g2 => ?_⟩⟩⟩⟩⟩⟩
    have u2 := Sm.new (o := .lst [.bl b6, .bl b7, .bl b8, .bl b9]) g2
    refine ⟨p1, q2, _, _, rfl, rfl, u2 _ _ upd_same, upd_same, (show 10 ≤ sizeLine by decide), fun p2 h2 => ?_⟩
    have t2 := (t1.trans u2).trans (Sm.new (o := .lst [.bl b0, .bl b1, .bl b2, .bl b3, .bl b4, .bl b5, .bl b6, .bl b7, .bl b8, .bl b9]) h2)
    refine ⟨_, rfl, ⟨_, rfl, a, C, d, _, _, b10, rfl, (t2 _ _ ea), (lift t2 ed), T, fun u h => h, k10, ⟨_, rfl, a, C, d, _, _, b11, rfl, (t2 _ _ ea), (lift t2 ed), T, fun u h => h, k11, ⟨(show 2 ≤ sizeLine by decide), fun q3 g3 => ?_⟩⟩⟩⟩
    have u3 := Sm.new (o := .lst [.bl b10, .bl b11]) g3
    refine ⟨p2, q3, _, _, rfl, rfl, u3 _ _ upd_same, upd_same, (show 12 ≤ sizeLine by decide), fun p3 h3 => ?_⟩
    have t3 := (t2.trans u3).trans (Sm.new (o := .lst [.bl b0, .bl b1, .bl b2, .bl b3, .bl b4, .bl b5, .bl b6, .bl b7, .bl b8, .bl b9, .bl b10, .bl b11]) h3)
    refine ⟨_, rfl, ⟨_, rfl, a, C, d, _, _, b12, rfl, (t3 _ _ ea), (lift t3 ed), T, fun u h => h, k12, ⟨_, rfl, a, C, d, _, _, b13, rfl, (t3 _ _ ea), (lift t3 ed), T, fun u h => h, k13, ⟨(show 2 ≤ sizeLine by decide), fun q4 g4 => ?_⟩⟩⟩⟩
    have u4 := Sm.new (o := .lst [.bl b12, .bl b13]) g4
    refine ⟨p3, q4, _, _, rfl, rfl, u4 _ _ upd_same, upd_same, (show 14 ≤ sizeLine by decide), fun p4 h4 => ?_⟩
    have t4 := (t3.trans u4).trans (Sm.new (o := .lst [.bl b0, .bl b1, .bl b2, .bl b3, .bl b4, .bl b5, .bl b6, .bl b7, .bl b8, .bl b9, .bl b10, .bl b11, .bl b12, .bl b13]) h4)
    exact q p4 _ t4 ((t3.trans u4).free h4) upd_same
end
end Z
set_option Elab.async false
set_option linter.all false
set_option maxRecDepth 100000
set_option maxHeartbeats 4000000
set_option autoImplicit false
namespace Z
open PySem PySem.Spec PyProof.Rows L2
open C8 (Cal pe_c Mak pe_mk Met pe_mt pe_mt0 pe_gc)
section
variable {P : Program} {w : World} {K : PySem.W.Frag} {mg : Str → Option Value} {base : Heap} {C0 C1 C2 C3 C4 C5 C6 C7 C8 C9 KE : Addr}
/-- repr(e) of plain data -/
def tRepr (K : PySem.W.Frag) (te : TE) : TE := tCB (fun xs H Q => ∃ v d, xs = [v] ∧ Dp K H v d ∧ Pl 40 400000 d ∧ Q (V.str d.shown) H) (tCons te tNil)
theorem pe_reprP {X : Cx} (K : PySem.W.Frag) {e : Expr} {te : TE} {p pos : Pos} (hg : X.A.guards = some []) (hu : X.A.units + 64 < cLine) (g : Gl X "repr") (hm : X.mg "repr" = none) (he : PE X e te)
    (hs : starEach (e :: []) X.env = (false, eval e X.env) :: starEach [] X.env := by rfl) (hK : X.K = K := by rfl) : PE X (.Call (.Name "repr" p) [e] [] pos) (tRepr K te) := by
  subst hK
  exact pe_callB (he := hs) (call_repr_pl hg hu) g hm (by decide +kernel) (pa_cons he pa_nil hs)
theorem eqv_bools : ∀ l : List Bool, PyData.eqvAll (l.map PyData.bool) (l.map PyData.bool) = true
  | [] => rfl
  | b :: l => by
    show PyData.eqvAll (PyData.bool b :: l.map PyData.bool) (PyData.bool b :: l.map PyData.bool) = true
    rw [PyData.eqvAll, eqv_bools l]
    simp [PyData.eqv]
theorem neq_bools (l : List Bool) : (!PyData.eqv (.list (l.map PyData.bool)) (.list (l.map PyData.bool))) = false := by
  rw [PyData.eqv, eqv_bools]
  rfl
theorem shaped_bools (l : List Bool) : SeqAt.shaped (.list (l.map PyData.bool)) = true := by
  have h1 : ∀ l : List Bool, PyData.canLayAll0 (l.map PyData.bool) = true := fun l => by
    induction l with
    | nil => simp [PyData.canLayAll0]
    | cons x l ih => simp [PyData.canLayAll0, PyData.canLay0, ih]
  have h2 : ∀ l : List Bool, PyData.depthAll (l.map PyData.bool) ≤ 1 := fun l => by
    induction l with
    | nil => simp [PyData.depthAll]
    | cons x l ih => simp [PyData.depthAll, PyData.depth] <;> omega
  unfold SeqAt.shaped
  rw [Bool.and_eq_true]
  refine ⟨by simp [PyData.canLay0, h1], decide_eq_true ?_⟩
  have := h2 l
  simp only [PyData.depth]
  omega
def due (i : Nat) : List Bool := (List.range 10).map (fun j => decide (i = j)) ++ [decide (i < 8), decide (i < 8), decide (i = 8), decide (i = 9)]
theorem due_list (i : Nat) : (List.range 10).map (fun jj => V.bl (decide (V.int (i : Nat) = V.int (0 + (jj : Nat))))) ++
    [V.bl (decide ((i : Int) < 8)), V.bl (decide ((i : Int) < 8)), V.bl (decide (V.int (i : Nat) = V.int 8)), V.bl (decide (V.int (i : Nat) = V.int 9))] = (due i).map V.bl := by
  unfold due
  rw [List.map_append, List.map_map]
  refine (congr (congrArg _ (List.map_congr_left fun jj _ => ?_)) ?_)
  · have e : (V.int (i : Nat) = V.int (0 + (jj : Nat))) ↔ i = jj := by
      rw [V.int.injEq]
      omega
    show V.bl _ = V.bl _
    rw [decide_eq_decide.mpr e]
  · have e1 : ((i : Int) < 8) ↔ i < 8 := by omega
    have e2 : (V.int (i : Nat) = V.int 8) ↔ i = 8 := by
      rw [V.int.injEq]
      omega
    have e3 : (V.int (i : Nat) = V.int 9) ↔ i = 9 := by
      rw [V.int.injEq]
      omega
    rw [decide_eq_decide.mpr e1, decide_eq_decide.mpr e2, decide_eq_decide.mpr e3]
    rfl
theorem sm_put {H H' : Hp} {D : Addr} {o : HO} (e : Sm H H') (n : H D = none) : Sm H (upd H' D o) := fun b u h => by
  rw [upd_ne (ne_of_none h n)]
  exact e b u h
theorem fre_le {H H' : Hp} : Sm (fre H H') H' := fun _ _ h => (fre_some h).2
/-- a made error, whatever else is new -/
def tMade (C : Addr) (te : TE) : TE := fun σ H Q => te σ H fun _ H1 => ∀ a d H2, Sm H1 H2 → IsE H2 a C d → Q (.ref a) H2
theorem mono_c {v : V} : Mono (tC v) := fun σ H Q Q' h q => h _ _ q
theorem made_imp {C : Addr} {f : Str} {te : TE} (hm : Mono te) (σ : L2.St) (H : Hp) (Q : VK) (q : tMade C te σ H Q) : tErr C f te σ H Q := by
  refine hm σ H _ _ (fun v H1 h => ?_) q
  intro a dx na nd ne
  refine h a (some dx) _ ((Sm.new nd).trans (Sm.new (by rw [upd_ne (Ne.symm ne)]; exact na))) ⟨upd_same, fun e he => ?_⟩
  obtain rfl : dx = e := Option.some.inj he
  exact ⟨[(f, v)], by rw [upd_ne ne]; exact upd_same⟩
theorem pe_made {X : Cx} {x f : Str} {C : Addr} {e : Expr} {te : TE} {p pos : Pos} (M : ErrM X.prog X.w X.K X.mg X.base x f C) {k : Nat} (hr : Room k X.A) (hk : 2 ≤ k) (hg : Gl X x) (hm : Mono te) (he : PE X e te)
    (hdb : (x == ("__debug__" : Str)) = false := by decide) (hs : starEach (e :: []) X.env = (false, eval e X.env) :: starEach [] X.env := by rfl)
    (hpl : (backTo pos (starEach [] X.env)).any (·.1) = false := by rfl) : PE X (.Call (.Name x p) [e] [] pos) (tMade C te) :=
  pe_weak (pe_err1 M (hr.mono hk) hg he hdb hs hpl) (made_imp hm)
def tMade0 (C : Addr) : TE := fun _ H Q => ∀ a d H2, Sm H H2 → IsE H2 a C d → Q (.ref a) H2
theorem pe_made0 {X : Cx} {x : Str} {C : Addr} {p pos : Pos} (M : Err0 X.K X.mg x C) (hg : Gl X x) (hdb : (x == ("__debug__" : Str)) = false := by decide) : PE X (.Call (.Name x p) [] [] pos) (tMade0 C) :=
  pe_weak (pe_err0 M hg hdb) fun σ H Q q a na => q a none _ (Sm.new na) ⟨upd_same, fun _ h => nomatch h⟩
structure Bt2 (mg : Str → Option Value) : Prop extends Bt mg where
  n_enum : mg "enumerate" = none
  n_repr : mg "repr" = none
abbrev s_law : Stmt := topS 20
abbrev n_law : List Str := ["_law_script", "_law_deal_here", "_law_made", "_law_number", "_law_error", "_law_due", "_law_other", "_law_turn", "_law_thing", "_law_kept_here", "_law_some", "_law_one"]
abbrev p_law : List Str := ["_law_script"]
theorem sc_law : FnScope n_law p_law (defScope s_law) := ⟨rfl, rfl, rfl, by decide +kernel, rfl, by decide +kernel, by decide +kernel⟩
def spLaw (K : PySem.W.Frag) : Sp := fun vs H Q _ => ∃ (a : Addr) (ns : List Int), vs = [.ref a] ∧ SqL K H a (ns.map V.int) ∧ ns.length ≤ 63 ∧ ∀ H', Q (.bl true) H'
/-- which class is of which kind -/
structure Kit1 (K : PySem.W.Frag) (ks : List Value) (C : Addr) (i : Nat) : Prop where
  x : ExcC K C
  k : ks.map (PySem.W.kitOne K (.ref C)) = (due i).map some
structure Kits (K : PySem.W.Frag) (C0 C1 C2 C3 C4 C5 C6 C7 C8 C9 KE : Addr) : Prop where
  y0 : Kit1 K (kinds C0 C1 C2 C3 C4 C5 C6 C7 C8 C9 KE) C0 0
  y1 : Kit1 K (kinds C0 C1 C2 C3 C4 C5 C6 C7 C8 C9 KE) C1 1
  y2 : Kit1 K (kinds C0 C1 C2 C3 C4 C5 C6 C7 C8 C9 KE) C2 2
  y3 : Kit1 K (kinds C0 C1 C2 C3 C4 C5 C6 C7 C8 C9 KE) C3 3
  y4 : Kit1 K (kinds C0 C1 C2 C3 C4 C5 C6 C7 C8 C9 KE) C4 4
  y5 : Kit1 K (kinds C0 C1 C2 C3 C4 C5 C6 C7 C8 C9 KE) C5 5
  y6 : Kit1 K (kinds C0 C1 C2 C3 C4 C5 C6 C7 C8 C9 KE) C6 6
  y7 : Kit1 K (kinds C0 C1 C2 C3 C4 C5 C6 C7 C8 C9 KE) C7 7
  y8 : Kit1 K (kinds C0 C1 C2 C3 C4 C5 C6 C7 C8 C9 KE) C8 8
  y9 : Kit1 K (kinds C0 C1 C2 C3 C4 C5 C6 C7 C8 C9 KE) C9 9
theorem ok_law {f : Addr} {fd : FuncData} (F : Fun K "law" "law" s_law f fd) (T : Bt2 mg) (N : Nine P w K mg base C0 C1 C2 C3 C4 C6 C7 C8 C9) (M5 : Err0 K mg "InvalidCommand" C5)
    (Cdeal : Cal P w K mg base 1 "_law_deal" (spDeal K) []) (Cany : Cal P w K mg base 8 "_law_any" (spAny K 5) []) (Ck : Cal P w K mg base 3 "_law_kept" spKept [])
    (CkN : Cal P w K mg base 3 "_law_kept_by_names" spKept []) (Cs : Cal P w K mg base 3 "_law_sorts" (spSorts K (kinds C0 C1 C2 C3 C4 C5 C6 C7 C8 C9 KE)) [])
    (Y : Kits K C0 C1 C2 C3 C4 C5 C6 C7 C8 C9 KE) :
    FnG P w K mg base 9 f fd p_law (spLaw K) := by
  refine F.okG sc_law (fun vs H Q E h => ?_) (fun cdv A outer s H vs Q E gd hr h => ?_)
  · obtain ⟨a, ns, rfl, _⟩ := h
    rfl
  · obtain ⟨a, ns, rfl, hS, hlen, q⟩ := h
    have hu64 : A.units + 3 + 64 < cLine := by
      have := hr.un
      show A.units + 3 + 64 < _
      have e : (A.deeper (envOfC "law" (defScope s_law) s.heap.objs.size f cdv)).units = A.units + 3 := rfl
      omega
    refine ⟨_, (pss_cons (ps_set (i := 1) sc_law.nd rfl (Or.inl rfl) (pe_c Cdeal hr (by decide) (by rfl) (pa_cons (pv 0) (pa_cons pe_int pa_nil))))
      (pss_cons (ps_set (i := 2) sc_law.nd rfl (Or.inl rfl) (pe_lst (pa_cons (pe_made N.m0 hr (by decide) (by rfl) mono_c pe_int) (pa_cons (pe_made N.m1 hr (by decide) (by rfl) mono_c pe_int) (pa_cons (pe_made N.m2 hr (by decide) (by rfl) mono_c pe_int) (pa_cons (pe_made N.m3 hr (by decide) (by rfl) mono_c pe_int) (pa_cons (pe_made N.m4 hr (by decide) (by rfl) mono_c pe_int) (pa_cons (pe_made0 M5 (by rfl)) pa_nil))))))))
      (pss_cons (ps_set (i := 2) sc_law.nd rfl (Or.inl rfl) (pe_op op_cat (pv 2) (pe_lst (pa_cons (pe_made N.m6 hr (by decide) (by rfl) mono_c pe_int) (pa_cons (pe_made N.m7 hr (by decide) (by rfl) mono_c pe_int) (pa_cons (pe_made N.m8 hr (by decide) (by rfl) mono_c pe_int) (pa_cons (pe_made N.m9 hr (by decide) (by rfl) mono_c pe_int) pa_nil)))))))
      (pss_cons (ps_for PassesOwn.never rfl (pi_enum (by rfl) T.n_enum (pa_cons (pv 2) pa_nil)) (pg_tup rfl (pgs_cons (pg_name (i := 3) sc_law.nd rfl (Or.inr rfl)) (pgs_cons (pg_name (i := 4) sc_law.nd rfl (Or.inl rfl)) pgs_nil)))
        (pss_cons (ps_set (i := 5) sc_law.nd rfl (Or.inl rfl) (pe_op op_cat (pe_lc (own := [("_law_other", 6)]) (tt := tYes) (by rfl) sc_law.nd (pi_range1 rfl T.n_range (pa_cons pe_int pa_nil)) (blkOk_by (N := n_law) (sc := defScope s_law) (own := [("_law_other", 6)]) (by decide +kernel)) (fun _ _ _ _ _ => pg_name (i := 6) sc_law.nd rfl (Or.inl rfl)) (fun _ _ _ _ _ => pts_nil) (fun _ _ _ _ _ => (pe_cmpR op_eq (pv 3) (pv 6) (nomark _)))) (pe_lst (pa_cons (pe_cmpR op_lt (pv 3) pe_int (nomark _)) (pa_cons (pe_cmpR op_lt (pv 3) pe_int (nomark _)) (pa_cons (pe_cmpR op_eq (pv 3) pe_int (nomark _)) (pa_cons (pe_cmpR op_eq (pv 3) pe_int (nomark _)) pa_nil)))))))
        (pss_one (ps_if (pt_cmpR (op_neD hu64) (pe_c Cs hr (by decide) (by rfl) (pa_cons (pv 4) pa_nil)) (pv 5) (nomark _))
          (pss_one (ps_ret pe_bl))
          pss_nil))))
      (pss_cons (ps_for PassesOwn.never rfl (pi_range1 rfl T.n_range (pa_cons pe_int pa_nil)) (pg_name (i := 7) sc_law.nd rfl (Or.inl rfl))
        (pss_cons (ps_set (i := 8) sc_law.nd rfl (Or.inr rfl) (pe_c Cany hr (by decide) (by rfl) (pa_cons (pv 1) (pa_cons pe_int pa_nil))))
        (pss_cons (ps_if (pt_cmpR (op_neD hu64) (pe_lc (own := [("_law_kept_here", 9)]) (by rfl) sc_law.nd (pi_list (pe_op op_cat (pe_c Ck hr (by decide) (by rfl) (pa_cons (pv 8) pa_nil)) (pe_c CkN hr (by decide) (by rfl) (pa_cons (pv 8) pa_nil)))) (blkOk_by (N := n_law) (sc := defScope s_law) (own := [("_law_kept_here", 9)]) (by decide +kernel)) (fun _ _ _ _ _ => pg_name (i := 9) sc_law.nd rfl (Or.inl rfl)) (fun _ _ _ _ _ => (pts_one (pt_cmpR op_ne (pe_reprP K gd hu64 (by rfl) T.n_repr (pv 9)) (pe_reprP K gd hu64 (by rfl) T.n_repr (pv 8)) (nomark _)))) (fun _ _ _ _ _ => pe_int)) (pe_lst pa_nil) (nomark _))
          (pss_one (ps_ret pe_bl))
          pss_nil)
        (pss_cons (ps_set (i := 10) sc_law.nd rfl (Or.inr rfl) (pe_lst (pa_cons (pv 8) pa_nil)))
        (pss_cons (ps_set (i := 9) sc_law.nd rfl (Or.inl rfl) (pe_c Ck hr (by decide) (by rfl) (pa_cons (pv 10) pa_nil)))
        (pss_cons (ps_expr (pe_bm PySem.F.plainAttrs_list PySem.F.slot_list_append PySem.F.type_list_append mt_append (pv 10) (pa_cons pe_int pa_nil)))
        (pss_one (ps_if (pt_cmpR (op_neD hu64) (pe_lc (own := [("_law_one", 11)]) (by rfl) sc_law.nd (pi_list (pv 9)) (blkOk_by (N := n_law) (sc := defScope s_law) (own := [("_law_one", 11)]) (by decide +kernel)) (fun _ _ _ _ _ => pg_name (i := 11) sc_law.nd rfl (Or.inl rfl)) (fun _ _ _ _ _ => (pts_one (pt_cmpR op_ne (pe_reprP K gd hu64 (by rfl) T.n_repr (pv 11)) (pe_reprP K gd hu64 (by rfl) T.n_repr (pv 10)) (nomark _)))) (fun _ _ _ _ _ => pe_int)) (pe_lst pa_nil) (nomark _))
          (pss_one (ps_ret pe_bl))
          pss_nil))))))))
      (pss_one (ps_ret pe_bl))))))), ?_⟩
    refine ⟨_, rfl, a, ns, 0, rfl, hS, hlen, fun d c H1 s1 n1 n2 hD1 => ?_⟩
    refine fun a0 d0 H2 s2 i0 => fun a1 d1 H3 s3 i1 => fun a2 d2 H4 s4 i2 => fun a3 d3 H5 s5 i3 => fun a4 d4 H6 s6 i4 => fun a5 d5 H7 s7 i5 => ⟨(show 6 ≤ sizeLine by decide), fun p1 h1 => ?_⟩
    have t1 := Sm.new (o := .lst [.ref a0, .ref a1, .ref a2, .ref a3, .ref a4, .ref a5]) h1
    refine ⟨_, rfl, fun a6 d6 H8 s8 i6 => fun a7 d7 H9 s9 i7 => fun a8 d8 H10 s10 i8 => fun a9 d9 H11 s11 i9 => ⟨(show 4 ≤ sizeLine by decide), fun p2 h2 => ?_⟩⟩
    have t2 := Sm.new (o := .lst [.ref a6, .ref a7, .ref a8, .ref a9]) h2
    have t3 := ((s8.trans s9).trans (s10.trans s11)).trans t2
    refine ⟨p1, p2, _, _, rfl, rfl, t3 _ _ upd_same, upd_same, (show 10 ≤ sizeLine by decide), fun p3 h3 => ?_⟩
    have t4 := Sm.new (o := .lst ([.ref a0, .ref a1, .ref a2, .ref a3, .ref a4, .ref a5] ++ [.ref a6, .ref a7, .ref a8, .ref a9])) h3
    have t7 := t1.trans (t3.trans t4)
    have u11 := t2.trans t4
    have D0 := hD1.sm ((((s2.trans s3).trans (s4.trans s5)).trans (s6.trans s7)).trans t7)
    have e0 := i0.sm ((s3.trans (s4.trans (s5.trans (s6.trans s7)))).trans t7)
    have e1 := i1.sm ((s4.trans (s5.trans (s6.trans s7))).trans t7)
    have e2 := i2.sm ((s5.trans (s6.trans s7)).trans t7)
    have e3 := i3.sm ((s6.trans s7).trans t7)
    have e4 := i4.sm (s7.trans t7)
    have e5 := i5.sm t7
    have e6 := i6.sm ((s9.trans (s10.trans s11)).trans u11)
    have e7 := i7.sm ((s10.trans s11).trans u11)
    have e8 := i8.sm (s11.trans u11)
    have e9 := i9.sm u11
    have l3 : upd (upd H11 p2 (.lst [.ref a6, .ref a7, .ref a8, .ref a9])) p3 (.lst ([.ref a0, .ref a1, .ref a2, .ref a3, .ref a4, .ref a5] ++ [.ref a6, .ref a7, .ref a8, .ref a9])) p3 =
      some (.lst ([.ref a0, .ref a1, .ref a2, .ref a3, .ref a4, .ref a5] ++ [.ref a6, .ref a7, .ref a8, .ref a9])) := upd_same
    generalize upd (upd H11 p2 (.lst [.ref a6, .ref a7, .ref a8, .ref a9])) p3 (.lst ([.ref a0, .ref a1, .ref a2, .ref a3, .ref a4, .ref a5] ++ [.ref a6, .ref a7, .ref a8, .ref a9])) = H12 at D0 e0 e1 e2 e3 e4 e5 e6 e7 e8 e9 l3 ⊢
    clear t4 t7 u11 t3 t2 t1
    have all : ∀ i, i < 10 → ∃ ai Ci di, ([.ref a0, .ref a1, .ref a2, .ref a3, .ref a4, .ref a5] ++ [.ref a6, .ref a7, .ref a8, .ref a9] : List V)[i]? = some (.ref ai) ∧ IsE H12 ai Ci di ∧
        Kit1 K (kinds C0 C1 C2 C3 C4 C5 C6 C7 C8 C9 KE) Ci i := fun i hi =>
      match i, hi with
      | 0, _ => ⟨a0, C0, d0, rfl, e0, Y.y0⟩
      | 1, _ => ⟨a1, C1, d1, rfl, e1, Y.y1⟩
      | 2, _ => ⟨a2, C2, d2, rfl, e2, Y.y2⟩
      | 3, _ => ⟨a3, C3, d3, rfl, e3, Y.y3⟩
      | 4, _ => ⟨a4, C4, d4, rfl, e4, Y.y4⟩
      | 5, _ => ⟨a5, C5, d5, rfl, e5, Y.y5⟩
      | 6, _ => ⟨a6, C6, d6, rfl, e6, Y.y6⟩
      | 7, _ => ⟨a7, C7, d7, rfl, e7, Y.y7⟩
      | 8, _ => ⟨a8, C8, d8, rfl, e8, Y.y8⟩
      | 9, _ => ⟨a9, C9, d9, rfl, e9, Y.y9⟩
    have lm : ([.ref a0, .ref a1, .ref a2, .ref a3, .ref a4, .ref a5] ++ [.ref a6, .ref a7, .ref a8, .ref a9] : List V).length = 10 := rfl
    generalize ([.ref a0, .ref a1, .ref a2, .ref a3, .ref a4, .ref a5] ++ [.ref a6, .ref a7, .ref a8, .ref a9] : List V) = made at l3 all lm
    refine ⟨_, rfl, p3, made, rfl, .inl (.inl l3), ?_⟩
    refine for_it (walk_enum (K := K) (a := p3) (xs := made)) (fun i σ H' => (∃ x3 x4 x5, σ = [some (.ref a), some (.ref d), some (.ref p3), x3, x4, x5, none, none, none, none, none, none]) ∧ Sm H12 H') ?_ ?_ ?_ ?_
    · exact ⟨⟨none, none, none, rfl⟩, Sm.refl _⟩
    · exact fun i σ H' _ h => .inl (.inl (h.2 _ _ l3))
    · rintro i x σ H' H'' hi ⟨⟨x3, x4, x5, rfl⟩, sm⟩ ⟨T', x', y', rfl, hT, rfl, ex, ey⟩
      cases ex
      obtain ⟨ai, Ci, di, ea, ie, ki⟩ := all i (by omega)
      have ea' := ey.symm.trans ea
      cases ea'
      have smT := sm.trans (Sm.new (o := .tup [.int (i : Nat), .ref ai]) hT)
      refine ⟨T', _, rfl, .inl (.inl upd_same), rfl, .int (i : Nat), [.ref ai], rfl, .ref ai, [], rfl, rfl, ?_⟩
      refine ⟨10, rfl, by decide, by decide, fun D hD => ?_⟩
      have hD12 : H12 D = none := smT.free hD
      refine lc_range (lo := 0) (n := 10) (fun j H2 => Sm H12 H2 ∧ H2 D = some (.lst ((List.range j).map fun jj => V.bl (decide (V.int (i : Nat) = V.int (0 + (jj : Nat))))))) ?_ ?_ ?_
      · exact ⟨smT.trans (Sm.new hD), upd_same⟩
      · rintro j H2 hj ⟨sj, ej⟩
        refine ⟨rfl, _, rfl, _, rfl, rfl, _, ej, ?_, sm_put sj hD12, ?_⟩
        · rw [List.length_map, List.length_range]
          exact small1000 (by omega)
        · rw [upd_same, List.range_succ, List.map_append]
          rfl
      · rintro H2 ⟨sj, ej⟩
        refine ⟨_, rfl, _, _, rfl, rfl, _, rfl, _, _, rfl, rfl, _, rfl, rfl, _, rfl, rfl, ⟨(show 4 ≤ sizeLine by decide), fun p4 h4 => ?_⟩⟩
        refine ⟨D, p4, _, _, rfl, rfl, Sm.new h4 _ _ ej, upd_same, (show 10 + 4 ≤ sizeLine by decide), fun p5 h5 => ?_⟩
        rw [due_list i]
        have s5 := (sj.trans (Sm.new (o := .lst [V.bl (decide ((i : Int) < 8)), V.bl (decide ((i : Int) < 8)), V.bl (decide (V.int (i : Nat) = V.int 8)), V.bl (decide (V.int (i : Nat) = V.int 9))]) h4)).trans (Sm.new (o := .lst ((due i).map V.bl)) h5)
        refine ⟨_, rfl, ai, Ci, di, due i, rfl, ie.sm s5, ki.x, rfl, ki.k, fun p6 H7 s7 n7 e7 => ⟨_, rfl, .list ((due i).map .bool), .list ((due i).map .bool), .lst (.inl (.inl e7)) (dpAll_bools _),
          .lst (.inl (.inl (s7 _ _ upd_same))) (dpAll_bools _), shaped_bools _, shaped_bools _, _, rfl, ite0 (neq_bools _) ⟨⟨_, _, _, rfl⟩, s5.trans s7⟩⟩⟩
    · rintro σ H' ⟨⟨x3, x4, x5, rfl⟩, sm⟩
      have DH' := D0.sm sm
      refine ⟨8, rfl, by decide, by decide, for_range (lo := 0) (n := 8) (fun i σ H2 => (∃ x7 x8 x9 x10, σ = [some (.ref a), some (.ref d), some (.ref p3), x3, x4, x5, none, x7, x8, x9, x10, none]) ∧ DealAt H2 d c) ?_ ?_ ?_⟩
      · exact ⟨⟨none, none, none, none, rfl⟩, DH'⟩
      · rintro i σ H2 hi ⟨⟨x7, x8, x9, x10, rfl⟩, D2⟩
        refine ⟨_, rfl, d, c, 4, rfl, by decide, D2, fun v dd H3 dv av D3 e3 => ?_⟩
        have pl := av.pl.mono (by decide : 4 + 1 ≤ 40) (by decide : anyW 4 ≤ 400000)
        have dv3 : Dp K H3 v dd := dp_mono fre_le dv
        refine ⟨_, rfl, v, rfl, fun q1 H4 s4 n4 e4 => ⟨_, rfl, v, rfl, fun q2 H5 s5 n5 e5 => ⟨q1, q2, _, _, rfl, rfl, s5 _ _ e4, e5, (show 9 + 9 ≤ sizeLine by decide), fun q3 h3 => ⟨q3, rfl, ⟨_, .inl (.inl upd_same)⟩, fun D hD => ?_⟩⟩⟩⟩
        have t5 := (s4.trans s5).trans (Sm.new (o := .lst (List.replicate 9 v ++ List.replicate 9 v)) h3)
        have l5 : upd H5 q3 (.lst (List.replicate 9 v ++ List.replicate 9 v)) q3 = some (.lst (List.replicate 9 v ++ List.replicate 9 v)) := upd_same
        generalize upd H5 q3 (.lst (List.replicate 9 v ++ List.replicate 9 v)) = H6 at t5 hD l5 ⊢
        refine lc_list (K := K) (a := q3) (xs := List.replicate 9 v ++ List.replicate 9 v) (fun j H7 => Sm H6 H7 ∧ H7 D = some (.lst [])) ?_ ?_ ?_ ?_
        · exact ⟨Sm.new hD, upd_same⟩
        · exact fun j H7 _ h => .inl (.inl (h.1 _ _ l5))
        · rintro j x H7 hx ⟨s7, e7⟩
          obtain rfl : x = v := by
            rcases List.mem_append.mp (List.mem_of_getElem? hx) with h | h <;> exact List.eq_of_mem_replicate h
          have dv7 : Dp K H7 x dd := dp_mono (t5.trans s7) dv3
          refine ⟨rfl, _, rfl, x, dd, rfl, dv7, pl, _, rfl, x, dd, rfl, dv7, pl, rfl, _, rfl, ite0 (by simp) ⟨s7, e7⟩⟩
        · rintro H7 ⟨s7, e7⟩
          refine ⟨(show 0 ≤ sizeLine by decide), fun q4 h4 => ⟨.list [], .list [], .lst (.inl (.inl (Sm.new h4 _ _ e7))) .nil, .lst (.inl (.inl upd_same)) .nil, shaped_nil, shaped_nil, _, rfl, ite0 (neq_nil0 rfl) ?_⟩⟩
          have t7 := (t5.trans s7).trans (Sm.new (o := .lst []) h4)
          generalize upd H7 q4 (.lst []) = H8 at t7 ⊢
          refine ⟨_, rfl, (show 1 ≤ sizeLine by decide), fun q5 h5 => ?_⟩
          refine ⟨_, rfl, .ref q5, rfl, fun q6 H9 s9 n9 e9 => ?_⟩
          have l9 : H9 q5 = some (.lst [v]) := s9 _ _ upd_same
          have q65 : q6 ≠ q5 := fun z => by
            rw [z, upd_same] at n9
            cases n9
          have h35 : H3 q5 = none := t7.free h5
          have t9 : Sm H3 (upd H9 q5 (.lst ([v] ++ [.int 7]))) := sm_put ((t7.trans (Sm.new h5)).trans s9) h35
          refine ⟨_, rfl, .inl ⟨rfl, _, .inl (.inl l9)⟩, q5, _, _, rfl, rfl, l9, small1000 (by show 1 ≤ 1000; decide), ?_⟩
          have m5 : upd H9 q5 (.lst ([v] ++ [.int 7])) q5 = some (.lst [v, .int 7]) := upd_same
          have m6 : upd H9 q5 (.lst ([v] ++ [.int 7])) q6 = some (.lst (List.replicate 9 (.ref q5))) := by
            rw [upd_ne q65]
            exact e9
          generalize upd H9 q5 (.lst ([v] ++ [.int 7])) = H10 at t9 m5 m6 ⊢
          have pl2 : Pl 40 400000 (.list [dd, .int 7]) := by
            refine (Pl.list (n := 5) (W := anyW 4) fun e he => ?_).mono (by decide) (by show (anyW 4 + 1) * 2 ≤ 400000; decide)
            rcases List.mem_cons.mp he with h | h
            · rw [h]
              exact av.pl
            · rw [List.mem_singleton.mp h]
              exact pl_i7.mono (by decide) (by decide)
          refine ⟨_, rfl, q6, rfl, ⟨_, .inl (.inl m6)⟩, fun D' hD' => ?_⟩
          refine lc_list (K := K) (a := q6) (xs := List.replicate 9 (.ref q5)) (fun j H11 => Sm H10 H11 ∧ H11 D' = some (.lst [])) ?_ ?_ ?_ ?_
          · exact ⟨Sm.new hD', upd_same⟩
          · exact fun j H11 _ h => .inl (.inl (h.1 _ _ m6))
          · rintro j x H11 hx ⟨s11, e11⟩
            obtain rfl : x = .ref q5 := List.eq_of_mem_replicate (List.mem_of_getElem? hx)
            have dq : Dp K H11 (.ref q5) (.list [dd, .int 7]) := .lst (.inl (.inl (s11 _ _ m5))) (.cons (dp_mono (t9.trans s11) dv3) (.cons (.int 7) .nil))
            refine ⟨rfl, _, rfl, _, _, rfl, dq, pl2, _, rfl, _, _, rfl, dq, pl2, rfl, _, rfl, ite0 (by simp) ⟨s11, e11⟩⟩
          · rintro H11 ⟨s11, e11⟩
            refine ⟨(show 0 ≤ sizeLine by decide), fun q7 h7 => ⟨.list [], .list [], .lst (.inl (.inl (Sm.new h7 _ _ e11))) .nil, .lst (.inl (.inl upd_same)) .nil, shaped_nil, shaped_nil, _, rfl, ite0 (neq_nil0 rfl) ?_⟩⟩
            exact ⟨⟨_, _, _, _, rfl⟩, D3.sm ((t9.trans s11).trans (Sm.new h7))⟩
      · rintro σ H2 ⟨⟨x7, x8, x9, x10, rfl⟩, D2⟩
        exact q _
end
end Z
set_option Elab.async false
set_option linter.all false
set_option maxRecDepth 100000
set_option maxHeartbeats 4000000
set_option autoImplicit false
namespace Z
open PySem PySem.Spec PyProof.Rows L2
open C8 (Cal pe_c Mak pe_mk Met pe_mt pe_mt0 pe_gc)
def clsBody : Stmt → List Stmt
  | .ClassDef _ _ _ b _ _ _ _ _ _ _ => b
  | _ => []
def inC (s : Stmt) (i : Nat) : Stmt := (clsBody s).getD i (.Pass ⟨0, 0, 0, 0⟩)
abbrev s_i0 : Stmt := inC (topS 2) 0
abbrev s_i1 : Stmt := inC (topS 3) 0
abbrev s_i2 : Stmt := inC (topS 4) 0
abbrev s_i3 : Stmt := inC (topS 5) 0
abbrev s_i4 : Stmt := inC (topS 6) 0
abbrev s_i6 : Stmt := inC (topS 8) 0
abbrev s_i7 : Stmt := inC (topS 9) 0
abbrev s_i8 : Stmt := inC (topS 10) 0
abbrev s_i9 : Stmt := inC (topS 11) 0
section
variable {P : Program} {w : World} {K : PySem.W.Frag} {mg : Str → Option Value} {base : Heap} {C : Addr} {f : Addr} {fd : FuncData}
theorem sc_i0 : FnScope ["self", "word"] ["self", "word"] (defScope s_i0) := ⟨rfl, rfl, rfl, by decide +kernel, rfl, by decide +kernel, by decide +kernel⟩
theorem ok_i0 (F : Fun K "__init__" "InvalidCrowds.__init__" s_i0 f fd) (T : ErrC K C) (nf : PySem.W.findIn K (.ref C) "word" = some none) : FnOk P w K mg base CX0 1 f fd ["self", "word"] (spErrInit C "word") := by
  refine F.ok sc_i0 (fun vs H Q E h => ?_) (fun cdv A outer s H vs Q E hr h => ?_)
  · obtain ⟨a, v, rfl, _⟩ := h
    rfl
  · obtain ⟨a, v, rfl, ea, q⟩ := h
    exact ⟨_, pss_one (ps_errSet (pv 0) (pv 1)), ⟨_, rfl, _, rfl, a, C, rfl, T, nf, ea, fun dx hd ne => q dx hd ne⟩⟩
theorem bk_i0 (F : Fun K "__init__" "InvalidCrowds.__init__" s_i0 f fd) (s : Shared) (u v : Value) : BindsTo s fd ⟨[u], [("word", v)]⟩ [("self", u), ("word", v)] := by
  obtain ⟨oc, od, kV, doc, pm, an, cdv, ct, osl, rfl, lk, hcd⟩ := F.ex
  exact .of_eq rfl
theorem sc_i1 : FnScope ["self", "word"] ["self", "word"] (defScope s_i1) := ⟨rfl, rfl, rfl, by decide +kernel, rfl, by decide +kernel, by decide +kernel⟩
theorem ok_i1 (F : Fun K "__init__" "InvalidSaying.__init__" s_i1 f fd) (T : ErrC K C) (nf : PySem.W.findIn K (.ref C) "word" = some none) : FnOk P w K mg base CX0 1 f fd ["self", "word"] (spErrInit C "word") := by
  refine F.ok sc_i1 (fun vs H Q E h => ?_) (fun cdv A outer s H vs Q E hr h => ?_)
  · obtain ⟨a, v, rfl, _⟩ := h
    rfl
  · obtain ⟨a, v, rfl, ea, q⟩ := h
    exact ⟨_, pss_one (ps_errSet (pv 0) (pv 1)), ⟨_, rfl, _, rfl, a, C, rfl, T, nf, ea, fun dx hd ne => q dx hd ne⟩⟩
theorem bk_i1 (F : Fun K "__init__" "InvalidSaying.__init__" s_i1 f fd) (s : Shared) (u v : Value) : BindsTo s fd ⟨[u], [("word", v)]⟩ [("self", u), ("word", v)] := by
  obtain ⟨oc, od, kV, doc, pm, an, cdv, ct, osl, rfl, lk, hcd⟩ := F.ex
  exact .of_eq rfl
theorem sc_i2 : FnScope ["self", "word"] ["self", "word"] (defScope s_i2) := ⟨rfl, rfl, rfl, by decide +kernel, rfl, by decide +kernel, by decide +kernel⟩
theorem ok_i2 (F : Fun K "__init__" "InvalidTalk.__init__" s_i2 f fd) (T : ErrC K C) (nf : PySem.W.findIn K (.ref C) "word" = some none) : FnOk P w K mg base CX0 1 f fd ["self", "word"] (spErrInit C "word") := by
  refine F.ok sc_i2 (fun vs H Q E h => ?_) (fun cdv A outer s H vs Q E hr h => ?_)
  · obtain ⟨a, v, rfl, _⟩ := h
    rfl
  · obtain ⟨a, v, rfl, ea, q⟩ := h
    exact ⟨_, pss_one (ps_errSet (pv 0) (pv 1)), ⟨_, rfl, _, rfl, a, C, rfl, T, nf, ea, fun dx hd ne => q dx hd ne⟩⟩
theorem bk_i2 (F : Fun K "__init__" "InvalidTalk.__init__" s_i2 f fd) (s : Shared) (u v : Value) : BindsTo s fd ⟨[u], [("word", v)]⟩ [("self", u), ("word", v)] := by
  obtain ⟨oc, od, kV, doc, pm, an, cdv, ct, osl, rfl, lk, hcd⟩ := F.ex
  exact .of_eq rfl
theorem sc_i3 : FnScope ["self", "word"] ["self", "word"] (defScope s_i3) := ⟨rfl, rfl, rfl, by decide +kernel, rfl, by decide +kernel, by decide +kernel⟩
theorem ok_i3 (F : Fun K "__init__" "InvalidLine.__init__" s_i3 f fd) (T : ErrC K C) (nf : PySem.W.findIn K (.ref C) "word" = some none) : FnOk P w K mg base CX0 1 f fd ["self", "word"] (spErrInit C "word") := by
  refine F.ok sc_i3 (fun vs H Q E h => ?_) (fun cdv A outer s H vs Q E hr h => ?_)
  · obtain ⟨a, v, rfl, _⟩ := h
    rfl
  · obtain ⟨a, v, rfl, ea, q⟩ := h
    exact ⟨_, pss_one (ps_errSet (pv 0) (pv 1)), ⟨_, rfl, _, rfl, a, C, rfl, T, nf, ea, fun dx hd ne => q dx hd ne⟩⟩
theorem bk_i3 (F : Fun K "__init__" "InvalidLine.__init__" s_i3 f fd) (s : Shared) (u v : Value) : BindsTo s fd ⟨[u], [("word", v)]⟩ [("self", u), ("word", v)] := by
  obtain ⟨oc, od, kV, doc, pm, an, cdv, ct, osl, rfl, lk, hcd⟩ := F.ex
  exact .of_eq rfl
theorem sc_i4 : FnScope ["self", "at"] ["self", "at"] (defScope s_i4) := ⟨rfl, rfl, rfl, by decide +kernel, rfl, by decide +kernel, by decide +kernel⟩
theorem ok_i4 (F : Fun K "__init__" "InvalidText.__init__" s_i4 f fd) (T : ErrC K C) (nf : PySem.W.findIn K (.ref C) "at" = some none) : FnOk P w K mg base CX0 1 f fd ["self", "at"] (spErrInit C "at") := by
  refine F.ok sc_i4 (fun vs H Q E h => ?_) (fun cdv A outer s H vs Q E hr h => ?_)
  · obtain ⟨a, v, rfl, _⟩ := h
    rfl
  · obtain ⟨a, v, rfl, ea, q⟩ := h
    exact ⟨_, pss_one (ps_errSet (pv 0) (pv 1)), ⟨_, rfl, _, rfl, a, C, rfl, T, nf, ea, fun dx hd ne => q dx hd ne⟩⟩
theorem bk_i4 (F : Fun K "__init__" "InvalidText.__init__" s_i4 f fd) (s : Shared) (u v : Value) : BindsTo s fd ⟨[u], [("at", v)]⟩ [("self", u), ("at", v)] := by
  obtain ⟨oc, od, kV, doc, pm, an, cdv, ct, osl, rfl, lk, hcd⟩ := F.ex
  exact .of_eq rfl
theorem sc_i6 : FnScope ["self", "at"] ["self", "at"] (defScope s_i6) := ⟨rfl, rfl, rfl, by decide +kernel, rfl, by decide +kernel, by decide +kernel⟩
theorem ok_i6 (F : Fun K "__init__" "Untrue.__init__" s_i6 f fd) (T : ErrC K C) (nf : PySem.W.findIn K (.ref C) "at" = some none) : FnOk P w K mg base CX0 1 f fd ["self", "at"] (spErrInit C "at") := by
  refine F.ok sc_i6 (fun vs H Q E h => ?_) (fun cdv A outer s H vs Q E hr h => ?_)
  · obtain ⟨a, v, rfl, _⟩ := h
    rfl
  · obtain ⟨a, v, rfl, ea, q⟩ := h
    exact ⟨_, pss_one (ps_errSet (pv 0) (pv 1)), ⟨_, rfl, _, rfl, a, C, rfl, T, nf, ea, fun dx hd ne => q dx hd ne⟩⟩
theorem bk_i6 (F : Fun K "__init__" "Untrue.__init__" s_i6 f fd) (s : Shared) (u v : Value) : BindsTo s fd ⟨[u], [("at", v)]⟩ [("self", u), ("at", v)] := by
  obtain ⟨oc, od, kV, doc, pm, an, cdv, ct, osl, rfl, lk, hcd⟩ := F.ex
  exact .of_eq rfl
theorem sc_i7 : FnScope ["self", "at"] ["self", "at"] (defScope s_i7) := ⟨rfl, rfl, rfl, by decide +kernel, rfl, by decide +kernel, by decide +kernel⟩
theorem ok_i7 (F : Fun K "__init__" "Refused.__init__" s_i7 f fd) (T : ErrC K C) (nf : PySem.W.findIn K (.ref C) "at" = some none) : FnOk P w K mg base CX0 1 f fd ["self", "at"] (spErrInit C "at") := by
  refine F.ok sc_i7 (fun vs H Q E h => ?_) (fun cdv A outer s H vs Q E hr h => ?_)
  · obtain ⟨a, v, rfl, _⟩ := h
    rfl
  · obtain ⟨a, v, rfl, ea, q⟩ := h
    exact ⟨_, pss_one (ps_errSet (pv 0) (pv 1)), ⟨_, rfl, _, rfl, a, C, rfl, T, nf, ea, fun dx hd ne => q dx hd ne⟩⟩
theorem bk_i7 (F : Fun K "__init__" "Refused.__init__" s_i7 f fd) (s : Shared) (u v : Value) : BindsTo s fd ⟨[u], [("at", v)]⟩ [("self", u), ("at", v)] := by
  obtain ⟨oc, od, kV, doc, pm, an, cdv, ct, osl, rfl, lk, hcd⟩ := F.ex
  exact .of_eq rfl
theorem sc_i8 : FnScope ["self", "at"] ["self", "at"] (defScope s_i8) := ⟨rfl, rfl, rfl, by decide +kernel, rfl, by decide +kernel, by decide +kernel⟩
theorem ok_i8 (F : Fun K "__init__" "NoRow.__init__" s_i8 f fd) (T : ErrC K C) (nf : PySem.W.findIn K (.ref C) "at" = some none) : FnOk P w K mg base CX0 1 f fd ["self", "at"] (spErrInit C "at") := by
  refine F.ok sc_i8 (fun vs H Q E h => ?_) (fun cdv A outer s H vs Q E hr h => ?_)
  · obtain ⟨a, v, rfl, _⟩ := h
    rfl
  · obtain ⟨a, v, rfl, ea, q⟩ := h
    exact ⟨_, pss_one (ps_errSet (pv 0) (pv 1)), ⟨_, rfl, _, rfl, a, C, rfl, T, nf, ea, fun dx hd ne => q dx hd ne⟩⟩
theorem bk_i8 (F : Fun K "__init__" "NoRow.__init__" s_i8 f fd) (s : Shared) (u v : Value) : BindsTo s fd ⟨[u], [("at", v)]⟩ [("self", u), ("at", v)] := by
  obtain ⟨oc, od, kV, doc, pm, an, cdv, ct, osl, rfl, lk, hcd⟩ := F.ex
  exact .of_eq rfl
theorem sc_i9 : FnScope ["self", "crowd"] ["self", "crowd"] (defScope s_i9) := ⟨rfl, rfl, rfl, by decide +kernel, rfl, by decide +kernel, by decide +kernel⟩
theorem ok_i9 (F : Fun K "__init__" "NoCrowd.__init__" s_i9 f fd) (T : ErrC K C) (nf : PySem.W.findIn K (.ref C) "crowd" = some none) : FnOk P w K mg base CX0 1 f fd ["self", "crowd"] (spErrInit C "crowd") := by
  refine F.ok sc_i9 (fun vs H Q E h => ?_) (fun cdv A outer s H vs Q E hr h => ?_)
  · obtain ⟨a, v, rfl, _⟩ := h
    rfl
  · obtain ⟨a, v, rfl, ea, q⟩ := h
    exact ⟨_, pss_one (ps_errSet (pv 0) (pv 1)), ⟨_, rfl, _, rfl, a, C, rfl, T, nf, ea, fun dx hd ne => q dx hd ne⟩⟩
theorem bk_i9 (F : Fun K "__init__" "NoCrowd.__init__" s_i9 f fd) (s : Shared) (u v : Value) : BindsTo s fd ⟨[u], [("crowd", v)]⟩ [("self", u), ("crowd", v)] := by
  obtain ⟨oc, od, kV, doc, pm, an, cdv, ct, osl, rfl, lk, hcd⟩ := F.ex
  exact .of_eq rfl
end
theorem chain_VE {bm : List Value} (h : PySem.HandSPX.refsVE bm = true) : PySem.ZX.Chain "ValueError" bm :=
  ⟨by rw [PySem.HandSPX.refsVE_contains _ _ h]; decide +kernel, by rw [PySem.HandSPX.refsVE_contains _ _ h]; decide +kernel, by rw [PySem.HandSPX.refsVE_contains _ _ h]; decide +kernel,
    by rw [PySem.HandSPX.refsVE_contains _ _ h]; decide +kernel, fun self => PySem.HandSPX.refsVE_pass self _ h⟩
abbrev ixTail : List Value := [.type "IndexError", .type "LookupError", .type "Exception", .type "BaseException", .type "object"]
abbrev kyTail : List Value := [.type "KeyError", .type "LookupError", .type "Exception", .type "BaseException", .type "object"]
theorem chain_IX : PySem.ZX.Chain "IndexError" ixTail := ⟨by decide +kernel, by decide +kernel, by decide +kernel, by decide +kernel, fun self => PySem.F.store_IndexError.passes self⟩
theorem chain_KY : PySem.ZX.Chain "LookupError" kyTail := ⟨by decide +kernel, by decide +kernel, by decide +kernel, by decide +kernel, fun self => by kernel_rfl⟩
end Z
set_option Elab.async false
set_option linter.all false
set_option maxRecDepth 100000
set_option maxHeartbeats 8000000
set_option autoImplicit false
namespace Z
open PySem PySem.Spec PyProof.Rows L2
open C8 (Cal pe_c Mak pe_mk Met pe_mt pe_mt0 pe_gc)
/-- all that the top has written, put together -/
theorem all_mk {P : Program} {w : World} {K : PySem.W.Frag} {h : Heap} {mg : Str → Option Value} {fa : Addr} (X : K.In h) (G : h.Ns mainGlobals mg) (hfa : mg "law" = some (.ref fa))
    {KE C0 C1 C2 C3 C4 C5 C6 C7 C8 C9 : Addr}
    {nm0 q0 : Str} {N0 : Addr} {bs0 : List Value} {sn0 : List Str} {sub0 : List Value} {ab0 : Bool} {col0 : Option Bool} {dd0 : Option Addr} {v0a v0b v0c v0d v0e : Option Value}
    {fI0 : Addr} {ocI0 kVI0 dcI0 pmI0 cdI0 ctI0 : Value} {odI0 anI0 : Option Addr} {slI0 : Array (Option Value)}
    {nm1 q1 : Str} {N1 : Addr} {bs1 : List Value} {sn1 : List Str} {sub1 : List Value} {ab1 : Bool} {col1 : Option Bool} {dd1 : Option Addr} {v1a v1b v1c v1d v1e : Option Value}
    {fI1 : Addr} {ocI1 kVI1 dcI1 pmI1 cdI1 ctI1 : Value} {odI1 anI1 : Option Addr} {slI1 : Array (Option Value)}
    {nm2 q2 : Str} {N2 : Addr} {bs2 : List Value} {sn2 : List Str} {sub2 : List Value} {ab2 : Bool} {col2 : Option Bool} {dd2 : Option Addr} {v2a v2b v2c v2d v2e : Option Value}
    {fI2 : Addr} {ocI2 kVI2 dcI2 pmI2 cdI2 ctI2 : Value} {odI2 anI2 : Option Addr} {slI2 : Array (Option Value)}
    {nm3 q3 : Str} {N3 : Addr} {bs3 : List Value} {sn3 : List Str} {sub3 : List Value} {ab3 : Bool} {col3 : Option Bool} {dd3 : Option Addr} {v3a v3b v3c v3d v3e : Option Value}
    {fI3 : Addr} {ocI3 kVI3 dcI3 pmI3 cdI3 ctI3 : Value} {odI3 anI3 : Option Addr} {slI3 : Array (Option Value)}
    {nm4 q4 : Str} {N4 : Addr} {bs4 : List Value} {sn4 : List Str} {sub4 : List Value} {ab4 : Bool} {col4 : Option Bool} {dd4 : Option Addr} {v4a v4b v4c v4d v4e : Option Value}
    {fI4 : Addr} {ocI4 kVI4 dcI4 pmI4 cdI4 ctI4 : Value} {odI4 anI4 : Option Addr} {slI4 : Array (Option Value)}
    {nm6 q6 : Str} {N6 : Addr} {bs6 : List Value} {sn6 : List Str} {sub6 : List Value} {ab6 : Bool} {col6 : Option Bool} {dd6 : Option Addr} {v6a v6b v6c v6d v6e : Option Value}
    {fI6 : Addr} {ocI6 kVI6 dcI6 pmI6 cdI6 ctI6 : Value} {odI6 anI6 : Option Addr} {slI6 : Array (Option Value)}
    {nm7 q7 : Str} {N7 : Addr} {bs7 : List Value} {sn7 : List Str} {sub7 : List Value} {ab7 : Bool} {col7 : Option Bool} {dd7 : Option Addr} {v7a v7b v7c v7d v7e : Option Value}
    {fI7 : Addr} {ocI7 kVI7 dcI7 pmI7 cdI7 ctI7 : Value} {odI7 anI7 : Option Addr} {slI7 : Array (Option Value)}
    {nm8 q8 : Str} {N8 : Addr} {bs8 : List Value} {sn8 : List Str} {sub8 : List Value} {ab8 : Bool} {col8 : Option Bool} {dd8 : Option Addr} {v8a v8b v8c v8d v8e : Option Value}
    {fI8 : Addr} {ocI8 kVI8 dcI8 pmI8 cdI8 ctI8 : Value} {odI8 anI8 : Option Addr} {slI8 : Array (Option Value)}
    {nm9 q9 : Str} {N9 : Addr} {bs9 : List Value} {sn9 : List Str} {sub9 : List Value} {ab9 : Bool} {col9 : Option Bool} {dd9 : Option Addr} {v9a v9b v9c v9d v9e : Option Value}
    {fI9 : Addr} {ocI9 kVI9 dcI9 pmI9 cdI9 ctI9 : Value} {odI9 anI9 : Option Addr} {slI9 : Array (Option Value)}
    {f_deal : Addr} {oc_deal kV_deal dc_deal pm_deal cd_deal ct_deal : Value} {od_deal an_deal : Option Addr} {sl_deal : Array (Option Value)}
    {f_draw : Addr} {oc_draw kV_draw dc_draw pm_draw cd_draw ct_draw : Value} {od_draw an_draw : Option Addr} {sl_draw : Array (Option Value)}
    {f_pick : Addr} {oc_pick kV_pick dc_pick pm_pick cd_pick ct_pick : Value} {od_pick an_pick : Option Addr} {sl_pick : Array (Option Value)}
    {f_any : Addr} {oc_any kV_any dc_any pm_any cd_any ct_any : Value} {od_any an_any : Option Addr} {sl_any : Array (Option Value)}
    {f_kept : Addr} {oc_kept kV_kept dc_kept pm_kept cd_kept ct_kept : Value} {od_kept an_kept : Option Addr} {sl_kept : Array (Option Value)}
    {f_kept_by_names : Addr} {oc_kept_by_names kV_kept_by_names dc_kept_by_names pm_kept_by_names cd_kept_by_names ct_kept_by_names : Value} {od_kept_by_names an_kept_by_names : Option Addr} {sl_kept_by_names : Array (Option Value)}
    {f_sorts : Addr} {oc_sorts kV_sorts dc_sorts pm_sorts cd_sorts ct_sorts : Value} {od_sorts an_sorts : Option Addr} {sl_sorts : Array (Option Value)}
    {f_law : Addr} {oc_law kV_law dc_law pm_law cd_law ct_law : Value} {od_law an_law : Option Addr} {sl_law : Array (Option Value)}
    (aK : PySem.W.nsIn K mainGlobals "KnowError" = some (some (.ref KE)))
    (a0 : PySem.W.nsIn K mainGlobals "InvalidCrowds" = some (some (.ref C0)))
    (kc0 : PySem.W.keepIn K (.ref C0) = true)
    (ga0 : PySem.W.findIn K (.ref C0) "__getattribute__" = some (some (.builtin "BaseException.__getattribute__")))
    (gg0 : PySem.W.findIn K (.ref C0) "__getattr__" = some none)
    (ex0 : PySem.W.subIn K (.ref C0) (.type "BaseException") = some true)
    (hd0 : PySem.W.hasDictIn K C0 = true)
    (ha0 : PySem.W.findIn K (.ref C0) "__class__" = some (some (.builtin "object.__class__")))
    (hm0 : PySem.W.mroIn K C0 (.type "object") = some true)
    (x0 : K.lookup C0 = some (excClassObj nm0 q0 C0 N0 bs0 (.ref KE :: PySem.HandSPX.veTail) true sn0 sub0 ab0 col0 dd0 v0a v0b v0c v0d v0e "ValueError.__new__"))
    (sa0 : PySem.W.findIn K (.ref C0) "__setattr__" = some (some (.builtin "object.__setattr__")))
    (nf0 : PySem.W.findIn K (.ref C0) "word" = some none)
    (ii0 : PySem.W.findIn K (.ref C0) "__init__" = some (some (.ref fI0)))
    (ti0 : PySem.W.typeIn K (.ref fI0) = some (.type "function"))
    (li0 : K.lookup fI0 = some ⟨ocI0, odI0, .func (PySem.W.fnOf "__init__" "InvalidCrowds.__init__" (defArgs s_i0) (defBody s_i0) (defScope s_i0) .none kVI0 dcI0 pmI0 anI0 cdI0 ctI0), slI0⟩)
    (ci0 : PySem.W.codeIn K cdI0 "InvalidCrowds.__init__" = true)
    (ki0 : PySem.W.keepIn K (.ref fI0) = true)
    (a1 : PySem.W.nsIn K mainGlobals "InvalidSaying" = some (some (.ref C1)))
    (kc1 : PySem.W.keepIn K (.ref C1) = true)
    (ga1 : PySem.W.findIn K (.ref C1) "__getattribute__" = some (some (.builtin "BaseException.__getattribute__")))
    (gg1 : PySem.W.findIn K (.ref C1) "__getattr__" = some none)
    (ex1 : PySem.W.subIn K (.ref C1) (.type "BaseException") = some true)
    (hd1 : PySem.W.hasDictIn K C1 = true)
    (ha1 : PySem.W.findIn K (.ref C1) "__class__" = some (some (.builtin "object.__class__")))
    (hm1 : PySem.W.mroIn K C1 (.type "object") = some true)
    (x1 : K.lookup C1 = some (excClassObj nm1 q1 C1 N1 bs1 (.ref KE :: PySem.HandSPX.veTail) true sn1 sub1 ab1 col1 dd1 v1a v1b v1c v1d v1e "ValueError.__new__"))
    (sa1 : PySem.W.findIn K (.ref C1) "__setattr__" = some (some (.builtin "object.__setattr__")))
    (nf1 : PySem.W.findIn K (.ref C1) "word" = some none)
    (ii1 : PySem.W.findIn K (.ref C1) "__init__" = some (some (.ref fI1)))
    (ti1 : PySem.W.typeIn K (.ref fI1) = some (.type "function"))
    (li1 : K.lookup fI1 = some ⟨ocI1, odI1, .func (PySem.W.fnOf "__init__" "InvalidSaying.__init__" (defArgs s_i1) (defBody s_i1) (defScope s_i1) .none kVI1 dcI1 pmI1 anI1 cdI1 ctI1), slI1⟩)
    (ci1 : PySem.W.codeIn K cdI1 "InvalidSaying.__init__" = true)
    (ki1 : PySem.W.keepIn K (.ref fI1) = true)
    (a2 : PySem.W.nsIn K mainGlobals "InvalidTalk" = some (some (.ref C2)))
    (kc2 : PySem.W.keepIn K (.ref C2) = true)
    (ga2 : PySem.W.findIn K (.ref C2) "__getattribute__" = some (some (.builtin "BaseException.__getattribute__")))
    (gg2 : PySem.W.findIn K (.ref C2) "__getattr__" = some none)
    (ex2 : PySem.W.subIn K (.ref C2) (.type "BaseException") = some true)
    (hd2 : PySem.W.hasDictIn K C2 = true)
    (ha2 : PySem.W.findIn K (.ref C2) "__class__" = some (some (.builtin "object.__class__")))
    (hm2 : PySem.W.mroIn K C2 (.type "object") = some true)
    (x2 : K.lookup C2 = some (excClassObj nm2 q2 C2 N2 bs2 (.ref KE :: PySem.HandSPX.veTail) true sn2 sub2 ab2 col2 dd2 v2a v2b v2c v2d v2e "ValueError.__new__"))
    (sa2 : PySem.W.findIn K (.ref C2) "__setattr__" = some (some (.builtin "object.__setattr__")))
    (nf2 : PySem.W.findIn K (.ref C2) "word" = some none)
    (ii2 : PySem.W.findIn K (.ref C2) "__init__" = some (some (.ref fI2)))
    (ti2 : PySem.W.typeIn K (.ref fI2) = some (.type "function"))
    (li2 : K.lookup fI2 = some ⟨ocI2, odI2, .func (PySem.W.fnOf "__init__" "InvalidTalk.__init__" (defArgs s_i2) (defBody s_i2) (defScope s_i2) .none kVI2 dcI2 pmI2 anI2 cdI2 ctI2), slI2⟩)
    (ci2 : PySem.W.codeIn K cdI2 "InvalidTalk.__init__" = true)
    (ki2 : PySem.W.keepIn K (.ref fI2) = true)
    (a3 : PySem.W.nsIn K mainGlobals "InvalidLine" = some (some (.ref C3)))
    (kc3 : PySem.W.keepIn K (.ref C3) = true)
    (ga3 : PySem.W.findIn K (.ref C3) "__getattribute__" = some (some (.builtin "BaseException.__getattribute__")))
    (gg3 : PySem.W.findIn K (.ref C3) "__getattr__" = some none)
    (ex3 : PySem.W.subIn K (.ref C3) (.type "BaseException") = some true)
    (hd3 : PySem.W.hasDictIn K C3 = true)
    (ha3 : PySem.W.findIn K (.ref C3) "__class__" = some (some (.builtin "object.__class__")))
    (hm3 : PySem.W.mroIn K C3 (.type "object") = some true)
    (x3 : K.lookup C3 = some (excClassObj nm3 q3 C3 N3 bs3 (.ref KE :: PySem.HandSPX.veTail) true sn3 sub3 ab3 col3 dd3 v3a v3b v3c v3d v3e "ValueError.__new__"))
    (sa3 : PySem.W.findIn K (.ref C3) "__setattr__" = some (some (.builtin "object.__setattr__")))
    (nf3 : PySem.W.findIn K (.ref C3) "word" = some none)
    (ii3 : PySem.W.findIn K (.ref C3) "__init__" = some (some (.ref fI3)))
    (ti3 : PySem.W.typeIn K (.ref fI3) = some (.type "function"))
    (li3 : K.lookup fI3 = some ⟨ocI3, odI3, .func (PySem.W.fnOf "__init__" "InvalidLine.__init__" (defArgs s_i3) (defBody s_i3) (defScope s_i3) .none kVI3 dcI3 pmI3 anI3 cdI3 ctI3), slI3⟩)
    (ci3 : PySem.W.codeIn K cdI3 "InvalidLine.__init__" = true)
    (ki3 : PySem.W.keepIn K (.ref fI3) = true)
    (a4 : PySem.W.nsIn K mainGlobals "InvalidText" = some (some (.ref C4)))
    (kc4 : PySem.W.keepIn K (.ref C4) = true)
    (ga4 : PySem.W.findIn K (.ref C4) "__getattribute__" = some (some (.builtin "BaseException.__getattribute__")))
    (gg4 : PySem.W.findIn K (.ref C4) "__getattr__" = some none)
    (ex4 : PySem.W.subIn K (.ref C4) (.type "BaseException") = some true)
    (hd4 : PySem.W.hasDictIn K C4 = true)
    (ha4 : PySem.W.findIn K (.ref C4) "__class__" = some (some (.builtin "object.__class__")))
    (hm4 : PySem.W.mroIn K C4 (.type "object") = some true)
    (x4 : K.lookup C4 = some (excClassObj nm4 q4 C4 N4 bs4 (.ref KE :: PySem.HandSPX.veTail) true sn4 sub4 ab4 col4 dd4 v4a v4b v4c v4d v4e "ValueError.__new__"))
    (sa4 : PySem.W.findIn K (.ref C4) "__setattr__" = some (some (.builtin "object.__setattr__")))
    (nf4 : PySem.W.findIn K (.ref C4) "at" = some none)
    (ii4 : PySem.W.findIn K (.ref C4) "__init__" = some (some (.ref fI4)))
    (ti4 : PySem.W.typeIn K (.ref fI4) = some (.type "function"))
    (li4 : K.lookup fI4 = some ⟨ocI4, odI4, .func (PySem.W.fnOf "__init__" "InvalidText.__init__" (defArgs s_i4) (defBody s_i4) (defScope s_i4) .none kVI4 dcI4 pmI4 anI4 cdI4 ctI4), slI4⟩)
    (ci4 : PySem.W.codeIn K cdI4 "InvalidText.__init__" = true)
    (ki4 : PySem.W.keepIn K (.ref fI4) = true)
    (a5 : PySem.W.nsIn K mainGlobals "InvalidCommand" = some (some (.ref C5)))
    (kc5 : PySem.W.keepIn K (.ref C5) = true)
    (ga5 : PySem.W.findIn K (.ref C5) "__getattribute__" = some (some (.builtin "BaseException.__getattribute__")))
    (gg5 : PySem.W.findIn K (.ref C5) "__getattr__" = some none)
    (ex5 : PySem.W.subIn K (.ref C5) (.type "BaseException") = some true)
    (hd5 : PySem.W.hasDictIn K C5 = true)
    (ha5 : PySem.W.findIn K (.ref C5) "__class__" = some (some (.builtin "object.__class__")))
    (hm5 : PySem.W.mroIn K C5 (.type "object") = some true)
    (e5 : PySem.W.excIn K C5 PySem.HandSPX.veTail "ValueError.__new__" = true)
    (a6 : PySem.W.nsIn K mainGlobals "Untrue" = some (some (.ref C6)))
    (kc6 : PySem.W.keepIn K (.ref C6) = true)
    (ga6 : PySem.W.findIn K (.ref C6) "__getattribute__" = some (some (.builtin "BaseException.__getattribute__")))
    (gg6 : PySem.W.findIn K (.ref C6) "__getattr__" = some none)
    (ex6 : PySem.W.subIn K (.ref C6) (.type "BaseException") = some true)
    (hd6 : PySem.W.hasDictIn K C6 = true)
    (ha6 : PySem.W.findIn K (.ref C6) "__class__" = some (some (.builtin "object.__class__")))
    (hm6 : PySem.W.mroIn K C6 (.type "object") = some true)
    (x6 : K.lookup C6 = some (excClassObj nm6 q6 C6 N6 bs6 (.ref KE :: PySem.HandSPX.veTail) true sn6 sub6 ab6 col6 dd6 v6a v6b v6c v6d v6e "ValueError.__new__"))
    (sa6 : PySem.W.findIn K (.ref C6) "__setattr__" = some (some (.builtin "object.__setattr__")))
    (nf6 : PySem.W.findIn K (.ref C6) "at" = some none)
    (ii6 : PySem.W.findIn K (.ref C6) "__init__" = some (some (.ref fI6)))
    (ti6 : PySem.W.typeIn K (.ref fI6) = some (.type "function"))
    (li6 : K.lookup fI6 = some ⟨ocI6, odI6, .func (PySem.W.fnOf "__init__" "Untrue.__init__" (defArgs s_i6) (defBody s_i6) (defScope s_i6) .none kVI6 dcI6 pmI6 anI6 cdI6 ctI6), slI6⟩)
    (ci6 : PySem.W.codeIn K cdI6 "Untrue.__init__" = true)
    (ki6 : PySem.W.keepIn K (.ref fI6) = true)
    (a7 : PySem.W.nsIn K mainGlobals "Refused" = some (some (.ref C7)))
    (kc7 : PySem.W.keepIn K (.ref C7) = true)
    (ga7 : PySem.W.findIn K (.ref C7) "__getattribute__" = some (some (.builtin "BaseException.__getattribute__")))
    (gg7 : PySem.W.findIn K (.ref C7) "__getattr__" = some none)
    (ex7 : PySem.W.subIn K (.ref C7) (.type "BaseException") = some true)
    (hd7 : PySem.W.hasDictIn K C7 = true)
    (ha7 : PySem.W.findIn K (.ref C7) "__class__" = some (some (.builtin "object.__class__")))
    (hm7 : PySem.W.mroIn K C7 (.type "object") = some true)
    (x7 : K.lookup C7 = some (excClassObj nm7 q7 C7 N7 bs7 (.ref KE :: PySem.HandSPX.veTail) true sn7 sub7 ab7 col7 dd7 v7a v7b v7c v7d v7e "ValueError.__new__"))
    (sa7 : PySem.W.findIn K (.ref C7) "__setattr__" = some (some (.builtin "object.__setattr__")))
    (nf7 : PySem.W.findIn K (.ref C7) "at" = some none)
    (ii7 : PySem.W.findIn K (.ref C7) "__init__" = some (some (.ref fI7)))
    (ti7 : PySem.W.typeIn K (.ref fI7) = some (.type "function"))
    (li7 : K.lookup fI7 = some ⟨ocI7, odI7, .func (PySem.W.fnOf "__init__" "Refused.__init__" (defArgs s_i7) (defBody s_i7) (defScope s_i7) .none kVI7 dcI7 pmI7 anI7 cdI7 ctI7), slI7⟩)
    (ci7 : PySem.W.codeIn K cdI7 "Refused.__init__" = true)
    (ki7 : PySem.W.keepIn K (.ref fI7) = true)
    (a8 : PySem.W.nsIn K mainGlobals "NoRow" = some (some (.ref C8)))
    (kc8 : PySem.W.keepIn K (.ref C8) = true)
    (ga8 : PySem.W.findIn K (.ref C8) "__getattribute__" = some (some (.builtin "BaseException.__getattribute__")))
    (gg8 : PySem.W.findIn K (.ref C8) "__getattr__" = some none)
    (ex8 : PySem.W.subIn K (.ref C8) (.type "BaseException") = some true)
    (hd8 : PySem.W.hasDictIn K C8 = true)
    (ha8 : PySem.W.findIn K (.ref C8) "__class__" = some (some (.builtin "object.__class__")))
    (hm8 : PySem.W.mroIn K C8 (.type "object") = some true)
    (x8 : K.lookup C8 = some (excClassObj nm8 q8 C8 N8 bs8 ixTail true sn8 sub8 ab8 col8 dd8 v8a v8b v8c v8d v8e "IndexError.__new__"))
    (sa8 : PySem.W.findIn K (.ref C8) "__setattr__" = some (some (.builtin "object.__setattr__")))
    (nf8 : PySem.W.findIn K (.ref C8) "at" = some none)
    (ii8 : PySem.W.findIn K (.ref C8) "__init__" = some (some (.ref fI8)))
    (ti8 : PySem.W.typeIn K (.ref fI8) = some (.type "function"))
    (li8 : K.lookup fI8 = some ⟨ocI8, odI8, .func (PySem.W.fnOf "__init__" "NoRow.__init__" (defArgs s_i8) (defBody s_i8) (defScope s_i8) .none kVI8 dcI8 pmI8 anI8 cdI8 ctI8), slI8⟩)
    (ci8 : PySem.W.codeIn K cdI8 "NoRow.__init__" = true)
    (ki8 : PySem.W.keepIn K (.ref fI8) = true)
    (a9 : PySem.W.nsIn K mainGlobals "NoCrowd" = some (some (.ref C9)))
    (kc9 : PySem.W.keepIn K (.ref C9) = true)
    (ga9 : PySem.W.findIn K (.ref C9) "__getattribute__" = some (some (.builtin "BaseException.__getattribute__")))
    (gg9 : PySem.W.findIn K (.ref C9) "__getattr__" = some none)
    (ex9 : PySem.W.subIn K (.ref C9) (.type "BaseException") = some true)
    (hd9 : PySem.W.hasDictIn K C9 = true)
    (ha9 : PySem.W.findIn K (.ref C9) "__class__" = some (some (.builtin "object.__class__")))
    (hm9 : PySem.W.mroIn K C9 (.type "object") = some true)
    (x9 : K.lookup C9 = some (excClassObj nm9 q9 C9 N9 bs9 kyTail true sn9 sub9 ab9 col9 dd9 v9a v9b v9c v9d v9e "LookupError.__new__"))
    (sa9 : PySem.W.findIn K (.ref C9) "__setattr__" = some (some (.builtin "object.__setattr__")))
    (nf9 : PySem.W.findIn K (.ref C9) "crowd" = some none)
    (ii9 : PySem.W.findIn K (.ref C9) "__init__" = some (some (.ref fI9)))
    (ti9 : PySem.W.typeIn K (.ref fI9) = some (.type "function"))
    (li9 : K.lookup fI9 = some ⟨ocI9, odI9, .func (PySem.W.fnOf "__init__" "NoCrowd.__init__" (defArgs s_i9) (defBody s_i9) (defScope s_i9) .none kVI9 dcI9 pmI9 anI9 cdI9 ctI9), slI9⟩)
    (ci9 : PySem.W.codeIn K cdI9 "NoCrowd.__init__" = true)
    (ki9 : PySem.W.keepIn K (.ref fI9) = true)
    (hn : PySem.W.specialIn K (.builtin "object.__class__") "__get__" = some (some (.builtin "getset_descriptor.__get__")))
    (ht : PySem.W.takesIn K (.builtin "object.__class__") = some true)
    (r0 : (kinds C0 C1 C2 C3 C4 C5 C6 C7 C8 C9 KE).map (PySem.W.kitOne K (.ref C0)) = (due 0).map some)
    (r1 : (kinds C0 C1 C2 C3 C4 C5 C6 C7 C8 C9 KE).map (PySem.W.kitOne K (.ref C1)) = (due 1).map some)
    (r2 : (kinds C0 C1 C2 C3 C4 C5 C6 C7 C8 C9 KE).map (PySem.W.kitOne K (.ref C2)) = (due 2).map some)
    (r3 : (kinds C0 C1 C2 C3 C4 C5 C6 C7 C8 C9 KE).map (PySem.W.kitOne K (.ref C3)) = (due 3).map some)
    (r4 : (kinds C0 C1 C2 C3 C4 C5 C6 C7 C8 C9 KE).map (PySem.W.kitOne K (.ref C4)) = (due 4).map some)
    (r5 : (kinds C0 C1 C2 C3 C4 C5 C6 C7 C8 C9 KE).map (PySem.W.kitOne K (.ref C5)) = (due 5).map some)
    (r6 : (kinds C0 C1 C2 C3 C4 C5 C6 C7 C8 C9 KE).map (PySem.W.kitOne K (.ref C6)) = (due 6).map some)
    (r7 : (kinds C0 C1 C2 C3 C4 C5 C6 C7 C8 C9 KE).map (PySem.W.kitOne K (.ref C7)) = (due 7).map some)
    (r8 : (kinds C0 C1 C2 C3 C4 C5 C6 C7 C8 C9 KE).map (PySem.W.kitOne K (.ref C8)) = (due 8).map some)
    (r9 : (kinds C0 C1 C2 C3 C4 C5 C6 C7 C8 C9 KE).map (PySem.W.kitOne K (.ref C9)) = (due 9).map some)
    (z_int : PySem.W.nsIn K mainGlobals "int" = some none)
    (z_abs : PySem.W.nsIn K mainGlobals "abs" = some none)
    (z_len : PySem.W.nsIn K mainGlobals "len" = some none)
    (z_range : PySem.W.nsIn K mainGlobals "range" = some none)
    (z_tuple : PySem.W.nsIn K mainGlobals "tuple" = some none)
    (z_enumerate : PySem.W.nsIn K mainGlobals "enumerate" = some none)
    (z_repr : PySem.W.nsIn K mainGlobals "repr" = some none)
    (z_isinstance : PySem.W.nsIn K mainGlobals "isinstance" = some none)
    (z_ValueError : PySem.W.nsIn K mainGlobals "ValueError" = some none)
    (z_IndexError : PySem.W.nsIn K mainGlobals "IndexError" = some none)
    (z_KeyError : PySem.W.nsIn K mainGlobals "KeyError" = some none)
    (a_deal : PySem.W.nsIn K mainGlobals "_law_deal" = some (some (.ref f_deal)))
    (l_deal : K.lookup f_deal = some ⟨oc_deal, od_deal, .func (PySem.W.fnOf "_law_deal" "_law_deal" (defArgs s_deal) (defBody s_deal) (defScope s_deal) .none kV_deal dc_deal pm_deal an_deal cd_deal ct_deal), sl_deal⟩)
    (c_deal : PySem.W.codeIn K cd_deal "_law_deal" = true)
    (k_deal : PySem.W.keepIn K (.ref f_deal) = true)
    (a_draw : PySem.W.nsIn K mainGlobals "_law_draw" = some (some (.ref f_draw)))
    (l_draw : K.lookup f_draw = some ⟨oc_draw, od_draw, .func (PySem.W.fnOf "_law_draw" "_law_draw" (defArgs s_draw) (defBody s_draw) (defScope s_draw) .none kV_draw dc_draw pm_draw an_draw cd_draw ct_draw), sl_draw⟩)
    (c_draw : PySem.W.codeIn K cd_draw "_law_draw" = true)
    (k_draw : PySem.W.keepIn K (.ref f_draw) = true)
    (a_pick : PySem.W.nsIn K mainGlobals "_law_pick" = some (some (.ref f_pick)))
    (l_pick : K.lookup f_pick = some ⟨oc_pick, od_pick, .func (PySem.W.fnOf "_law_pick" "_law_pick" (defArgs s_pick) (defBody s_pick) (defScope s_pick) .none kV_pick dc_pick pm_pick an_pick cd_pick ct_pick), sl_pick⟩)
    (c_pick : PySem.W.codeIn K cd_pick "_law_pick" = true)
    (k_pick : PySem.W.keepIn K (.ref f_pick) = true)
    (a_any : PySem.W.nsIn K mainGlobals "_law_any" = some (some (.ref f_any)))
    (l_any : K.lookup f_any = some ⟨oc_any, od_any, .func (PySem.W.fnOf "_law_any" "_law_any" (defArgs s_any) (defBody s_any) (defScope s_any) .none kV_any dc_any pm_any an_any cd_any ct_any), sl_any⟩)
    (c_any : PySem.W.codeIn K cd_any "_law_any" = true)
    (k_any : PySem.W.keepIn K (.ref f_any) = true)
    (a_kept : PySem.W.nsIn K mainGlobals "_law_kept" = some (some (.ref f_kept)))
    (l_kept : K.lookup f_kept = some ⟨oc_kept, od_kept, .func (PySem.W.fnOf "_law_kept" "_law_kept" (defArgs s_kept) (defBody s_kept) (defScope s_kept) .none kV_kept dc_kept pm_kept an_kept cd_kept ct_kept), sl_kept⟩)
    (c_kept : PySem.W.codeIn K cd_kept "_law_kept" = true)
    (k_kept : PySem.W.keepIn K (.ref f_kept) = true)
    (a_kept_by_names : PySem.W.nsIn K mainGlobals "_law_kept_by_names" = some (some (.ref f_kept_by_names)))
    (l_kept_by_names : K.lookup f_kept_by_names = some ⟨oc_kept_by_names, od_kept_by_names, .func (PySem.W.fnOf "_law_kept_by_names" "_law_kept_by_names" (defArgs s_keptN) (defBody s_keptN) (defScope s_keptN) .none kV_kept_by_names dc_kept_by_names pm_kept_by_names an_kept_by_names cd_kept_by_names ct_kept_by_names), sl_kept_by_names⟩)
    (c_kept_by_names : PySem.W.codeIn K cd_kept_by_names "_law_kept_by_names" = true)
    (k_kept_by_names : PySem.W.keepIn K (.ref f_kept_by_names) = true)
    (a_sorts : PySem.W.nsIn K mainGlobals "_law_sorts" = some (some (.ref f_sorts)))
    (l_sorts : K.lookup f_sorts = some ⟨oc_sorts, od_sorts, .func (PySem.W.fnOf "_law_sorts" "_law_sorts" (defArgs s_sorts) (defBody s_sorts) (defScope s_sorts) .none kV_sorts dc_sorts pm_sorts an_sorts cd_sorts ct_sorts), sl_sorts⟩)
    (c_sorts : PySem.W.codeIn K cd_sorts "_law_sorts" = true)
    (k_sorts : PySem.W.keepIn K (.ref f_sorts) = true)
    (a_law : PySem.W.nsIn K mainGlobals "law" = some (some (.ref f_law)))
    (l_law : K.lookup f_law = some ⟨oc_law, od_law, .func (PySem.W.fnOf "law" "law" (defArgs s_law) (defBody s_law) (defScope s_law) .none kV_law dc_law pm_law an_law cd_law ct_law), sl_law⟩)
    (c_law : PySem.W.codeIn K cd_law "law" = true)
    (k_law : PySem.W.keepIn K (.ref f_law) = true) :
    ∃ fd : FuncData, (∀ (s : Shared) (u : Value), BindsTo s fd ⟨[u], []⟩ [("_law_script", u)]) ∧ ∀ base : Heap, K.In base → base.Ns mainGlobals mg → FnG P w K mg base 9 fa fd p_law (spLaw K) := by
  have e := hfa.symm.trans (PySem.W.mg_of X G a_law)
  cases e
  have F_deal := fun_mk (st := s_deal) l_deal c_deal k_deal
  have b_deal := F_deal.binds (ps := p_deal) fun _ _ _ _ _ _ us hl => match us, hl with | [_, _], _ => rfl
  have F_draw := fun_mk (st := s_draw) l_draw c_draw k_draw
  have b_draw := F_draw.binds (ps := ["_law_deal_here", "_law_many"]) fun _ _ _ _ _ _ us hl => match us, hl with | [_, _], _ => rfl
  have F_pick := fun_mk (st := s_pick) l_pick c_pick k_pick
  have b_pick := F_pick.binds (ps := ["_law_deal_here", "_law_some"]) fun _ _ _ _ _ _ us hl => match us, hl with | [_, _], _ => rfl
  have F_any := fun_mk (st := s_any) l_any c_any k_any
  have b_any := F_any.binds (ps := p_any) fun _ _ _ _ _ _ us hl => match us, hl with | [_, _], _ => rfl
  have F_kept := fun_mk (st := s_kept) l_kept c_kept k_kept
  have b_kept := F_kept.binds (ps := p_kept) fun _ _ _ _ _ _ us hl => match us, hl with | [_], _ => rfl
  have F_kept_by_names := fun_mk (st := s_keptN) l_kept_by_names c_kept_by_names k_kept_by_names
  have b_kept_by_names := F_kept_by_names.binds (ps := p_kept) fun _ _ _ _ _ _ us hl => match us, hl with | [_], _ => rfl
  have F_sorts := fun_mk (st := s_sorts) l_sorts c_sorts k_sorts
  have b_sorts := F_sorts.binds (ps := p_sorts) fun _ _ _ _ _ _ us hl => match us, hl with | [_], _ => rfl
  have F_law := fun_mk (st := s_law) l_law c_law k_law
  have y0 : ExcC K C0 := ⟨ga0, gg0, ex0, hd0, ha0, hn, ht, hm0⟩
  have kk0 : Kit1 K (kinds C0 C1 C2 C3 C4 C5 C6 C7 C8 C9 KE) C0 0 := ⟨y0, r0⟩
  have E0 : ErrC K C0 := ⟨⟨_, _, _, _, _, _, _, _, _, _, _, _, _, _, _, _, _, _, _, PySem.F.excBase_ValueError, (chain_VE (bm := .ref KE :: PySem.HandSPX.veTail) rfl), x0⟩, sa0, ga0, gg0, ex0, kc0, hd0⟩
  have FI0 := fun_mk (st := s_i0) li0 ci0 ki0
  have bI0 := FI0.binds (ps := ["self", "word"]) fun _ _ _ _ _ _ us hl => match us, hl with | [_, _], _ => rfl
  have M0 : ∀ base, ErrM P w K mg base "InvalidCrowds" "word" C0 := fun base => ⟨E0, PySem.W.mg_of X G a0, nf0, _, _, ii0, ti0, ok_i0 FI0 E0 nf0, bI0, bk_i0 FI0⟩
  have y1 : ExcC K C1 := ⟨ga1, gg1, ex1, hd1, ha1, hn, ht, hm1⟩
  have kk1 : Kit1 K (kinds C0 C1 C2 C3 C4 C5 C6 C7 C8 C9 KE) C1 1 := ⟨y1, r1⟩
  have E1 : ErrC K C1 := ⟨⟨_, _, _, _, _, _, _, _, _, _, _, _, _, _, _, _, _, _, _, PySem.F.excBase_ValueError, (chain_VE (bm := .ref KE :: PySem.HandSPX.veTail) rfl), x1⟩, sa1, ga1, gg1, ex1, kc1, hd1⟩
  have FI1 := fun_mk (st := s_i1) li1 ci1 ki1
  have bI1 := FI1.binds (ps := ["self", "word"]) fun _ _ _ _ _ _ us hl => match us, hl with | [_, _], _ => rfl
  have M1 : ∀ base, ErrM P w K mg base "InvalidSaying" "word" C1 := fun base => ⟨E1, PySem.W.mg_of X G a1, nf1, _, _, ii1, ti1, ok_i1 FI1 E1 nf1, bI1, bk_i1 FI1⟩
  have y2 : ExcC K C2 := ⟨ga2, gg2, ex2, hd2, ha2, hn, ht, hm2⟩
  have kk2 : Kit1 K (kinds C0 C1 C2 C3 C4 C5 C6 C7 C8 C9 KE) C2 2 := ⟨y2, r2⟩
  have E2 : ErrC K C2 := ⟨⟨_, _, _, _, _, _, _, _, _, _, _, _, _, _, _, _, _, _, _, PySem.F.excBase_ValueError, (chain_VE (bm := .ref KE :: PySem.HandSPX.veTail) rfl), x2⟩, sa2, ga2, gg2, ex2, kc2, hd2⟩
  have FI2 := fun_mk (st := s_i2) li2 ci2 ki2
  have bI2 := FI2.binds (ps := ["self", "word"]) fun _ _ _ _ _ _ us hl => match us, hl with | [_, _], _ => rfl
  have M2 : ∀ base, ErrM P w K mg base "InvalidTalk" "word" C2 := fun base => ⟨E2, PySem.W.mg_of X G a2, nf2, _, _, ii2, ti2, ok_i2 FI2 E2 nf2, bI2, bk_i2 FI2⟩
  have y3 : ExcC K C3 := ⟨ga3, gg3, ex3, hd3, ha3, hn, ht, hm3⟩
  have kk3 : Kit1 K (kinds C0 C1 C2 C3 C4 C5 C6 C7 C8 C9 KE) C3 3 := ⟨y3, r3⟩
  have E3 : ErrC K C3 := ⟨⟨_, _, _, _, _, _, _, _, _, _, _, _, _, _, _, _, _, _, _, PySem.F.excBase_ValueError, (chain_VE (bm := .ref KE :: PySem.HandSPX.veTail) rfl), x3⟩, sa3, ga3, gg3, ex3, kc3, hd3⟩
  have FI3 := fun_mk (st := s_i3) li3 ci3 ki3
  have bI3 := FI3.binds (ps := ["self", "word"]) fun _ _ _ _ _ _ us hl => match us, hl with | [_, _], _ => rfl
  have M3 : ∀ base, ErrM P w K mg base "InvalidLine" "word" C3 := fun base => ⟨E3, PySem.W.mg_of X G a3, nf3, _, _, ii3, ti3, ok_i3 FI3 E3 nf3, bI3, bk_i3 FI3⟩
  have y4 : ExcC K C4 := ⟨ga4, gg4, ex4, hd4, ha4, hn, ht, hm4⟩
  have kk4 : Kit1 K (kinds C0 C1 C2 C3 C4 C5 C6 C7 C8 C9 KE) C4 4 := ⟨y4, r4⟩
  have E4 : ErrC K C4 := ⟨⟨_, _, _, _, _, _, _, _, _, _, _, _, _, _, _, _, _, _, _, PySem.F.excBase_ValueError, (chain_VE (bm := .ref KE :: PySem.HandSPX.veTail) rfl), x4⟩, sa4, ga4, gg4, ex4, kc4, hd4⟩
  have FI4 := fun_mk (st := s_i4) li4 ci4 ki4
  have bI4 := FI4.binds (ps := ["self", "at"]) fun _ _ _ _ _ _ us hl => match us, hl with | [_, _], _ => rfl
  have M4 : ∀ base, ErrM P w K mg base "InvalidText" "at" C4 := fun base => ⟨E4, PySem.W.mg_of X G a4, nf4, _, _, ii4, ti4, ok_i4 FI4 E4 nf4, bI4, bk_i4 FI4⟩
  have y5 : ExcC K C5 := ⟨ga5, gg5, ex5, hd5, ha5, hn, ht, hm5⟩
  have kk5 : Kit1 K (kinds C0 C1 C2 C3 C4 C5 C6 C7 C8 C9 KE) C5 5 := ⟨y5, r5⟩
  have M5 : Err0 K mg "InvalidCommand" C5 := ⟨PySem.W.mg_of X G a5, kc5, e5⟩
  have y6 : ExcC K C6 := ⟨ga6, gg6, ex6, hd6, ha6, hn, ht, hm6⟩
  have kk6 : Kit1 K (kinds C0 C1 C2 C3 C4 C5 C6 C7 C8 C9 KE) C6 6 := ⟨y6, r6⟩
  have E6 : ErrC K C6 := ⟨⟨_, _, _, _, _, _, _, _, _, _, _, _, _, _, _, _, _, _, _, PySem.F.excBase_ValueError, (chain_VE (bm := .ref KE :: PySem.HandSPX.veTail) rfl), x6⟩, sa6, ga6, gg6, ex6, kc6, hd6⟩
  have FI6 := fun_mk (st := s_i6) li6 ci6 ki6
  have bI6 := FI6.binds (ps := ["self", "at"]) fun _ _ _ _ _ _ us hl => match us, hl with | [_, _], _ => rfl
  have M6 : ∀ base, ErrM P w K mg base "Untrue" "at" C6 := fun base => ⟨E6, PySem.W.mg_of X G a6, nf6, _, _, ii6, ti6, ok_i6 FI6 E6 nf6, bI6, bk_i6 FI6⟩
  have y7 : ExcC K C7 := ⟨ga7, gg7, ex7, hd7, ha7, hn, ht, hm7⟩
  have kk7 : Kit1 K (kinds C0 C1 C2 C3 C4 C5 C6 C7 C8 C9 KE) C7 7 := ⟨y7, r7⟩
  have E7 : ErrC K C7 := ⟨⟨_, _, _, _, _, _, _, _, _, _, _, _, _, _, _, _, _, _, _, PySem.F.excBase_ValueError, (chain_VE (bm := .ref KE :: PySem.HandSPX.veTail) rfl), x7⟩, sa7, ga7, gg7, ex7, kc7, hd7⟩
  have FI7 := fun_mk (st := s_i7) li7 ci7 ki7
  have bI7 := FI7.binds (ps := ["self", "at"]) fun _ _ _ _ _ _ us hl => match us, hl with | [_, _], _ => rfl
  have M7 : ∀ base, ErrM P w K mg base "Refused" "at" C7 := fun base => ⟨E7, PySem.W.mg_of X G a7, nf7, _, _, ii7, ti7, ok_i7 FI7 E7 nf7, bI7, bk_i7 FI7⟩
  have y8 : ExcC K C8 := ⟨ga8, gg8, ex8, hd8, ha8, hn, ht, hm8⟩
  have kk8 : Kit1 K (kinds C0 C1 C2 C3 C4 C5 C6 C7 C8 C9 KE) C8 8 := ⟨y8, r8⟩
  have E8 : ErrC K C8 := ⟨⟨_, _, _, _, _, _, _, _, _, _, _, _, _, _, _, _, _, _, _, PySem.F.excBase_IndexError, chain_IX, x8⟩, sa8, ga8, gg8, ex8, kc8, hd8⟩
  have FI8 := fun_mk (st := s_i8) li8 ci8 ki8
  have bI8 := FI8.binds (ps := ["self", "at"]) fun _ _ _ _ _ _ us hl => match us, hl with | [_, _], _ => rfl
  have M8 : ∀ base, ErrM P w K mg base "NoRow" "at" C8 := fun base => ⟨E8, PySem.W.mg_of X G a8, nf8, _, _, ii8, ti8, ok_i8 FI8 E8 nf8, bI8, bk_i8 FI8⟩
  have y9 : ExcC K C9 := ⟨ga9, gg9, ex9, hd9, ha9, hn, ht, hm9⟩
  have kk9 : Kit1 K (kinds C0 C1 C2 C3 C4 C5 C6 C7 C8 C9 KE) C9 9 := ⟨y9, r9⟩
  have E9 : ErrC K C9 := ⟨⟨_, _, _, _, _, _, _, _, _, _, _, _, _, _, _, _, _, _, _, PySem.F.excBase_LookupError, chain_KY, x9⟩, sa9, ga9, gg9, ex9, kc9, hd9⟩
  have FI9 := fun_mk (st := s_i9) li9 ci9 ki9
  have bI9 := FI9.binds (ps := ["self", "crowd"]) fun _ _ _ _ _ _ us hl => match us, hl with | [_, _], _ => rfl
  have M9 : ∀ base, ErrM P w K mg base "NoCrowd" "crowd" C9 := fun base => ⟨E9, PySem.W.mg_of X G a9, nf9, _, _, ii9, ti9, ok_i9 FI9 E9 nf9, bI9, bk_i9 FI9⟩
  have T : Bt2 mg := ⟨⟨PySem.W.mg_none_of X G z_int, PySem.W.mg_none_of X G z_abs, PySem.W.mg_none_of X G z_len, PySem.W.mg_none_of X G z_range, PySem.W.mg_none_of X G z_tuple⟩, PySem.W.mg_none_of X G z_enumerate, PySem.W.mg_none_of X G z_repr⟩
  have S : Sorts K mg KE := ⟨PySem.W.mg_of X G aK, PySem.W.mg_none_of X G z_isinstance, PySem.W.mg_none_of X G z_ValueError, PySem.W.mg_none_of X G z_IndexError, PySem.W.mg_none_of X G z_KeyError⟩
  refine ⟨PySem.W.fnOf "law" "law" (defArgs s_law) (defBody s_law) (defScope s_law) .none kV_law dc_law pm_law an_law cd_law ct_law, fun s u => .of_eq rfl, fun base _ _ => ?_⟩
  have N : Nine P w K mg base C0 C1 C2 C3 C4 C6 C7 C8 C9 := ⟨M0 base, M1 base, M2 base, M3 base, M4 base, M6 base, M7 base, M8 base, M9 base⟩
  have Y : Kits K C0 C1 C2 C3 C4 C5 C6 C7 C8 C9 KE := ⟨kk0, kk1, kk2, kk3, kk4, kk5, kk6, kk7, kk8, kk9⟩
  have Cdeal : Cal P w K mg base 1 "_law_deal" (spDeal K) [] := ⟨⟨_, _, _, [], ok_deal F_deal T.toBt, PySem.W.mg_of X G a_deal, k_deal, b_deal, .nil⟩⟩
  have Cdraw : Cal P w K mg base 2 "_law_draw" spDraw [] := ⟨⟨_, _, _, [], ok_draw F_draw T.toBt, PySem.W.mg_of X G a_draw, k_draw, b_draw, .nil⟩⟩
  have Cpick : Cal P w K mg base 3 "_law_pick" (spPick K) [] := ⟨⟨_, _, _, [], ok_pick F_pick T.toBt Cdraw, PySem.W.mg_of X G a_pick, k_pick, b_pick, .nil⟩⟩
  have Cany : Cal P w K mg base 8 "_law_any" (spAny K 5) [] := ⟨⟨_, _, _, [], any_ok F_any T.toBt Cdraw Cpick (PySem.W.mg_of X G a_any) b_any 5, PySem.W.mg_of X G a_any, k_any, b_any, .nil⟩⟩
  have Ck : Cal P w K mg base 3 "_law_kept" spKept [] := ⟨⟨_, _, _, [], ok_kept F_kept N, PySem.W.mg_of X G a_kept, k_kept, b_kept, .nil⟩⟩
  have CkN : Cal P w K mg base 3 "_law_kept_by_names" spKept [] := ⟨⟨_, _, _, [], ok_keptN F_kept_by_names N, PySem.W.mg_of X G a_kept_by_names, k_kept_by_names, b_kept_by_names, .nil⟩⟩
  have Cs : Cal P w K mg base 3 "_law_sorts" (spSorts K (kinds C0 C1 C2 C3 C4 C5 C6 C7 C8 C9 KE)) [] := ⟨⟨_, _, _, [], ok_sorts F_sorts N M5 S, PySem.W.mg_of X G a_sorts, k_sorts, b_sorts, .nil⟩⟩
  exact ok_law F_law T N M5 Cdeal Cany Ck CkN Cs Y
theorem walk_law {l : PySem.W.OpenLaw} {q : Program} {loose : List Str} {XP : (Str → Option Value) → Heap → Prop} {YP : World → Heap → Prop} {d : DefRec} {K : Params → PySem.W.Frag} (hn : l.most = some 63) (hdf : d.params.defaults = [])
    (hY : ∀ (w : World) (h : Heap), YP w h → (K w.params).In h)
    (F : ∀ (w : World) (mg : Str → Option Value) (fa : Addr) (h : Heap), (K w.params).In h → h.Ns mainGlobals mg → mg d.name = some (.ref fa) →
      ∃ fd : FuncData, (∀ (s : Shared) (u : Value), BindsTo s fd ⟨[u], []⟩ [("_law_script", u)]) ∧ ∀ base : Heap, (K w.params).In base → base.Ns mainGlobals mg → FnG l.prog w (K w.params) mg base 9 fa fd p_law (spLaw (K w.params))) :
    PySem.W.WalkO q loose XP YP l.row.toRowW d [] (fun f vs => PySem.call f vs) :=
  L2.walk_ofG (n := 63) (k := 9) (x := "_law_script") (sp := fun K => spLaw K) hn (by decide) hdf ⟨rfl, by decide, by decide⟩ hY F (fun _ _ a ns hl _ hS => ⟨a, ns, rfl, hS, hl, fun _ => rfl⟩)
end Z
set_option Elab.async false
set_option linter.all false
open PySem PySem.W PyProof.Rows
set_option maxRecDepth 100000 in
set_option maxHeartbeats 16000000 in
theorem PySem.Challenge.cw_foreheads_k01_errors_and_what_they_keep_holds : PySem.Challenge.rw_foreheads_k01_errors_and_what_they_keep.Holds := by
  w_on; o_law; k_head; (case hw => w_witness2)
  k_fill
  refine Z.walk_law (l := PySem.Challenge.rw_foreheads_k01_errors_and_what_they_keep) rfl rfl (fun w h Y => PySem.W.kIn_of Y) ?F
  case F =>
    intro w mg fa h KX G hmg
    refine' Z.all_mk KX G hmg ?aK ?a0 ?kc0 ?ga0 ?gg0 ?ex0 ?hd0 ?ha0 ?hm0 ?x0 ?sa0 ?nf0 ?ii0 ?ti0 ?li0 ?ci0 ?ki0 ?a1 ?kc1 ?ga1 ?gg1 ?ex1 ?hd1 ?ha1 ?hm1 ?x1 ?sa1 ?nf1 ?ii1 ?ti1 ?li1 ?ci1 ?ki1 ?a2 ?kc2 ?ga2 ?gg2 ?ex2 ?hd2 ?ha2 ?hm2 ?x2 ?sa2 ?nf2 ?ii2 ?ti2 ?li2 ?ci2 ?ki2 ?a3 ?kc3 ?ga3 ?gg3 ?ex3 ?hd3 ?ha3 ?hm3 ?x3 ?sa3 ?nf3 ?ii3 ?ti3 ?li3 ?ci3 ?ki3 ?a4 ?kc4 ?ga4 ?gg4 ?ex4 ?hd4 ?ha4 ?hm4 ?x4 ?sa4 ?nf4 ?ii4 ?ti4 ?li4 ?ci4 ?ki4 ?a5 ?kc5 ?ga5 ?gg5 ?ex5 ?hd5 ?ha5 ?hm5 ?e5 ?a6 ?kc6 ?ga6 ?gg6 ?ex6 ?hd6 ?ha6 ?hm6 ?x6 ?sa6 ?nf6 ?ii6 ?ti6 ?li6 ?ci6 ?ki6 ?a7 ?kc7 ?ga7 ?gg7 ?ex7 ?hd7 ?ha7 ?hm7 ?x7 ?sa7 ?nf7 ?ii7 ?ti7 ?li7 ?ci7 ?ki7 ?a8 ?kc8 ?ga8 ?gg8 ?ex8 ?hd8 ?ha8 ?hm8 ?x8 ?sa8 ?nf8 ?ii8 ?ti8 ?li8 ?ci8 ?ki8 ?a9 ?kc9 ?ga9 ?gg9 ?ex9 ?hd9 ?ha9 ?hm9 ?x9 ?sa9 ?nf9 ?ii9 ?ti9 ?li9 ?ci9 ?ki9 ?hn ?ht ?r0 ?r1 ?r2 ?r3 ?r4 ?r5 ?r6 ?r7 ?r8 ?r9 ?z_int ?z_abs ?z_len ?z_range ?z_tuple ?z_enumerate ?z_repr ?z_isinstance ?z_ValueError ?z_IndexError ?z_KeyError ?a_deal ?l_deal ?c_deal ?k_deal ?a_draw ?l_draw ?c_draw ?k_draw ?a_pick ?l_pick ?c_pick ?k_pick ?a_any ?l_any ?c_any ?k_any ?a_kept ?l_kept ?c_kept ?k_kept ?a_kept_by_names ?l_kept_by_names ?c_kept_by_names ?k_kept_by_names ?a_sorts ?l_sorts ?c_sorts ?k_sorts ?a_law ?l_law ?c_law ?k_law
    (case aK => k_is)
    (case a0 => k_is)
    (case kc0 => k_is)
    (case ga0 => k_is)
    (case gg0 => k_is)
    (case ex0 => k_is)
    (case hd0 => k_is)
    (case ha0 => k_is)
    (case hm0 => k_is)
    (case x0 => k_is)
    (case sa0 => k_is)
    (case nf0 => k_is)
    (case ii0 => k_is)
    (case ti0 => k_is)
    (case li0 => k_is)
    (case ci0 => k_is)
    (case ki0 => k_is)
    (case a1 => k_is)
    (case kc1 => k_is)
    (case ga1 => k_is)
    (case gg1 => k_is)
    (case ex1 => k_is)
    (case hd1 => k_is)
    (case ha1 => k_is)
    (case hm1 => k_is)
    (case x1 => k_is)
    (case sa1 => k_is)
    (case nf1 => k_is)
    (case ii1 => k_is)
    (case ti1 => k_is)
    (case li1 => k_is)
    (case ci1 => k_is)
    (case ki1 => k_is)
    (case a2 => k_is)
    (case kc2 => k_is)
    (case ga2 => k_is)
    (case gg2 => k_is)
    (case ex2 => k_is)
    (case hd2 => k_is)
    (case ha2 => k_is)
    (case hm2 => k_is)
    (case x2 => k_is)
    (case sa2 => k_is)
    (case nf2 => k_is)
    (case ii2 => k_is)
    (case ti2 => k_is)
    (case li2 => k_is)
    (case ci2 => k_is)
    (case ki2 => k_is)
    (case a3 => k_is)
    (case kc3 => k_is)
    (case ga3 => k_is)
    (case gg3 => k_is)
    (case ex3 => k_is)
    (case hd3 => k_is)
    (case ha3 => k_is)
    (case hm3 => k_is)
    (case x3 => k_is)
    (case sa3 => k_is)
    (case nf3 => k_is)
    (case ii3 => k_is)
    (case ti3 => k_is)
    (case li3 => k_is)
    (case ci3 => k_is)
    (case ki3 => k_is)
    (case a4 => k_is)
    (case kc4 => k_is)
    (case ga4 => k_is)
    (case gg4 => k_is)
    (case ex4 => k_is)
    (case hd4 => k_is)
    (case ha4 => k_is)
    (case hm4 => k_is)
    (case x4 => k_is)
    (case sa4 => k_is)
    (case nf4 => k_is)
    (case ii4 => k_is)
    (case ti4 => k_is)
    (case li4 => k_is)
    (case ci4 => k_is)
    (case ki4 => k_is)
    (case a5 => k_is)
    (case kc5 => k_is)
    (case ga5 => k_is)
    (case gg5 => k_is)
    (case ex5 => k_is)
    (case hd5 => k_is)
    (case ha5 => k_is)
    (case hm5 => k_is)
    (case e5 => k_exc)
    (case a6 => k_is)
    (case kc6 => k_is)
    (case ga6 => k_is)
    (case gg6 => k_is)
    (case ex6 => k_is)
    (case hd6 => k_is)
    (case ha6 => k_is)
    (case hm6 => k_is)
    (case x6 => k_is)
    (case sa6 => k_is)
    (case nf6 => k_is)
    (case ii6 => k_is)
    (case ti6 => k_is)
    (case li6 => k_is)
    (case ci6 => k_is)
    (case ki6 => k_is)
    (case a7 => k_is)
    (case kc7 => k_is)
    (case ga7 => k_is)
    (case gg7 => k_is)
    (case ex7 => k_is)
    (case hd7 => k_is)
    (case ha7 => k_is)
    (case hm7 => k_is)
    (case x7 => k_is)
    (case sa7 => k_is)
    (case nf7 => k_is)
    (case ii7 => k_is)
    (case ti7 => k_is)
    (case li7 => k_is)
    (case ci7 => k_is)
    (case ki7 => k_is)
    (case a8 => k_is)
    (case kc8 => k_is)
    (case ga8 => k_is)
    (case gg8 => k_is)
    (case ex8 => k_is)
    (case hd8 => k_is)
    (case ha8 => k_is)
    (case hm8 => k_is)
    (case x8 => k_is)
    (case sa8 => k_is)
    (case nf8 => k_is)
    (case ii8 => k_is)
    (case ti8 => k_is)
    (case li8 => k_is)
    (case ci8 => k_is)
    (case ki8 => k_is)
    (case a9 => k_is)
    (case kc9 => k_is)
    (case ga9 => k_is)
    (case gg9 => k_is)
    (case ex9 => k_is)
    (case hd9 => k_is)
    (case ha9 => k_is)
    (case hm9 => k_is)
    (case x9 => k_is)
    (case sa9 => k_is)
    (case nf9 => k_is)
    (case ii9 => k_is)
    (case ti9 => k_is)
    (case li9 => k_is)
    (case ci9 => k_is)
    (case ki9 => k_is)
    (case hn => k_is)
    (case ht => k_is)
    (case r0 => first | rfl | k_is | decide +kernel)
    (case r1 => first | rfl | k_is | decide +kernel)
    (case r2 => first | rfl | k_is | decide +kernel)
    (case r3 => first | rfl | k_is | decide +kernel)
    (case r4 => first | rfl | k_is | decide +kernel)
    (case r5 => first | rfl | k_is | decide +kernel)
    (case r6 => first | rfl | k_is | decide +kernel)
    (case r7 => first | rfl | k_is | decide +kernel)
    (case r8 => first | rfl | k_is | decide +kernel)
    (case r9 => first | rfl | k_is | decide +kernel)
    (case z_int => k_is)
    (case z_abs => k_is)
    (case z_len => k_is)
    (case z_range => k_is)
    (case z_tuple => k_is)
    (case z_enumerate => k_is)
    (case z_repr => k_is)
    (case z_isinstance => k_is)
    (case z_ValueError => k_is)
    (case z_IndexError => k_is)
    (case z_KeyError => k_is)
    (case a_deal => k_is)
    (case l_deal => k_is)
    (case c_deal => k_is)
    (case k_deal => k_is)
    (case a_draw => k_is)
    (case l_draw => k_is)
    (case c_draw => k_is)
    (case k_draw => k_is)
    (case a_pick => k_is)
    (case l_pick => k_is)
    (case c_pick => k_is)
    (case k_pick => k_is)
    (case a_any => k_is)
    (case l_any => k_is)
    (case c_any => k_is)
    (case k_any => k_is)
    (case a_kept => k_is)
    (case l_kept => k_is)
    (case c_kept => k_is)
    (case k_kept => k_is)
    (case a_kept_by_names => k_is)
    (case l_kept_by_names => k_is)
    (case c_kept_by_names => k_is)
    (case k_kept_by_names => k_is)
    (case a_sorts => k_is)
    (case l_sorts => k_is)
    (case c_sorts => k_is)
    (case k_sorts => k_is)
    (case a_law => k_is)
    (case l_law => k_is)
    (case c_law => k_is)
    (case k_law => k_is)
