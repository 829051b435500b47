import PyProof.Rows.All
import Wide.All
import OpenK.AllK
import Wide.FinOn
import HandS.Base
import HandS.Call
import HandS.List
import HandS.Comp
import HandS.Ends
import HandS.Iter
import HandS.Text
import HandS.Wide
import HandS.Codes
import HandS.Style
import HandS.Words
import HandS.WordsList
import PyProof.EqAt
import PyProof.EqKinds
import PyProof.TupleCall
import KE.KFromBytes
import KE.KExcInit
import HandS.Exc
import HandS.ExcInit
import HandS.ExcIs
import HandS.ExcOwn
import HandS.ExcField
import HandS.MakeKwOnly
import KE.KExcIs
import PyProof.ExcBaseAll.IndexError
import PyProof.ExcBaseAll.LookupError
import HandS.RaiseMore
import PyProof.ReprRoads
import PyProof.ReprLen
import PyProof.CallFns
import HandS.IsInst
import HandS.StrMore
import PyProof.Rows.RegReprOcc
import HandS.TupAny
import KE.GoesZip
import KE.GoesMore
import KE.KDictZip
import KE.KStar
import HandS.Star
import HandS.Walk
import HandS.WordsExc
import HandS.Steps
import HandS.Replace
import HandS.ReplaceLit
import PyProof.ListStr
import PyProof.TupleOfStr
import PySem.Challenge.RW_foreheads_k03_tables_refused
set_option Elab.async false
set_option linter.all false
set_option maxRecDepth 100000
set_option maxHeartbeats 4000000
namespace Z
open PySem PySem.Spec PyProof.Rows L2
def Sm (H H' : Hp) : Prop := ∀ b o, H b = some o → H' b = some o
theorem Sm.refl (H : Hp) : Sm H H := fun _ _ h => h
theorem Sm.trans {H H1 H2 : Hp} (a : Sm H H1) (b : Sm H1 H2) : Sm H H2 := fun c o h => b c o (a c o h)
theorem Sm.new {H : Hp} {p : Addr} {o : HO} (h : H p = none) : Sm H (upd H p o) := fun b u e => by
  rw [upd_ne (ne_of_none e h)]; exact e
theorem Sm.rd {H H' : Hp} {a : Addr} {u : HO} (e : Sm H H') (h : Rd H a u) : Rd H' a u := by
  rcases h with h | ⟨o, h⟩
  · exact .inl (e a _ h)
  · exact .inr ⟨o, e a _ h⟩
theorem Sm.seq {K : PySem.W.Frag} {H H' : Hp} {a : Addr} {xs : List V} (e : Sm H H') (h : SqL K H a xs) : SqL K H' a xs := by
  rcases h with h | h
  · exact .inl (e.rd h)
  · exact .inr h
theorem Sm.tup {K : PySem.W.Frag} {H H' : Hp} {a : Addr} {xs : List V} (e : Sm H H') (h : SqT K H a xs) : SqT K H' a xs := by
  rcases h with h | h
  · exact .inl (e.rd h)
  · exact .inr h
theorem Sm.free {H H' : Hp} (e : Sm H H') {l : Addr} (h : H' l = none) : H l = none := by
  cases q : H l with
  | none => rfl
  | some o => rw [e l o q] at h; cases h
mutual
theorem dp_mono {K : PySem.W.Frag} {H H' : Hp} (e : Sm H H') : ∀ {v : V} {d : PyData}, Dp K H v d → Dp K H' v d
  | _, _, .non => .non
  | _, _, .bl b => .bl b
  | _, _, .int i => .int i
  | _, _, .str x => .str x
  | _, _, .lst s a => .lst (e.seq s) (dpAll_mono e a)
  | _, _, .tup s a => .tup (e.tup s) (dpAll_mono e a)
theorem dpAll_mono {K : PySem.W.Frag} {H H' : Hp} (e : Sm H H') : ∀ {vs : List V} {ds : List PyData}, DpAll K H vs ds → DpAll K H' vs ds
  | _, _, .nil => .nil
  | _, _, .cons h t => .cons (dp_mono e h) (dpAll_mono e t)
end
theorem dpAll_ints {K : PySem.W.Frag} {H : Hp} : ∀ l : List Int, DpAll K H (l.map V.int) (l.map PyData.int)
  | [] => .nil
  | x :: l => .cons (.int x) (dpAll_ints l)
theorem dpAll_strs {K : PySem.W.Frag} {H : Hp} : ∀ l : List Str, DpAll K H (l.map V.str) (l.map PyData.str)
  | [] => .nil
  | x :: l => .cons (.str x) (dpAll_strs l)
theorem dpAll_bools {K : PySem.W.Frag} {H : Hp} : ∀ l : List Bool, DpAll K H (l.map V.bl) (l.map PyData.bool)
  | [] => .nil
  | x :: l => .cons (.bl x) (dpAll_bools l)
theorem dpAll_len {K : PySem.W.Frag} {H : Hp} : ∀ {vs : List V} {ds : List PyData}, DpAll K H vs ds → vs.length = ds.length
  | _, _, .nil => rfl
  | _, _, .cons _ t => by rw [List.length_cons, List.length_cons, dpAll_len t]
theorem dpAll_get {K : PySem.W.Frag} {H : Hp} : ∀ {vs : List V} {ds : List PyData} {i : Nat} {d : PyData}, DpAll K H vs ds → ds[i]? = some d → ∃ v, vs[i]? = some v ∧ Dp K H v d
  | _, _, _, _, .nil, e => by simp at e
  | _, _, 0, _, .cons h t, e => by
    have e' : _ = _ := Option.some.inj e
    subst e'
    exact ⟨_, rfl, h⟩
  | _, _, i + 1, d, .cons h t, e => dpAll_get (i := i) t e
theorem dpAll_append {K : PySem.W.Frag} {H : Hp} : ∀ {vs ws : List V} {ds es : List PyData}, DpAll K H vs ds → DpAll K H ws es → DpAll K H (vs ++ ws) (ds ++ es)
  | _, _, _, _, .nil, h => h
  | _, _, _, _, .cons h t, k => .cons h (dpAll_append t k)
/-! the heap without two addresses -/
def msk (a c : Addr) (H : Hp) : Hp := fun b => if b = a ∨ b = c then none else H b
theorem msk_ne {a c b : Addr} {H : Hp} (h1 : b ≠ a) (h2 : b ≠ c) : msk a c H b = H b := by
  unfold msk; rw [if_neg (fun h => h.elim h1 h2)]
theorem msk_some {a c b : Addr} {H : Hp} {o : HO} (h : msk a c H b = some o) : H b = some o ∧ b ≠ a ∧ b ≠ c := by
  unfold msk at h
  split at h
  · cases h
  · rename_i n
    exact ⟨h, fun e => n (.inl e), fun e => n (.inr e)⟩
theorem msk_le {a c : Addr} {H : Hp} : Sm (msk a c H) H := fun _ _ h => (msk_some h).1
theorem msk_new {a c p : Addr} {H : Hp} {o : HO} (h : H p = none) : Sm (msk a c H) (msk a c (upd H p o)) := fun b u e => by
  obtain ⟨e1, n1, n2⟩ := msk_some e
  rw [msk_ne n1 n2, upd_ne (ne_of_none e1 h)]; exact e1
theorem msk_in {a c p : Addr} {H : Hp} {o : HO} (h : p = a ∨ p = c) : msk a c (upd H p o) = msk a c H := by
  funext b
  unfold msk
  by_cases hb : b = a ∨ b = c
  · rw [if_pos hb, if_pos hb]
  · rw [if_neg hb, if_neg hb, upd_ne]
    intro e
    subst e
    exact hb h
theorem msk_at {a c p : Addr} {H : Hp} {o : HO} (h1 : p ≠ a) (h2 : p ≠ c) : msk a c (upd H p o) p = some o := by
  rw [msk_ne h1 h2, upd_same]
theorem Sm.msk {a c : Addr} {H H' : Hp} (h : Sm H H') : Sm (msk a c H) (msk a c H') := fun b o e => by
  obtain ⟨e1, n1, n2⟩ := msk_some e
  rw [msk_ne n1 n2]; exact h b o e1
/-! the source of draws: a list of a list of numbers and a number -/
structure DealS (H : Hp) (a c : Addr) (cells : List Int) (m : Int) : Prop where
  ha : H a = some (.lst [.ref c, .int m])
  hc : H c = some (.lst (cells.map V.int))
  pos : ∀ x ∈ cells, 0 ≤ x
  len : cells.length ≤ 63
  m0 : 0 ≤ m
  m1 : m < 2147483647
theorem DealS.ne {H : Hp} {a c : Addr} {cells : List Int} {m : Int} (h : DealS H a c cells m) : a ≠ c :=
  ne_of h.ha h.hc (by
    intro e
    injection e with e
    cases cells with
    | nil => cases e
    | cons x r => simp at e)
def DealAt (H : Hp) (a c : Addr) : Prop := ∃ cells m, DealS H a c cells m
theorem DealS.sm {H H' : Hp} {a c : Addr} {cells : List Int} {m : Int} (h : DealS H a c cells m) (e : Sm H H') : DealS H' a c cells m :=
  ⟨e _ _ h.ha, e _ _ h.hc, h.pos, h.len, h.m0, h.m1⟩
theorem DealAt.sm {H H' : Hp} {a c : Addr} (h : DealAt H a c) (e : Sm H H') : DealAt H' a c := let ⟨x, y, z⟩ := h; ⟨x, y, z.sm e⟩
theorem DealAt.newNe {H : Hp} {a c p : Addr} (h : DealAt H a c) (n : H p = none) : p ≠ a ∧ p ≠ c := by
  obtain ⟨x, y, z⟩ := h
  exact ⟨fun e => (by rw [e, z.ha] at n; cases n), fun e => (by rw [e, z.hc] at n; cases n)⟩
def spDraw : Sp := fun vs H Q _ => ∃ (a c : Addr) (n : Int), vs = [.ref a, .int n] ∧ DealAt H a c ∧ 0 < n ∧ n < 1073741824 ∧
  ∀ r H', 0 ≤ r → r < n → DealAt H' a c → Sm (msk a c H) (msk a c H') → Q (.int r) H'
theorem shaped_ints (l : List Int) : SeqAt.shaped (.list (l.map PyData.int)) = true := by
  have h1 : ∀ l : List Int, PyData.canLayAll0 (l.map PyData.int) = true := fun l => by
    induction l with
    | nil => simp [PyData.canLayAll0]
    | cons x l ih => simp [PyData.canLayAll0, PyData.canLay0, ih]
  have h2 : ∀ l : List Int, PyData.depthAll (l.map PyData.int) ≤ 1 := fun l => by
    induction l with
    | nil => simp [PyData.depthAll]
    | cons x l ih => simp [PyData.depthAll, PyData.depth] <;> omega
  unfold SeqAt.shaped
  rw [Bool.and_eq_true]
  refine ⟨by simp [PyData.canLay0, h1], decide_eq_true ?_⟩
  have := h2 l
  simp only [PyData.depth]
  omega
end Z
namespace Z
open PySem PySem.Spec PyProof.Rows L2
theorem ite0 {b : Bool} {A B : Prop} (e : b = false) (h : B) : if b = true then A else B := by
  subst e
  exact iteFF h
where iteFF {A B : Prop} (h : B) : if false = true then A else B := by rw [if_neg Bool.false_ne_true]; exact h
theorem ite1 {b : Bool} {A B : Prop} (e : b = true) (h : A) : if b = true then A else B := by
  subst e
  rw [if_pos rfl]; exact h
theorem iteB {b : Bool} {A B : Prop} (h1 : b = true → A) (h0 : b = false → B) : if b = true then A else B := by
  cases b with
  | true => rw [if_pos rfl]; exact h1 rfl
  | false => rw [if_neg Bool.false_ne_true]; exact h0 rfl
theorem snoc_cases {α : Type} (l : List α) : l = [] ∨ ∃ r z, l = r ++ [z] := by
  rcases h : l.reverse with _ | ⟨z, r⟩
  · left
    exact List.reverse_eq_nil_iff.mp h
  · right
    refine ⟨r.reverse, z, ?_⟩
    have := congrArg List.reverse h
    rw [List.reverse_reverse, List.reverse_cons] at this
    exact this
theorem neq_nil0 {ds : List PyData} (h : ds = []) : (!PyData.eqv (.list ds) (.list [])) = false := by
  subst h; simp [PyData.eqv, PyData.eqvAll]
theorem neq_nil1 {ds : List PyData} (h : ds ≠ []) : (!PyData.eqv (.list ds) (.list [])) = true := by
  cases ds with
  | nil => exact absurd rfl h
  | cons x r => simp [PyData.eqv, PyData.eqvAll]
theorem neq_nil {ds : List PyData} : (!PyData.eqv (.list ds) (.list [])) = !ds.isEmpty := by
  cases ds with
  | nil => simp [PyData.eqv, PyData.eqvAll]
  | cons x r => simp [PyData.eqv, PyData.eqvAll]
theorem shaped_nil : SeqAt.shaped (.list []) = true := by decide +kernel
theorem last_get {α : Type} (l : List α) (z : α) : (l ++ [z])[(l ++ [z]).length - 1]? = some z := by
  rw [List.length_append, List.length_singleton, Nat.add_sub_cancel]
  exact List.getElem?_concat_length
end Z

theorem List.getElem?_map_some {α β : Type} {f : α → β} {l : List α} {i : Nat} {x : β} (h : (l.map f)[i]? = some x) : ∃ y, l[i]? = some y ∧ f y = x := by
  rw [List.getElem?_map] at h
  cases e : l[i]? with
  | none => rw [e] at h; cases h
  | some y => rw [e] at h; exact ⟨y, rfl, Option.some.inj h⟩
set_option Elab.async false
set_option linter.all false
set_option maxRecDepth 100000
set_option maxHeartbeats 4000000
namespace Z
open PySem PySem.Spec PyProof.Rows L2
open C8 (Cal pe_c Mak pe_mk Met pe_mt pe_mt0 pe_gc)
def topS (i : Nat) : Stmt := PySem.Challenge.pw_foreheads_k03_tables_refused.main.body.getD i (.Pass ⟨0, 0, 0, 0⟩)
theorem log_lt {n : Int} (h : n < 1073741824) : n.natAbs.log2 < 9000 ∨ n < 0 := by
  by_cases h0 : n < 0
  · exact .inr h0
  · left
    have : n.natAbs < 2 ^ 30 := by omega
    by_cases hz : n.natAbs = 0
    · rw [hz]; decide
    · have := (Nat.log2_lt hz).mpr this
      omega
structure Bt (mg : Str → Option Value) : Prop where
  n_int : mg "int" = none
  n_abs : mg "abs" = none
  n_len : mg "len" = none
  n_range : mg "range" = none
  n_tuple : mg "tuple" = none
section
variable {P : Program} {w : World} {K : PySem.W.Frag} {mg : Str → Option Value} {base : Heap}
abbrev s_draw : Stmt := topS 29
theorem sc_draw : FnScope ["_law_deal_here", "_law_many", "_law_left"] ["_law_deal_here", "_law_many"] (defScope s_draw) := ⟨rfl, rfl, rfl, by decide +kernel, rfl, by decide +kernel, by decide +kernel⟩
theorem ok_draw {f : Addr} {fd : FuncData} {k : Nat} (F : Fun K "_law_draw" "_law_draw" s_draw f fd) (T : Bt mg) : FnOk P w K mg base CX0 (k + 1) f fd ["_law_deal_here", "_law_many"] spDraw := by
  refine F.ok sc_draw (fun vs H Q E h => ?_) (fun cdv A outer s H vs Q E hr h => ?_)
  · obtain ⟨a, c, n, rfl, _⟩ := h
    rfl
  · obtain ⟨a, c, n, rfl, hD, n0, n1, q⟩ := h
    have hu64 : A.units + 3 + 64 < cLine := by have := hr.un; show A.units + 3 + 64 < _; have e : (A.deeper (envOfC "_law_draw" (defScope s_draw) s.heap.objs.size f cdv)).units = A.units + 3 := rfl; omega
    refine ⟨_, (pss_cons (ps_while PassesOwn.never ((pw_and (pt_cmpR (op_neD hu64) (pe_ix ix_list (pv 0) pe_int (fun _ _ => rfl)) (pe_lst pa_nil) (nomark _)) (pw_and1 (pt_cmpR op_eq (pe_ix ix_list (pe_ix ix_list (pv 0) pe_int (fun _ _ => rfl)) (pe_un un_neg pe_int) (fun _ _ => rfl)) pe_int (nomark _))))).pt
        (pss_one (ps_expr (pe_bm0 PySem.F.plainAttrs_list PySem.F.slot_list_pop PySem.F.type_list_pop mt_pop (pe_ix ix_list (pv 0) pe_int (fun _ _ => rfl))))))
      (pss_cons (ps_if (pt_cmpR (op_neD hu64) (pe_ix ix_list (pv 0) pe_int (fun _ _ => rfl)) (pe_lst pa_nil) (nomark _))
        (pss_cons (ps_set (i := 2) sc_draw.nd rfl (Or.inl rfl) (pe_bm0 PySem.F.plainAttrs_list PySem.F.slot_list_pop PySem.F.type_list_pop mt_pop (pe_ix ix_list (pv 0) pe_int (fun _ _ => rfl))))
        (pss_cons (ps_expr (pe_bm PySem.F.plainAttrs_list PySem.F.slot_list_append PySem.F.type_list_append mt_append (pe_ix ix_list (pv 0) pe_int (fun _ _ => rfl)) (pa_cons (pe_op op_fdivW (pv 2) (pv 1)) pa_nil)))
        (pss_one (ps_ret (pe_op op_mod (pe_callTy call_int1 (by rfl) T.n_int (by decide +kernel) (pa_cons (pv 2) pa_nil)) (pv 1))))))
        pss_nil)
      (pss_cons (ps_asg (pe_op op_mod (pe_callTy call_int1 (by rfl) T.n_int (by decide +kernel) (pa_cons (pe_op op_mul (pe_ix ix_list (pv 0) pe_int (fun _ _ => rfl)) pe_int) pa_nil)) pe_int) (pg_sub (pv 0) pe_int set_list))
      (pss_one (ps_ret (pe_op op_mod (pe_callTy call_int1 (by rfl) T.n_int (by decide +kernel) (pa_cons (pe_op op_fdivW (pe_ix ix_list (pv 0) pe_int (fun _ _ => rfl)) pe_int) pa_nil)) (pv 1))))))), ?_⟩
    obtain ⟨cells, m, hS⟩ := hD
    refine ⟨fun j σ H1 => σ = [some (.ref a), some (.int n), none] ∧ ∃ cells, DealS H1 a c cells m ∧ j = cells.length ∧ Sm (msk a c H) (msk a c H1), ⟨_, rfl, cells, hS, rfl, Sm.refl _⟩, ?_⟩
    rintro j σ H1 ⟨rfl, cells, hS, rfl, e1⟩
    refine ⟨_, rfl, a, _, 0, _, rfl, rfl, .inl (.inl hS.ha), atI_nat (j := 0) rfl, Nat.zero_le _, fun p hp => ?_⟩
    have hS2 : DealS (upd H1 p (.lst [])) a c cells m := hS.sm (Sm.new hp)
    have e2 : Sm (msk a c H) (msk a c (upd H1 p (.lst []))) := e1.trans (msk_new hp)
    refine ⟨.list (cells.map .int), .list [], .lst (.inl (.inl hS2.hc)) (dpAll_ints _), .lst (.inl (.inl upd_same)) .nil, shaped_ints _, shaped_nil, _, rfl, ?_⟩
    rcases snoc_cases cells with rfl | ⟨l, z, rfl⟩
    · refine ite0 (neq_nil0 rfl) (ite0 rfl ?_)
      -- if deal[0] != []
      refine ⟨_, rfl, a, _, 0, _, rfl, rfl, .inl (.inl hS2.ha), atI_nat (j := 0) rfl, Nat.zero_le _, fun p2 hp2 => ?_⟩
      have hS3 : DealS (upd (upd H1 p (.lst [])) p2 (.lst [])) a c [] m := hS2.sm (Sm.new hp2)
      have e3 : Sm (msk a c H) (msk a c (upd (upd H1 p (.lst [])) p2 (.lst []))) := e2.trans (msk_new hp2)
      refine ⟨.list (([] : List Int).map .int), .list [], .lst (.inl (.inl hS3.hc)) (dpAll_ints _), .lst (.inl (.inl upd_same)) .nil, shaped_ints _, shaped_nil, _, rfl, ?_⟩
      refine ite0 (neq_nil0 rfl) ?_
      -- deal[1] = int(deal[1] * 48271) % 2147483647
      refine ⟨_, rfl, a, _, 1, _, rfl, rfl, .inl (.inl hS3.ha), atI_nat (j := 1) rfl, m, 48271, rfl, rfl, .inr ⟨by decide, by decide⟩, .inl ⟨_, rfl, _, _, rfl, rfl, (show (0 : Int) < 2147483647 by decide), _, rfl, a, _, 1, 1, rfl, rfl, hS3.ha, rfl, ?_⟩⟩
      have m0 : 0 ≤ m * 48271 % 2147483647 := Int.emod_nonneg _ (by decide)
      have m1 : m * 48271 % 2147483647 < 2147483647 := Int.emod_lt_of_pos _ (by decide)
      have hS4 : DealS (upd (upd (upd H1 p (.lst [])) p2 (.lst [])) a (.lst [.ref c, .int (m * 48271 % 2147483647)])) a c [] (m * 48271 % 2147483647) :=
        ⟨upd_same, by rw [upd_ne hS3.ne.symm]; exact hS3.hc, hS3.pos, hS3.len, m0, m1⟩
      -- return int(deal[1] // 8) % many
      refine ⟨_, rfl, a, _, 1, _, rfl, rfl, .inl (.inl hS4.ha), atI_nat (j := 1) rfl, _, 8, rfl, rfl, ⟨by decide, by decide⟩, .inl ⟨_, rfl, _, rfl, _, n, rfl, rfl, n0, ?_⟩⟩
      refine q _ _ (Int.emod_nonneg _ (by omega)) (Int.emod_lt_of_pos _ n0) ⟨_, _, hS4⟩ ?_
      rw [msk_in (.inl rfl)]
      exact e3
    · refine ite1 (neq_nil1 (by simp)) ?_
      -- deal[0][-1] == 0
      have hz : 0 ≤ z := hS2.pos z (by simp)
      have hp' : ∀ x ∈ l, 0 ≤ x := fun x hx => hS2.pos x (by simp [hx])
      have hl' : l.length + 1 ≤ 63 := by have := hS2.len; simpa using this
      have hm : ((l ++ [z]).map V.int) = l.map V.int ++ [V.int z] := by simp
      refine ⟨_, rfl, a, _, 0, _, rfl, rfl, .inl (.inl hS2.ha), atI_nat (j := 0) rfl, 1, rfl, c, _, -1, _, rfl, rfl, .inl (.inl hS2.hc), (by rw [hm]; exact atI_last _ _), rfl, _, rfl, iteB (fun hb => ?_) (fun hb => ?_)⟩
      · -- pop
        refine ⟨fun σ' H' => σ' = [some (.ref a), some (.int n), none] ∧ ∃ cells, DealS H' a c cells m ∧ cells.length = l.length ∧ Sm (msk a c H) (msk a c H'), fun σ' H' hN => ?_, ?_⟩
        · obtain ⟨rfl, cells, h1, h2, h3⟩ := hN
          exact ⟨_, by rw [List.length_append, List.length_singleton]; exact Nat.lt_succ_self _, rfl, cells, h1, h2.symm, h3⟩
        · refine ⟨_, rfl, a, _, 0, _, rfl, rfl, .inl (.inl hS2.ha), atI_nat (j := 0) rfl, .inl ⟨rfl, _, .inl (.inl hS2.hc)⟩, c, _, V.int z, rfl, rfl, hS2.hc, (by rw [hm]; exact last_get _ _), ?_⟩
          refine ⟨rfl, l, ⟨by rw [upd_ne hS2.ne]; exact hS2.ha, by rw [upd_same, hm, List.dropLast_concat], hp', by omega, hS2.m0, hS2.m1⟩, rfl, ?_⟩
          rw [msk_in (.inr rfl)]
          exact e2
      · -- the loop's end, if deal[0] != []
        refine ⟨_, rfl, a, _, 0, _, rfl, rfl, .inl (.inl hS2.ha), atI_nat (j := 0) rfl, Nat.zero_le _, fun p2 hp2 => ?_⟩
        have hS3 : DealS (upd (upd H1 p (.lst [])) p2 (.lst [])) a c (l ++ [z]) m := hS2.sm (Sm.new hp2)
        have e3 : Sm (msk a c H) (msk a c (upd (upd H1 p (.lst [])) p2 (.lst []))) := e2.trans (msk_new hp2)
        refine ⟨.list ((l ++ [z]).map .int), .list [], .lst (.inl (.inl hS3.hc)) (dpAll_ints _), .lst (.inl (.inl upd_same)) .nil, shaped_ints _, shaped_nil, _, rfl, ?_⟩
        refine ite1 (neq_nil1 (by simp)) ?_
        -- left = deal[0].pop()
        refine ⟨_, rfl, a, _, 0, _, rfl, rfl, .inl (.inl hS3.ha), atI_nat (j := 0) rfl, .inl ⟨rfl, _, .inl (.inl hS3.hc)⟩, c, _, V.int z, rfl, rfl, hS3.hc, (by rw [hm]; exact last_get _ _), ?_⟩
        have hS4 : DealS (upd (upd (upd H1 p (.lst [])) p2 (.lst [])) c (.lst ((l ++ [z]).map V.int).dropLast)) a c l m :=
          ⟨by rw [upd_ne hS3.ne]; exact hS3.ha, by rw [upd_same, hm, List.dropLast_concat], hp', by omega, hS3.m0, hS3.m1⟩
        -- deal[0].append(left // many)
        refine ⟨_, rfl, a, _, 0, _, rfl, rfl, .inl (.inl hS4.ha), atI_nat (j := 0) rfl, .inl ⟨rfl, _, .inl (.inl hS4.hc)⟩, _, rfl, _, rfl, z, n, rfl, rfl, ⟨n0, (log_lt n1).resolve_right (by omega)⟩, c, _, _, rfl, rfl, hS4.hc, by rw [List.length_map]; exact small1000 (by omega), ?_⟩
        -- return int(left) % many
        refine ⟨_, rfl, .inl ⟨_, rfl, _, rfl, z, n, rfl, rfl, n0, ?_⟩⟩
        refine q _ _ (Int.emod_nonneg _ (by omega)) (Int.emod_lt_of_pos _ n0) ⟨l ++ [z / n], m, by rw [upd_ne hS4.ne]; exact hS4.ha, by rw [upd_same]; simp, fun x hx => ?_, by rw [List.length_append, List.length_singleton]; omega, hS4.m0, hS4.m1⟩ ?_
        · rcases List.mem_append.mp hx with h | h
          · exact hp' x h
          · rw [List.mem_singleton.mp h]; exact Int.ediv_nonneg hz (by omega)
        · rw [msk_in (.inr rfl), msk_in (.inr rfl)]
          exact e3

/-! deal -/
abbrev s_deal : Stmt := topS 28
abbrev n_deal : List Str := ["_law_script", "_law_base", "_law_cells", "_law_cell", "_law_mixed"]
abbrev p_deal : List Str := ["_law_script", "_law_base"]
theorem sc_deal : FnScope n_deal p_deal (defScope s_deal) := ⟨rfl, rfl, rfl, by decide +kernel, rfl, by decide +kernel, by decide +kernel⟩
def spDeal (K : PySem.W.Frag) : Sp := fun vs H Q _ => ∃ (a : Addr) (ns : List Int) (b : Int), vs = [.ref a, .int b] ∧ SqL K H a (ns.map V.int) ∧ ns.length ≤ 63 ∧
  ∀ d c H', Sm H H' → H d = none → H c = none → DealAt H' d c → Q (.ref d) H'
theorem absnn (x : Int) : 0 ≤ if x < 0 then -x else x := by split <;> omega
theorem cut_map (l : List Int) (lo hi : Option Int) : ∃ r : List Int, cutV (l.map V.int) lo hi = r.map V.int ∧ r.length ≤ l.length := by
  refine ⟨(l.drop (HT.sIx (l.map V.int).length 0 lo)).take (HT.sIx (l.map V.int).length (l.map V.int).length hi - HT.sIx (l.map V.int).length 0 lo), ?_, ?_⟩
  · unfold cutV
    rw [List.map_take, List.map_drop]
  · rw [List.length_take, List.length_drop]
    omega
theorem ok_deal {f : Addr} {fd : FuncData} {k : Nat} (F : Fun K "_law_deal" "_law_deal" s_deal f fd) (T : Bt mg) : FnOk P w K mg base CX0 (k + 1) f fd p_deal (spDeal K) := by
  refine F.ok sc_deal (fun vs H Q E h => ?_) (fun cdv A outer s H vs Q E hr h => ?_)
  · obtain ⟨a, ns, b, rfl, _⟩ := h
    rfl
  · obtain ⟨a, ns, b, rfl, hS, hlen, q⟩ := h
    refine ⟨_, (pss_cons (ps_setLc (i := 2) (own := [("_law_cell", 3)]) (tt := tYes) (by rfl) sc_deal.nd rfl rfl (sw_true rfl rfl rfl (by decide +kernel)) (pi_list (pe_slice sl_list (pv 0) (po_some (pv 1)) (po_some pe_int))) (blkOk_by (N := n_deal) (sc := defScope s_deal) (own := [("_law_cell", 3)]) (by decide +kernel)) (fun _ _ _ _ _ => pg_name (i := 3) sc_deal.nd rfl (Or.inl rfl)) (fun _ _ _ _ _ => pts_nil) (fun _ _ _ _ _ => (pe_callB call_abs (by rfl) T.n_abs (by decide +kernel) (pa_cons (pv 3) pa_nil))))
      (pss_cons (ps_set (i := 4) sc_deal.nd rfl (Or.inl rfl) (pe_op op_add pe_int (pe_op op_mul pe_int (pv 1))))
      (pss_cons (ps_for PassesOwn.never rfl (pi_list (pv 2)) (pg_name (i := 3) sc_deal.nd rfl (Or.inl rfl))
        (pss_one (ps_set (i := 4) sc_deal.nd rfl (Or.inl rfl) (pe_op op_mod (pe_callTy call_int1 (by rfl) T.n_int (by decide +kernel) (pa_cons (pe_op op_add (pe_op op_mul (pv 4) pe_int) (pe_op op_mod (pe_callTy call_int1 (by rfl) T.n_int (by decide +kernel) (pa_cons (pv 3) pa_nil)) pe_int)) pa_nil)) pe_int))))
      (pss_one (ps_ret (pe_lst (pa_cons (pe_revL (pe_lc (own := [("_law_cell", 3)]) (by rfl) sc_deal.nd (pi_list (pv 2)) (blkOk_by (N := n_deal) (sc := defScope s_deal) (own := [("_law_cell", 3)]) (by decide +kernel)) (fun _ _ _ _ _ => pg_name (i := 3) sc_deal.nd rfl (Or.inl rfl)) (fun _ _ _ _ _ => (pts_one (pt_cmpR op_ge (pv 3) (pe_op op_pow pe_int pe_int) (nomark _)))) (fun _ _ _ _ _ => (pv 3)))) (pa_cons (pe_op op_add (pe_op op_mod (pe_callTy call_int1 (by rfl) T.n_int (by decide +kernel) (pa_cons (pv 4) pa_nil)) pe_int) pe_int) pa_nil)))))))), ?_⟩
    obtain ⟨L, eL, lL⟩ := cut_map ns (some b) (some 63)
    refine ⟨_, rfl, _, rfl, b, rfl, 63, rfl, a, _, rfl, hS, fun p hp => ?_⟩
    have eP : cutV (ns.map V.int) (some b) (some 63) = L.map V.int := eL
    rw [eP]
    have sP : Sm H (upd H p (.lst (L.map V.int))) := Sm.new hp
    refine ⟨p, rfl, ⟨_, .inl (.inl upd_same)⟩, fun D hD => ?_⟩
    have hpD : p ≠ D := fun e => by rw [← e, upd_same] at hD; cases hD
    refine lc_list (K := K) (a := p) (xs := L.map V.int) (fun i H' => Sm H H' ∧ H' p = some (.lst (L.map V.int)) ∧ ∃ acc : List Int, H' D = some (.lst (acc.map V.int)) ∧ acc.length = i ∧ ∀ x ∈ acc, 0 ≤ x) ?_ (fun i H' _ h => .inl (.inl h.2.1)) ?_ ?_
    · exact ⟨sP.trans (Sm.new hD), by rw [upd_ne hpD, upd_same], [], upd_same, rfl, fun _ h => nomatch h⟩
    · rintro i x H1 hx ⟨s1, e1, acc, e2, la, pa⟩
      obtain ⟨y, hy, rfl⟩ := List.getElem?_map_some hx
      have hi : i < L.length := (List.getElem?_eq_some_iff.mp hy).1
      refine ⟨rfl, _, rfl, y, rfl, acc.map V.int, e2, ?_, ?_, ?_, ?_⟩
      · rw [List.length_map]; exact small1000 (by omega)
      · exact fun b o h => by
          rw [upd_ne]
          · exact s1 b o h
          · intro e
            subst e
            rw [sP b o h] at hD
            cases hD
      · rw [upd_ne hpD]; exact e1
      · refine ⟨acc ++ [if y < 0 then -y else y], by rw [upd_same, List.map_append]; rfl, by rw [List.length_append, List.length_singleton, la], fun x hx => ?_⟩
        rcases List.mem_append.mp hx with h | h
        · exact pa x h
        · rw [List.mem_singleton.mp h]; exact absnn y
    · rintro H1 ⟨s1, e1, cs, e2, la, pa⟩
      rw [List.length_map] at la
      -- mixed
      refine ⟨_, rfl, 17, b, rfl, rfl, .inl ⟨by decide, by decide⟩, _, _, rfl, rfl, ?_⟩
      refine ⟨_, rfl, D, rfl, ⟨_, .inl (.inl e2)⟩, for_list (K := K) (a := D) (xs := cs.map V.int) (fun i σ H' => H' = H1 ∧ ∃ v m, σ = [some (.ref a), some (.int b), some (.ref D), v, some (.int m)]) ⟨rfl, none, _, rfl⟩ (fun i σ H' _ h => by rw [h.1]; exact .inl (.inl e2)) ?_ ?_⟩
      · rintro i x σ H' hx ⟨rfl, v, m, rfl⟩
        obtain ⟨y, hy, rfl⟩ := List.getElem?_map_some hx
        refine ⟨_, rfl, m, 16807, rfl, rfl, .inr ⟨by decide, by decide⟩, _, rfl, .inl ⟨y, rfl, y, 2147483629, rfl, rfl, (show (0 : Int) < 2147483629 by decide), _, _, rfl, rfl, .inl ⟨_, rfl, _, 2147483647, rfl, rfl, (show (0 : Int) < 2147483647 by decide), rfl, _, _, rfl⟩⟩⟩
      · rintro σ H' ⟨rfl, v, m, rfl⟩
        -- the list of the great cells, turned
        refine ⟨_, rfl, D, rfl, ⟨_, .inl (.inl e2)⟩, fun D2 hD2 => ?_⟩
        have hD2D : D ≠ D2 := fun e => by rw [← e, e2] at hD2; cases hD2
        refine lc_list (K := K) (a := D) (xs := cs.map V.int) (fun i H2 => Sm H H2 ∧ H2 D = some (.lst (cs.map V.int)) ∧ ∃ acc : List Int, H2 D2 = some (.lst (acc.map V.int)) ∧ acc.length ≤ i ∧ ∀ x ∈ acc, 0 ≤ x) ?_ (fun i H' _ h => .inl (.inl h.2.1)) ?_ ?_
        · exact ⟨s1.trans (Sm.new hD2), by rw [upd_ne hD2D]; exact e2, [], upd_same, Nat.le_refl _, fun _ h => nomatch h⟩
        · rintro i x H2 hx ⟨s2, e3, acc, e4, la2, pa2⟩
          obtain ⟨y, hy, rfl⟩ := List.getElem?_map_some hx
          have hi : i < cs.length := (List.getElem?_eq_some_iff.mp hy).1
          have hy0 : 0 ≤ y := pa y (List.mem_of_getElem? hy)
          refine ⟨rfl, _, rfl, 10, 18, rfl, rfl, ⟨by decide, by decide, by decide⟩, _, _, rfl, rfl, _, rfl, iteB (fun hb => ?_) (fun hb => ?_)⟩
          · refine ⟨_, rfl, acc.map V.int, e4, ?_, ?_, ?_, ?_⟩
            · rw [List.length_map]; exact small1000 (by omega)
            · exact fun b o h => by
                rw [upd_ne]
                · exact s2 b o h
                · intro e
                  subst e
                  rw [s1 b o h] at hD2
                  cases hD2
            · rw [upd_ne hD2D]; exact e3
            · refine ⟨acc ++ [y], by rw [upd_same, List.map_append]; rfl, by rw [List.length_append, List.length_singleton]; omega, fun x hx => ?_⟩
              rcases List.mem_append.mp hx with h | h
              · exact pa2 x h
              · rw [List.mem_singleton.mp h]; exact hy0
          · exact ⟨s2, e3, acc, e4, by omega, pa2⟩
        · rintro H2 ⟨s2, e3, acc, e4, la2, pa2⟩
          rw [List.length_map] at la2
          refine ⟨D2, _, rfl, .inl (.inl e4), fun R hR => ?_⟩
          refine ⟨_, rfl, .inl ⟨m, rfl, m, 2147483646, rfl, rfl, (show (0 : Int) < 2147483646 by decide), _, _, rfl, rfl, (show 2 ≤ sizeLine by decide), fun d hd => ?_⟩⟩
          have m0 : 0 ≤ m % 2147483646 := Int.emod_nonneg _ (by decide)
          have m1 : m % 2147483646 < 2147483646 := Int.emod_lt_of_pos _ (by decide)
          have sR : Sm H2 (upd H2 R (.lst (acc.map V.int).reverse)) := Sm.new hR
          have hRd : R ≠ d := fun e => by rw [← e, upd_same] at hd; cases hd
          refine q d R _ ((s2.trans sR).trans (Sm.new hd)) ((s2.trans sR).free hd) (s2.free hR) ⟨acc.reverse, m % 2147483646 + 1, ⟨upd_same, ?_, fun x hx => pa2 x (List.mem_reverse.mp hx), by rw [List.length_reverse]; omega, by omega, by omega⟩⟩
          rw [upd_ne hRd, upd_same, List.map_reverse]
/-! pick -/
abbrev s_pick : Stmt := topS 30
theorem sc_pick : FnScope ["_law_deal_here", "_law_some"] ["_law_deal_here", "_law_some"] (defScope s_pick) := ⟨rfl, rfl, rfl, by decide +kernel, rfl, by decide +kernel, by decide +kernel⟩
def spPick (K : PySem.W.Frag) : Sp := fun vs H Q _ => ∃ (a c l : Addr) (xs : List V), vs = [.ref a, .ref l] ∧ DealAt H a c ∧ SqL K (msk a c H) l xs ∧ 0 < xs.length ∧ xs.length ≤ 1000 ∧
  ∀ (j : Nat) v H', xs[j]? = some v → DealAt H' a c → Sm (msk a c H) (msk a c H') → Q v H'
theorem ok_pick {f : Addr} {fd : FuncData} {k : Nat} (F : Fun K "_law_pick" "_law_pick" s_pick f fd) (T : Bt mg) (C : Cal P w K mg base (k + 1) "_law_draw" spDraw []) : FnOk P w K mg base CX0 (k + 2) f fd ["_law_deal_here", "_law_some"] (spPick K) := by
  refine F.ok sc_pick (fun vs H Q E h => ?_) (fun cdv A outer s H vs Q E hr h => ?_)
  · obtain ⟨a, c, l, xs, rfl, _⟩ := h
    rfl
  · obtain ⟨a, c, l, xs, rfl, hD, hS, h0, h1, q⟩ := h
    refine ⟨_, (pss_one (ps_ret (pe_ix ix_list (pv 1) (pe_c C hr (Nat.le_refl _) (by rfl) (pa_cons (pv 0) (pa_cons (pe_callB call_len_seq (by rfl) T.n_len (by decide +kernel) (pa_cons (pv 1) pa_nil)) pa_nil))) (fun _ _ => rfl)))), ?_⟩
    refine ⟨_, rfl, _, rfl, _, rfl, l, xs, rfl, .inl (msk_le.seq hS), a, c, (xs.length : Int), rfl, hD, by omega, by omega, fun r H' r0 r1 hD' e' => ?_⟩
    have hS' : SqL K H' l xs := (e'.trans msk_le).seq hS
    have hj : r.toNat < xs.length := by omega
    refine ⟨l, xs, r, xs[r.toNat], rfl, rfl, hS', at_of (j := r.toNat) (by omega) (List.getElem?_eq_getElem hj), ?_⟩
    exact q r.toNat _ H' (List.getElem?_eq_getElem hj) hD' e'
end
end Z
set_option Elab.async false
set_option linter.all false
set_option maxRecDepth 100000
set_option maxHeartbeats 4000000
set_option autoImplicit false
/-! Errors of own classes as plain values: made by place or by name, their field read, isinstance. -/
namespace PySem
namespace ZX
open PySem.W PySem.Calls PyProof.Rows PySem.HandSPX Builtin Builtin.ObjectAttr
/-- what is asked of the bases of a class that a maker of B's makes -/
structure Chain (B : String) (bm : List Value) : Prop where
  hB : bm.contains (.type B) = true
  hA : bm.contains (.type "AttributeError") = false
  hN : bm.contains (.type "NameError") = false
  hO : bm.contains (.type "object") = true
  hS : ∀ self, refuseLoop self "__setattr__" bm = pure ()
section
variable {M : Model} {A : Around} {E : Value → Shared → Prop} {h : Heap} {g : Array GenState} {d : Drawn} {t : Nat} {os : OsState}
variable {nm q : Str} {C N : Addr} {bs bm bmB : List Value} {hdct : Bool} {sn : List Str} {sub : List Value} {ab : Bool} {col : Option Bool} {dd : Option Addr} {k0 k1 k2 k3 k5 : Option Value} {B newId initId : String}
theorem z_checkNew (F : ExcBaseFacts B newId initId bmB) (hT : Chain B bm) {rest : List Value} {kw : List (Str × Value)} {Q : Unit → Shared → Prop}
    (hC : h.get? C = some (excClassObj nm q C N bs bm hdct sn sub ab col dd k0 k1 k2 k3 k5 newId))
    (hq : Q () ⟨h, g, d, t, os⟩) : wpAny M A (checkBuiltinCall newId ⟨.ref C :: rest, kw⟩) Q E ⟨h, g, d, t, os⟩ := by
  have zc : (Value.ref C :: bm).contains (.type B) = true := by
    rw [List.contains_cons, hT.hB, Bool.or_true]
  have zs := F.noStar
  simp only [checkBuiltinCall, F.newKind, F.newSplit, F.newRow]
  repeat (first
    | refine wpAny_loadPart_at hC ?_
    | (refine wpAny_isSubtype_exc hC ?_; rw [zc])
    | refine wpAny_staticBase_exc hC ?_
    | refine wpAny_madeBy_exc hC ?_
    | simp only [bne_self_eq_false, Bool.false_eq_true, if_false]
    | wp_step)
  exact hq
end
section
variable {prog : Program} {w : World} {A : Around} {E : Value → Shared → Prop} {R : Result → Shared → Prop} {h : Heap} {g : Array GenState} {d : Drawn} {t : Nat} {os : OsState}
variable {nm q : Str} {C N : Addr} {bs bm bmB : List Value} {hdct : Bool} {sn : List Str} {sub : List Value} {ab : Bool} {col : Option Bool} {dd : Option Addr} {k0 k1 k2 k3 k5 : Option Value} {B newId initId : String}
theorem z_new (F : ExcBaseFacts B newId initId bmB) (hT : Chain B bm) {rest : List Value} {kw : List (Str × Value)}
    (hC : h.get? C = some (excClassObj nm q C N bs bm hdct sn sub ab col dd k0 k1 k2 k3 k5 newId))
    (hq : R (.ok (.ret (.ref (h.objs.size + 1))))
      ⟨(h.push { cls := .type "tuple", data := .seq rest.toArray }).push (excO C h.objs.size), g, d, t, os⟩)
    (hrest : rest.length ≤ sizeLine) :
    codeAny (model prog w) A (.builtin newId ⟨.ref C :: rest, kw⟩) R ⟨h, g, d, t, os⟩ := by
  have z0 := F.ends
  have z1 : (Value.ref C :: bm).contains (.type B) = true := by
    rw [List.contains_cons, hT.hB, Bool.or_true]
  have z2 : (Value.ref C :: bm).contains (.type "AttributeError") = false := by
    rw [List.contains_cons, hT.hA]; rfl
  have z3 : (Value.ref C :: bm).contains (.type "NameError") = false := by
    rw [List.contains_cons, hT.hN]; rfl
  refine codeAny_builtinAt F.entry ?_
  unfold Builtin.«BaseException.__new__»
  refine wpAt_bind ?_
  show wpAt _ _ _ (stack >>= _) _ _ _
  refine wpAt_bind (wpAt_stack fun p below => wpAt_of_wpAny ?_)
  wp_walk
  refine wpAt_of_wpAny ?_
  rw [F.owner]
  repeat (first
    | with_reducible refine wpAny_madeHere_exc F.canon hC ?_
    | with_reducible refine wpAny_loadPart_at hC ?_
    | (with_reducible refine wpAny_isSubtype_exc hC ?_; first | rw [z1] | rw [z2] | rw [z3])
    | wp_step)
  show R _ _
  rw [Heap.size_push]
  exact hq
theorem z_typeCall (F : ExcBaseFacts B newId initId bmB) (hT : Chain B bm) {rest : List Value} {kw : List (Str × Value)} {fI : Addr} {Q : Fin → Shared → Prop}
    (hC : h.get? C = some (excClassObj nm q C N bs bm hdct sn sub ab col dd k0 k1 k2 k3 k5 newId))
    (hi : W.Looks (model prog w) h (typeLookup (.ref C) "__init__") (some (.ref fI)))
    (hb : ∀ self, W.Looks (model prog w) h (bindSpecial (.ref fI) self) (.ref fI, [self])) (hrest : rest.length ≤ sizeLine)
    (hq : codeAny (model prog w) A (.call (.ref fI) ⟨.ref (h.objs.size + 1) :: rest, kw⟩)
      (fun r s' => match r with | .ok (.ret v) => v = .none ∧ Q (.done (.ret (.ref (h.objs.size + 1)))) s' | .ok _ => False | .error e => E e s')
      ⟨(h.push (W.kdv_tup rest)).push (excO C h.objs.size), g, d, t, os⟩) :
    wpAny (model prog w) A (Builtin.«type.__call__» ⟨.ref C :: rest, kw⟩) Q E ⟨h, g, d, t, os⟩ := by
  repeat (first
    | with_reducible refine wpAny_loadPart_at hC ?_
    | with_reducible refine wpAny_madeBy_exc hC ?_
    | wp_step)
  refine codeAny_call_builtin_code (Code.quiet_builtin _ F.quiet) (z_checkNew F hT hC ?_)
  refine z_new F hT hC ?_ hrest
  show wpAny _ _ _ _ _ _
  have kk : ∀ b o, h.get? b = some o → ((h.push (W.kdv_tup rest)).push (excO C h.objs.size)).get? b = some o :=
    fun b o e => Heap.get?_push_of_some _ (Heap.get?_push_of_some _ e)
  have c1 := kk _ _ hC
  have c2 : ((h.push (W.kdv_tup rest)).push (excO C h.objs.size)).get? (h.objs.size + 1) = some (excO C h.objs.size) := by
    heap_get
  have c3 : (Value.ref C :: bm).contains (.ref C) = true := by simp
  have i1 := hi.keeps kk
  have b1 := (hb (.ref (h.objs.size + 1))).keeps kk
  unfold isInstance
  repeat (first
    | with_reducible refine wpAny_loadPart_at c2 ?_
    | (with_reducible refine wpAny_isSubtype_exc c1 ?_; rw [c3])
    | wp_step)
  show wpAny _ _ (typeLookup (.ref C) _) _ _ _
  refine i1.at ?_
  refine wpAny_holding (wpAny_bind (b1.at ?_))
  refine wpAny_bind (wpAny_call (codeAny_mono hq fun r s' z => ?_))
  rcases r with e | (v | _ | _ | _) <;> first | exact z | exact z.elim | skip
  obtain ⟨rfl, z⟩ := z
  first
    | exact wpAny_pure (wpAny_pure z)
    | (wp_walk; exact z)
theorem z_call (F : ExcBaseFacts B newId initId bmB) (hT : Chain B bm) {rest : List Value} {kw : List (Str × Value)} {fI : Addr}
    (hC : h.get? C = some (excClassObj nm q C N bs bm hdct sn sub ab col dd k0 k1 k2 k3 k5 newId))
    (hi : W.Looks (model prog w) h (typeLookup (.ref C) "__init__") (some (.ref fI)))
    (hb : ∀ self, W.Looks (model prog w) h (bindSpecial (.ref fI) self) (.ref fI, [self])) (hrest : rest.length ≤ sizeLine)
    (hq : codeAny (model prog w) (A.under (.builtin "type.__call__" ⟨.ref C :: rest, kw⟩))
      (.call (.ref fI) ⟨.ref (h.objs.size + 1) :: rest, kw⟩) (W.InitBack (h.objs.size + 1) R)
      ⟨(h.push (W.kdv_tup rest)).push (excO C h.objs.size), g, d, t, os⟩) :
    codeAny (model prog w) A (.call (.ref C) ⟨rest, kw⟩) R ⟨h, g, d, t, os⟩ := by
  have f1 := tc_lookup
  have f2 := tc_bind (.ref C)
  have ty : (⟨h, g, d, t, os⟩ : Shared).TypeIs (.ref C) "type" := ⟨_, hC, rfl⟩
  refine codeAny_of_tree ?_
  show wpAny _ _ (callAny (.ref C) _) _ _ _
  repeat (any_goals (first
    | assumption
    | with_reducible refine wpAny_loadPart_at hC ?_
    | wp_step))
  refine ⟨rfl, ?_⟩
  refine codeAny_call_builtin_at (Code.quiet_builtin _ (by decide +kernel)) entry_typeCall
    (wpAny_check_type_call_sub hC (z_typeCall F hT hC hi hb hrest ?_))
  refine codeAny_mono hq fun r s' z => ?_
  rcases r with e | (v | _ | _ | _) <;> exact z
end
section
variable {prog : Program} {w : World} {A : Around} {E : Value → Shared → Prop} {R : Result → Shared → Prop} {hp : Heap} {g : Array GenState} {d : Drawn} {t : Nat} {os : OsState}
theorem z_osa {K : W.Frag} {name : Str} {tk : Tok} {v : Value} {x C : Addr} {fv : Array Value} {cd : ClassData}
    (X : K.In hp) (hx : hp.get? x = some { cls := .ref C, data := .fields fv }) (hcd : W.clsIn K C = some cd)
    (ne : cd.mro.isEmpty = false) (hob : cd.mro.contains (.type "object") = true)
    (hpass : ∀ self, refuseLoop self "__setattr__" cd.mro = pure ()) (hh : cd.hasDict = true)
    (ha : W.findIn K (.ref C) name = some none)
    (hq : ∀ h' tk' dx, (∀ b o, b ≠ x → hp.get? b = some o → h'.get? b = some o) → hp.objs.size ≤ dx → dx ≠ x →
      h'.get? x = some { cls := .ref C, dict := some dx, data := .fields fv } →
      h'.Ns1 dx (fun y => if y = name then some v else none) → R (.ok (.ret .none)) ⟨h', g, d, tk', os⟩) :
    codeAny (model prog w) A (.call (.builtin "object.__setattr__") ⟨[.ref x, .str name tk, v], []⟩) R ⟨hp, g, d, t, os⟩ := by
  have I : W.InstAt hp x { cls := .ref C, data := .fields fv } C none := ⟨hx, rfl, rfl, trivial⟩
  have SF := F.store_object
  have xs : x ≠ hp.objs.size := Nat.ne_of_lt (Heap.lt_size hx)
  have sub : W.Looks (model prog w) hp (isInstance (.ref x) (.type "object")) true :=
    I.type.andThen (W.looks_mroIn X (by unfold W.mroIn; rw [hcd, Option.bind_some, if_neg (by rw [ne]; decide), hob]))
  refine codeAny_call_builtin SF.slot.plain SF.entry (@W.check_slot (model prog w) _ _ ⟨hp, g, d, t, os⟩ "object.__setattr__" "object"
    "__setattr__" (.ref x) [.str name tk, v] [] _ SF.kind SF.split sub (SF.args (.ref x) (.str name tk) v) ?_)
  have m1 : W.Looks (model prog w) hp (mroOf (.ref C)) cd.mro := (W.looks_clsIn X hcd).andThen .now
  have m3 : W.Looks (model prog w) hp (storeTaker? none) none := .now
  have m4 : W.Looks (model prog w) hp (classData C) cd := W.looks_clsIn X hcd
  rw [W.osa_eq, refuse_eq]
  refine wpAny_bind (wpAny_bind (I.type.at (wpAny_bind (m1.at ?_))))
  rw [hpass]
  refine wpAny_pure (wpAny_bind (I.type.at (wpAny_bind ((W.looks_findIn X ha).at (wpAny_bind (m3.at ?_))))))
  show wpAny _ _ (storeInOwnDict (.ref x) (.ref C) (.str name tk) name v false) _ _ _
  obtain ⟨nm, bs, mro, ns, qn, hd, sn, sb, ab, col, del⟩ := cd
  dsimp only at hh
  subst hh
  unfold storeInOwnDict ownDictForStores
  repeat (first
    | with_reducible refine store_in_new ?_ ?_
    | with_reducible refine wpAny_loadPart_at hx ?_
    | with_reducible refine m4.at ?_
    | wp_step)
  · exact ⟨_, #[], _, (Heap.get?_update_ne _ _ _ _ xs.symm).trans (Heap.get?_push_at rfl rfl), rfl,
      fun e he => absurd he (by simp), fun _ => rfl⟩
  · intro h' tk' hn' hs
    have hx1 : (hp.push { cls := .type "dict", data := .dict #[] }).get? x = some { cls := .ref C, data := .fields fv } :=
      Heap.get?_push_of_some _ hx
    refine hq h' tk' hp.objs.size (fun b o hb ho => ?_) (Nat.le_refl _) xs.symm ?_ hn'
    · exact (hs.2 b (Nat.ne_of_lt (Heap.lt_size ho))).trans
        ((Heap.get?_update_ne _ _ _ _ hb).trans (Heap.get?_push_of_some _ ho))
    · exact (hs.2 x xs).trans (Heap.get?_update_self _ hx1 rfl)
end
end ZX
end PySem

namespace L2
open PySem PySem.Spec PyProof.Rows
/-- the own error class at C, as the written part tells it -/
structure ErrC (K : PySem.W.Frag) (C : Addr) : Prop where
  cls : ∃ (B newId initId : String) (bmB : List Value) (nm q : Str) (N : Addr) (bs bm : List Value) (sn : List Str) (sub : List Value) (ab : Bool)
    (col : Option Bool) (dd : Option Addr) (k0 k1 k2 k3 k5 : Option Value), ExcBaseFacts B newId initId bmB ∧ PySem.ZX.Chain B bm ∧
    K.lookup C = some (excClassObj nm q C N bs bm true sn sub ab col dd k0 k1 k2 k3 k5 newId)
  sa : PySem.W.findIn K (.ref C) "__setattr__" = some (some (.builtin "object.__setattr__"))
  ga : PySem.W.findIn K (.ref C) "__getattribute__" = some (some (.builtin "BaseException.__getattribute__"))
  gg : PySem.W.findIn K (.ref C) "__getattr__" = some none
  exC : PySem.W.subIn K (.ref C) (.type "BaseException") = some true
  kC : PySem.W.keepIn K (.ref C) = true
  hdC : PySem.W.hasDictIn K C = true
section
variable {X : Cx} {pins : List (Addr × Obj)} {σ : St} {H : Hp} {s : Shared} {a C dx : Addr} {f : Str} {y : V} {u : Value} {Q : Unit → Shared → Prop} {E : Value → Shared → Prop} {A : Around}
theorem err_store (T : ErrC X.K C) (I : Inv X pins σ H s) (e : H a = some (exo a C none)) (hno : PySem.W.findIn X.K (.ref C) f = some none) (ry : RelV y u)
    (h : ∀ dx s', H dx = none → dx ≠ a → Inv X pins σ (upd (upd H dx (exd dx [(f, y)])) a (exo a C (some dx))) s' → Q () s') :
    wpAny (model X.prog X.w) A (setAttr (.ref a) f u) Q E s := by
  obtain ⟨B, newId, initId, bmB, nm, q, N, bs, bm, sn, sub, ab, col, dd, k0, k1, k2, k3, k5, F, hT, hC⟩ := T.cls
  have hcl : PySem.W.clsIn X.K C = some { name := nm, bases := bs, mro := .ref C :: bm, ns := N, qualname := q, hasDict := true, slotNames := sn, subclasses := sub, abstract := ab, collection := col, hasDel := false } := by
    unfold PySem.W.clsIn
    rw [hC] <;> rfl
  obtain ⟨t1, ho⟩ := exo_at I.hok e
  obtain ⟨hp, g, d, t, os⟩ := s
  refine PySem.W.set_plain I.kIn (od := none)
    (ox := { cls := .ref C, dict := none, data := .fields #[.ref t1, .none, .none, .none, .bool false, .none] }) ⟨ho, rfl, rfl, trivial⟩ T.sa ?_
  refine PySem.ZX.z_osa I.kIn ho hcl rfl (by show (Value.ref C :: bm).contains (.type "object") = true; rw [List.contains_cons, hT.hO, Bool.or_true])
    (fun self => by show refuseLoop self "__setattr__" (.ref C :: bm) = pure (); rw [refuseLoop_ref]; exact hT.hS self) rfl hno (fun h' tk' dx k dn dne hx hn => ?_)
  have hnd : H dx = none := I.hok.fresh dn
  have nd : ∀ {b : Addr} {o : Obj}, hp.get? b = some o → b ≠ dx := fun {b o} q => Nat.ne_of_lt (Nat.lt_of_lt_of_le (Heap.lt_size q) dn)
  have na : ∀ {b : Addr}, H b = none → b ≠ a := fun {b} n z => by
    rw [z, e] at n
    cases n
  have U : Un X.fs [] H (upd (upd H dx (exd dx [(f, y)])) a (exo a C (some dx))) hp h' :=
    { keep := fun b o q n _ _ => k b o (na n) q
      slot := fun b o q n _ _ => ⟨o.slots, k b o (na n) q⟩
      free := fun b o q n _ => by
        rw [upd_ne (na n), upd_ne (nd q)]
        exact n
      there := fun b o q _ => by
        by_cases hb : b = a
        · exact ⟨_, by rw [hb]; exact hx⟩
        · exact ⟨o, k b o hb q⟩
      tups := fun b xs q => by
        rw [upd_ne (at_ne e q exo_tup), upd_ne (ne_of_none q hnd)]
        exact q
      frzs := fun b o v q => by
        rw [upd_ne (at_ne e q exo_frz), upd_ne (ne_of_none q hnd)]
        exact q
      tbls := fun b ps q => ⟨#[], by
        rw [upd_ne (at_ne e q exo_tbl), upd_ne (ne_of_none q hnd), q]
        simp⟩ }
  refine h dx _ hnd dne (I.un (t' := tk') U fun b o q => ?_)
  by_cases hb : b = a
  · subst hb
    rw [upd_same] at q
    cases q
    exact exo_ok hx
  · rw [upd_ne hb] at q
    by_cases hd : b = dx
    · subst hd
      rw [upd_same] at q
      cases q
      exact exd_ok hn (relO_put (fs := []) ry fun g => True.intro)
    · rw [upd_ne hd] at q
      exact (I.hok b o q).stay
        (fun c v hc z => k c v (by
          rcases hc with hc | hc
          · rw [hc]
            exact hb
          · exact at_ne e hc exo_own) z)
        (fun c hc => by
          rw [upd_ne (at_ne e hc exo_own), upd_ne (ne_of_none hc hnd)]
          exact hc)
        (fun c xs hc => by
          rw [upd_ne (at_ne e hc exo_tup), upd_ne (ne_of_none hc hnd)]
          exact hc)
end
/-- self.f = e, the first field -/
def tErrSet (K : PySem.W.Frag) (f : Str) (to te : TE) : TS := fun D σ H => te σ H fun y H1 => to σ H1 fun x H2 =>
  ∃ a C : Addr, x = .ref a ∧ ErrC K C ∧ PySem.W.findIn K (.ref C) f = some none ∧ H2 a = some (exo a C none) ∧
    ∀ dx, H2 dx = none → dx ≠ a → D.nx σ (upd (upd H2 dx (exd dx [(f, y)])) a (exo a C (some dx)))
section
variable {X : Cx} {o e : Expr} {es : List Expr} {to te : TE} {ta : TA} {f : Str} {p p' p1 p2 pos : Pos}
theorem ps_errSet (ho : PE X o to) (he : PE X e te) (hs : swapsWith e (some (.Attribute o f p')) pos.line X.env = pure false := by rfl) :
    PS X (.Assign [.Attribute o f p'] e pos) (tErrSet X.K f to te) := by
  refine ⟨fun pins s σ H D I h => ?_⟩
  refine plainObj_wpAny_Assign_Attribute (thn (he.run pins s σ H _ I h) fun v s1 ⟨y, H1, I1, r1, q1⟩ =>
    thn (ho.run pins s1 σ H1 _ I1 q1) fun u s2 ⟨x, H2, I2, r2, a, C, ex, T, hno, ea, q⟩ => ?_) hs
  subst ex
  obtain rfl : u = Value.ref a := r2
  exact err_store T I2 ea hno r1 fun dx s' n ne J => ⟨σ, _, J, q dx n ne⟩
end
/-- what a made error leaves -/
def spErrInit (C : Addr) (f : Str) : Sp := fun vs H Q _ => ∃ (a : Addr) (v : V), vs = [.ref a, v] ∧ H a = some (exo a C none) ∧
  ∀ dx, H dx = none → dx ≠ a → Q .non (upd (upd H dx (exd dx [(f, v)])) a (exo a C (some dx)))

/-- the error class named x, made of one thing that it keeps as f -/
structure ErrM (P : Program) (w : World) (K : PySem.W.Frag) (mg : Str → Option Value) (base : Heap) (x f : Str) (C : Addr) : Prop where
  T : ErrC K C
  gC : mg x = some (.ref C)
  nf : PySem.W.findIn K (.ref C) f = some none
  ini : ∃ (fI : Addr) (fd : FuncData), PySem.W.findIn K (.ref C) "__init__" = some (some (.ref fI)) ∧ PySem.W.typeIn K (.ref fI) = some (.type "function") ∧
    FnOk P w K mg base CX0 1 fI fd ["self", f] (spErrInit C f) ∧ Binds K fd ["self", f] [] ∧
    ∀ (s : Shared) (u v : Value), BindsTo s fd ⟨[u], [(f, v)]⟩ [("self", u), (f, v)]
section
variable {X : Cx} {x f : Str} {C : Addr}
theorem upd_three {H : Hp} {a b : Addr} {o p q : HO} (d : b ≠ a) : upd (upd (upd H a o) b p) a q = upd (upd H b p) a q := by
  funext c
  by_cases h : c = a
  · rw [h, upd_same, upd_same]
  · rw [upd_ne h, upd_ne h]
    by_cases h2 : c = b
    · rw [h2, upd_same, upd_same]
    · rw [upd_ne h2, upd_ne h2, upd_ne h]
theorem run_err {pins : List (Addr × Obj)} {σ : St} {H : Hp} {s : Shared} {Q : VK} {v : V} {u : Value} {us : List Value} {kw : List (Str × Value)}
    (M : ErrM X.prog X.w X.K X.mg X.base x f C) (hr : Room 2 X.A) (I : Inv X pins σ H s) (r : RelV v u)
    (ha : (us = [u] ∧ kw = []) ∨ (us = [] ∧ kw = [(f, u)]))
    (h : ∀ a dx, H a = none → H dx = none → dx ≠ a → Q (.ref a) (upd (upd H dx (exd dx [(f, v)])) a (exo a C (some dx)))) :
    wpAny (model X.prog X.w) X.A (call (.ref C) us kw) (EP X pins σ Q) X.xe s := by
  obtain ⟨B, newId, initId, bmB, nm, q, N, bs, bm, sn, sub, ab, col, dd, k0, k1, k2, k3, k5, F, hT, hC⟩ := M.T.cls
  obtain ⟨fI, fd, i1, i2, FI, b1, b2⟩ := M.ini
  obtain ⟨hp, g, dr, tk, os⟩ := s
  have hsz : hp.objs.size ≤ hp.objs.size + 1 := Nat.le_succ _
  have hn : H (hp.objs.size + 1) = none := I.hok.fresh hsz
  have kk : ∀ b o, hp.get? b = some o → ((hp.push (PySem.W.kdv_tup us)).push (PySem.HandSPX.excO C hp.objs.size)).get? b = some o :=
    fun b o e => Heap.get?_push_of_some _ (Heap.get?_push_of_some _ e)
  have hget : ((hp.push (PySem.W.kdv_tup us)).push (PySem.HandSPX.excO C hp.objs.size)).get? (hp.objs.size + 1) = some (PySem.HandSPX.excO C hp.objs.size) := by
    heap_get
  have I2 : Inv X pins σ (upd H (hp.objs.size + 1) (exo (hp.objs.size + 1) C none))
      ⟨(hp.push (PySem.W.kdv_tup us)).push (PySem.HandSPX.excO C hp.objs.size), g, dr, tk, os⟩ :=
    I.laid (t' := tk) (a := hp.objs.size + 1) (o := exo (hp.objs.size + 1) C none) kk hsz (exo_ok hget)
  have r2 : Vals [V.ref (hp.objs.size + 1), v] [Value.ref (hp.objs.size + 1), u] := .cons rfl (.cons r .nil)
  have hb : BindsTo (⟨(hp.push (PySem.W.kdv_tup us)).push (PySem.HandSPX.excO C hp.objs.size), g, dr, tk, os⟩ : Shared) fd
      ⟨Value.ref (hp.objs.size + 1) :: us, kw⟩ ((["self", f] : List Str).zip [Value.ref (hp.objs.size + 1), u]) := by
    rcases ha with ⟨rfl, rfl⟩ | ⟨rfl, rfl⟩
    · exact b1 _ [Value.ref (hp.objs.size + 1), u] I2.kIn rfl
    · exact b2 _ _ _
  have hus : us.length ≤ sizeLine := by
    rw [sizeLine_eq]
    rcases ha with ⟨rfl, rfl⟩ | ⟨rfl, rfl⟩
    · exact (by decide : (1 : Nat) ≤ 16777216)
    · exact Nat.zero_le _
  have hq : spErrInit C f [V.ref (hp.objs.size + 1), v] (upd H (hp.objs.size + 1) (exo (hp.objs.size + 1) C none))
      (fun z H2 => z = .non ∧ Q (.ref (hp.objs.size + 1)) H2) (fun _ _ _ => False) := by
    refine ⟨_, v, rfl, upd_same, fun dx hd ne => ⟨rfl, ?_⟩⟩
    rw [upd_three ne]
    rw [upd_ne ne] at hd
    exact h _ dx hn hd ne
  have go := FI.run (X.A.under (.builtin "type.__call__" ⟨.ref C :: us, kw⟩)) X.stack _ _ ⟨Value.ref (hp.objs.size + 1) :: us, kw⟩ [Value.ref (hp.objs.size + 1), u] _ _ (fun _ _ _ => False)
    (hr.make C us kw) (I2.env0.make C us kw) hb r2 hq
  refine wpAny_call (PySem.ZX.z_call F hT (I.kIn _ _ hC) (PySem.W.looks_findIn I.kIn i1) (fun self => PySem.W.bind_fn I.kIn self i2) hus
    (codeAny_mono go fun r s' hq' => ?_))
  cases r with
  | error er => exact False.elim hq'
  | ok fl =>
    cases fl with
    | ret w' =>
      obtain ⟨z, H', I3, rv, ev, q3⟩ := I2.after hq'
      subst ev
      exact ⟨rv, ⟨V.ref (hp.objs.size + 1), H', I3, rfl, q3⟩⟩
    | next => exact False.elim hq'
    | brk => exact False.elim hq'
    | cont => exact False.elim hq'
def ErrQ (C : Addr) (f : Str) (Q : VK) (v : V) (H1 : Hp) : Prop :=
  ∀ a dx, H1 a = none → H1 dx = none → dx ≠ a → Q (.ref a) (upd (upd H1 dx (exd dx [(f, v)])) a (exo a C (some dx)))
def tErr (C : Addr) (f : Str) (te : TE) : TE := fun σ H Q => te σ H fun v H1 => ErrQ C f Q v H1
/-- x(e) -/
theorem pe_err1 {e : Expr} {te : TE} {p pos : Pos} (M : ErrM X.prog X.w X.K X.mg X.base x f C) (hr : Room 2 X.A) (hg : Gl X x) (he : PE X e te)
    (hdb : (x == ("__debug__" : Str)) = false := by decide) (hs : starEach (e :: []) X.env = (false, eval e X.env) :: starEach [] X.env := by rfl)
    (hpl : (backTo pos (starEach [] X.env)).any (·.1) = false := by rfl) : PE X (.Call (.Name x p) [e] [] pos) (tErr C f te) := by
  refine ⟨fun pins s σ H Q I h => ?_⟩
  refine wpAny_Call_Name_kw (ld_glob I hg M.gC ?_ hdb)
  have ha : PA X [e] (tCons te tNil) := pa_cons he pa_nil hs
  refine PySem.W.callWith_K (h₀ := X.base) I.ok.mod.kin M.T.kC
    (thn (ha.run pos pins s σ H (fun vs H1 => match vs with | [v] => ErrQ C f Q v H1 | _ => False) I h)
      fun us s1 ⟨vs, H1, I1, r, q⟩ => ⟨I1.kIn, ?_⟩) hs hpl
  cases r with
  | nil => exact False.elim q
  | cons ru rn =>
    cases rn with
    | nil => exact run_err M hr I1 ru (.inl ⟨rfl, rfl⟩) q
    | cons _ _ => exact False.elim q
/-- x(f=e) -/
theorem pe_errK {e : Expr} {te : TE} {p pos kpos : Pos} (M : ErrM X.prog X.w X.K X.mg X.base x f C) (hr : Room 2 X.A) (hg : Gl X x) (he : PE X e te)
    (hdb : (x == ("__debug__" : Str)) = false := by decide)
    (hall : (backToKw pos (keywordEach [⟨some f, e, kpos⟩] X.env)).all (·.1.isSome) = true := by rfl)
    (hks : (backToKw pos (keywordEach [⟨some f, e, kpos⟩] X.env)).filterMap (·.1) = [f] := by rfl)
    (hpl : ((backTo pos (starEach [] X.env)).any (·.1) || (backToKw pos (keywordEach [⟨some f, e, kpos⟩] X.env)).any (·.1.isNone)) = false := by rfl) :
    PE X (.Call (.Name x p) [] [⟨some f, e, kpos⟩] pos) (tErr C f te) := by
  refine ⟨fun pins s σ H Q I h => ?_⟩
  refine wpAny_Call_Name_kw (ld_glob I hg M.gC ?_ hdb)
  have ha : PK X [⟨some f, e, kpos⟩] (tCons te tNil) := pk_cons he pk_nil
  refine PySem.W.callWith_KW0 (h₀ := X.base) I.ok.mod.kin M.T.kC hall
    (thn (ha.run pos pins s σ H (fun vs H1 => match vs with | [v] => ErrQ C f Q v H1 | _ => False) I h)
      fun us s1 ⟨vs, H1, I1, r, q⟩ => ⟨I1.kIn, ?_⟩) hpl
  rw [hks]
  cases r with
  | nil => exact False.elim q
  | cons ru rn =>
    cases rn with
    | nil => exact run_err M hr I1 ru (.inr ⟨rfl, rfl⟩) q
    | cons _ _ => exact False.elim q
/-- e.f, e an own error with its dict -/
def tErrAt (K : PySem.W.Frag) (f : Str) (te : TE) : TE := fun σ H Q => te σ H fun x H1 => ∃ (a C d : Addr) (fs : List (Str × V)) (v : V),
  x = .ref a ∧ ErrC K C ∧ PySem.W.findIn K (.ref C) f = some none ∧ H1 a = some (exo a C (some d)) ∧ H1 d = some (exd d fs) ∧ fs.lookup f = some v ∧ Q v H1
theorem pe_errAt {e : Expr} {te : TE} {pos : Pos} (he : PE X e te) (hb : attributeBase e f X.env (eval e X.env) = eval e X.env := by rfl) :
    PE X (.Attribute e f pos) (tErrAt X.K f te) := by
  refine ⟨fun pins s σ H Q I h => ?_⟩
  refine attr_of hb (thn (he.run pins s σ H _ I h) fun u s1 hh => ?_)
  obtain ⟨x, H1, I1, rx, a, C, d, fs, v, ex, T, nf, ea, ed, lf, q⟩ := hh
  subst ex
  obtain rfl : u = Value.ref a := rx
  obtain ⟨t1, ho⟩ := exo_at I1.hok ea
  obtain ⟨mA, hns, rel⟩ := exd_at I1.hok ed
  obtain ⟨od, hod, hl⟩ := lookIn_ns hns
  obtain ⟨w', hu, ru⟩ := RelO.some_of (v := v) (o := mA f) (by rw [← lf]; exact rel f)
  have J : PySem.W.InstAt s1.heap a { cls := .ref C, dict := some d, data := .fields #[.ref t1, .none, .none, .none, .bool false, .none] } C (some od) := ⟨ho, rfl, rfl, hod⟩
  exact HandSPX.exc_get I1.kIn J T.ga T.gg T.exC (PySem.W.findObj_own T.hdC nf rfl (by rw [hl, hu])) (handed_of ru) ⟨v, H1, I1.tok _, ru, q⟩
/-- isinstance(e, c), e an own error -/
def rErrIs (K : PySem.W.Frag) : List V → Hp → VK → Prop := fun xs H Q => ∃ (a C : Addr) (d : Option Addr) (c : V) (cv : Value) (b : Bool),
  xs = [.ref a, c] ∧ H a = some (exo a C d) ∧ (∀ e, d = some e → ∃ fs, H e = some (exd e fs)) ∧ ExcC K C ∧ (∀ u, RelV c u → u = cv) ∧
  PySem.W.kitOne K (.ref C) cv = some b ∧ Q (.bl b) H
theorem call_errIs : CallR X (.builtin "isinstance") (rErrIs X.K) := by
  intro pins s σ H xs us Q I r h
  obtain ⟨a, C, d, c, cv, b, rfl, ea, ed, T, hcv, e, q⟩ := h
  cases r with
  | cons rx rr =>
    cases rr with
    | cons rt rr =>
      cases rr
      cases rx
      have ec := hcv _ rt
      subst ec
      obtain ⟨t1, ho⟩ := exo_at I.hok ea
      obtain ⟨cd, hc, _⟩ := PySem.W.any_some T.hd
      have hcl : (PySem.W.clsIn X.K C).isSome = true := by rw [hc]; rfl
      have fin : ∀ tk, EP X pins σ Q (.bool b) { s with toks := tk } := fun tk => ⟨.bl b, H, I.kept (t' := tk) fun _ _ z => z, rfl, q⟩
      cases d with
      | none =>
        exact PySem.W.kia_one (PySem.W.kitx_exc hcl T.hg T.hk T.hs T.ha T.hn T.ht T.hm) I.kIn
          (show PySem.W.InstAt s.heap a { cls := .ref C, dict := none, data := .fields #[.ref t1, .none, .none, .none, .bool false, .none] } C none from ⟨ho, rfl, rfl, trivial⟩) e (fun z => nomatch z) fin
      | some dd =>
        obtain ⟨fs, hd⟩ := ed dd rfl
        obtain ⟨mA, hns, rel⟩ := exd_at I.hok hd
        obtain ⟨od, hod, hl⟩ := lookIn_ns hns
        exact PySem.W.kia_one (PySem.W.kitx_exc hcl T.hg T.hk T.hs T.ha T.hn T.ht T.hm) I.kIn
          (show PySem.W.InstAt s.heap a { cls := .ref C, dict := some dd, data := .fields #[.ref t1, .none, .none, .none, .bool false, .none] } C (some od) from ⟨ho, rfl, rfl, hod⟩) e (fun z => nomatch z) fin
/-- x(), no __init__ of its own -/
structure Err0 (K : PySem.W.Frag) (mg : Str → Option Value) (x : Str) (C : Addr) : Prop where
  gC : mg x = some (.ref C)
  kC : PySem.W.keepIn K (.ref C) = true
  ex : PySem.W.excIn K C PySem.HandSPX.veTail "ValueError.__new__" = true
theorem pe_err0 {p pos : Pos} (M : Err0 X.K X.mg x C) (hg : Gl X x) (hdb : (x == ("__debug__" : Str)) = false := by decide) :
    PE X (.Call (.Name x p) [] [] pos) (fun _ H Q => ∀ a, H a = none → Q (.ref a) (upd H a (exo a C none))) := by
  refine ⟨fun pins s σ H Q I h => ?_⟩
  refine wpAny_Call_Name_kw (ld_glob I hg M.gC ?_ hdb)
  refine PySem.W.callWith_K0 I.kIn M.kC ?_
  show wpAny _ _ (call (.ref C) []) _ _ _
  obtain ⟨hp, g, dr, tk, os⟩ := s
  obtain ⟨bm, N, nm, qn, bs, hdct, sn, sub, ab, col, dd, k0, k1, k2, k3, k5, mN, hC, hN, hni, T⟩ := exc_obj I.kIn M.ex
  refine wpAny_call_exc_subT F.excBase_ValueError T hC hN hni (fun h' e hm => ?_) (by show 0 ≤ sizeLine; exact Nat.zero_le _)
  obtain ⟨t1, ht, _, _⟩ := hm.there
  have he : H e = none := I.hok.gone hm.new
  have ne : ∀ {b : Addr} {o : Obj}, hp.get? b = some o → b ≠ e := fun {b o} q z => by
    have y : hp.get? e = none := hm.new
    rw [z, y] at q
    cases q
  have U : Un X.fs [] H (upd H e (exo e C none)) hp h' :=
    { keep := fun b o q _ _ _ => hm.keeps b o q
      slot := fun b o q _ _ _ => ⟨o.slots, hm.keeps b o q⟩
      free := fun b o q n _ => by
        rw [upd_ne (ne q)]
        exact n
      there := fun b o q _ => ⟨o, hm.keeps b o q⟩
      tups := fun b xs q => by
        rw [upd_ne (ne_of_none q he)]
        exact q
      frzs := fun b o v q => by
        rw [upd_ne (ne_of_none q he)]
        exact q
      tbls := fun b ps q => ⟨#[], by
        rw [upd_ne (ne_of_none q he), q]
        simp⟩ }
  have J : Inv X pins σ (upd H e (exo e C none)) ⟨h', g, dr, tk, os⟩ := I.un (t' := tk) U fun b o q => by
    by_cases hb : b = e
    · subst hb
      rw [upd_same] at q
      cases q
      exact exo_ok ht
    · rw [upd_ne hb] at q
      exact (I.hok b o q).stay (fun c v _ z => hm.keeps c v z)
        (fun c hc => by rw [upd_ne (ne_of_none hc he)]; exact hc)
        (fun c xs hc => by rw [upd_ne (ne_of_none hc he)]; exact hc)
  exact ⟨.ref e, _, J, rfl, h e he⟩
end
end L2
set_option Elab.async false
set_option linter.all false
set_option maxRecDepth 100000
set_option maxHeartbeats 4000000
set_option autoImplicit false
/-! repr of plain data, where no repr is under way -/
namespace Z
open PySem PySem.Spec PyProof.Rows L2
structure Pl (n W : Nat) (d : PyData) : Prop where
  sh : d.showable = true
  nd : d.hasDict = false
  ls : d.leavesShort 32 = true
  dp : d.depth ≤ n
  wt : d.weight ≤ W
  cl : d.canLay0 = true
theorem Pl.mono {n m W U : Nat} {d : PyData} (h : Pl n W d) (a : n ≤ m) (b : W ≤ U) : Pl m U d :=
  ⟨h.sh, h.nd, h.ls, Nat.le_trans h.dp a, Nat.le_trans h.wt b, h.cl⟩
theorem Pl.all {n W : Nat} : ∀ {ds : List PyData}, (∀ d ∈ ds, Pl n W d) →
    PyData.showableAll ds = true ∧ PyData.hasDictAll ds = false ∧ PyData.leavesShortAll 32 ds = true ∧ PyData.depthAll ds ≤ n ∧
      PyData.weightAll ds ≤ (W + 1) * ds.length ∧ PyData.canLayAll0 ds = true
  | [], _ => by simp [PyData.showableAll, PyData.hasDictAll, PyData.leavesShortAll, PyData.depthAll, PyData.weightAll, PyData.canLayAll0]
  | d :: ds, h => by
    have a := h d (by simp)
    obtain ⟨b1, b2, b3, b4, b5, b6⟩ := Pl.all (ds := ds) fun e he => h e (by simp [he])
    have w := a.wt
    have p := a.dp
    refine ⟨by simp [PyData.showableAll, a.sh, b1], by simp [PyData.hasDictAll, a.nd, b2], by simp [PyData.leavesShortAll, a.ls, b3], ?_, ?_, by simp [PyData.canLayAll0, a.cl, b6]⟩
    · show max d.depth (PyData.depthAll ds) ≤ n
      omega
    · show d.weight + 1 + PyData.weightAll ds ≤ (W + 1) * (ds.length + 1)
      rw [Nat.mul_add]
      omega
theorem Pl.list {n W : Nat} {ds : List PyData} (h : ∀ d ∈ ds, Pl n W d) : Pl (n + 1) ((W + 1) * ds.length) (.list ds) := by
  obtain ⟨b1, b2, b3, b4, b5, b6⟩ := Pl.all h
  exact ⟨b1, b2, b3, Nat.succ_le_succ b4, b5, b6⟩
theorem Pl.tuple {n W : Nat} {ds : List PyData} (h : ∀ d ∈ ds, Pl n W d) : Pl (n + 1) ((W + 1) * ds.length) (.tuple ds) := by
  obtain ⟨b1, b2, b3, b4, b5, b6⟩ := Pl.all h
  exact ⟨b1, b2, b3, Nat.succ_le_succ b4, b5, b6⟩
theorem Pl.fits {n W : Nat} {d : PyData} (h : Pl n W d) (w : W ≤ 400000) : d.shown.length ≤ sizeLine := by
  have z := PyData.shown_le 32 (by decide) d h.ls
  have y := h.wt
  rw [sizeLine_eq]
  omega
theorem call_repr_pl {X : Cx} (hg : X.A.guards = some []) (hu : X.A.units + 64 < cLine) :
    CallR X (.builtin "repr") (fun xs H Q => ∃ v d, xs = [v] ∧ Dp X.K H v d ∧ Pl 40 400000 d ∧ Q (.str d.shown) H) := by
  intro pins s σ H xs us Q I r h
  obtain ⟨v, d, rfl, hd, pl, q⟩ := h
  obtain ⟨u, rfl, ru⟩ := vals1 r
  have fit := pl.fits (Nat.le_refl _)
  cases hd with
  | non =>
    cases ru
    exact PySem.P.repr_of_none ⟨.str "None", H, I.tok _, ⟨_, rfl⟩, q⟩
  | bl b =>
    cases ru
    exact PySem.P.repr_of_bool ⟨.str (if b then "True" else "False"), H, I.tok _, ⟨_, rfl⟩, q⟩
  | int i =>
    obtain ⟨t, rfl⟩ := ru
    have hz : i.natAbs.log2 < 1920 := of_decide_eq_true pl.sh
    exact PySem.P.repr_of_int hz ⟨.str (toString i), H, I.tok _, ⟨_, rfl⟩, q⟩
  | str x =>
    obtain ⟨t, rfl⟩ := ru
    exact PySem.P.repr_of_str ⟨.str (reprText x), H, I.tok _, ⟨_, rfl⟩, q⟩ fit
  | lst hs ha =>
    cases ru
    have hd : Dp X.K H (.ref _) (.list _) := .lst hs ha
    obtain ⟨as, hr⟩ := Dp.reads I _ _ _ hd rfl
    refine repr_of_reads' hr pl.sh (PyData.noDict_hsm pl.nd) hg (by have := pl.dp; omega) (fun _ _ e => e) (fun h' u tk hk => ?_) fit
    exact ⟨.str _, H, I.kept hk, ⟨_, rfl⟩, q⟩
  | tup hs ha =>
    cases ru
    have hd : Dp X.K H (.ref _) (.tuple _) := .tup hs ha
    obtain ⟨as, hr⟩ := Dp.reads I _ _ _ hd rfl
    refine repr_of_reads' hr pl.sh (PyData.noDict_hsm pl.nd) hg (by have := pl.dp; omega) (fun _ _ e => e) (fun h' u tk hk => ?_) fit
    exact ⟨.str _, H, I.kept hk, ⟨_, rfl⟩, q⟩
end Z
set_option Elab.async false
set_option linter.all false
set_option maxRecDepth 100000
set_option maxHeartbeats 4000000
set_option autoImplicit false
namespace Z
open PySem PySem.Spec PyProof.Rows L2
open C8 (Cal pe_c Mak pe_mk Met pe_mt pe_mt0 pe_gc)
section
variable {P : Program} {w : World} {K : PySem.W.Frag} {mg : Str → Option Value} {base : Heap}
/-- what draws of any things give -/
def AnyD : Nat → PyData → Prop
  | 0, d => Pl 1 70 d
  | m + 1, d => Pl 1 70 d ∨ ∃ ds : List PyData, ds.length ≤ 3 ∧ (∀ e ∈ ds, AnyD m e) ∧ (d = .list ds ∨ d = .tuple ds)
def anyW : Nat → Nat
  | 0 => 70
  | m + 1 => (anyW m + 1) * 3
theorem anyW_ge : ∀ m, 70 ≤ anyW m
  | 0 => Nat.le_refl _
  | m + 1 => by have := anyW_ge m; show 70 ≤ (anyW m + 1) * 3; omega
theorem AnyD.leaf {m : Nat} {d : PyData} (h : Pl 1 70 d) : AnyD m d := by
  cases m with
  | zero => exact h
  | succ m => exact .inl h
theorem AnyD.pl : ∀ {m : Nat} {d : PyData}, AnyD m d → Pl (m + 1) (anyW m) d
  | 0, d, h => h
  | m + 1, d, h => by
    have w0 := anyW_ge m
    rcases h with h | ⟨ds, l, a, e⟩
    · exact h.mono (by omega) (by show 70 ≤ (anyW m + 1) * 3; omega)
    · have b : ∀ e ∈ ds, Pl (m + 1) (anyW m) e := fun e he => AnyD.pl (a e he)
      have c : (anyW m + 1) * ds.length ≤ anyW (m + 1) := Nat.mul_le_mul_left _ l
      rcases e with rfl | rfl
      · exact (Pl.list b).mono (Nat.le_refl _) c
      · exact (Pl.tuple b).mono (Nat.le_refl _) c
/-- what is new in the second heap -/
def fre (H H' : Hp) : Hp := fun b => if H b = none then H' b else none
theorem fre_at {H H' : Hp} {p : Addr} {o : HO} (n : H p = none) (h : H' p = some o) : fre H H' p = some o := by
  unfold fre
  rw [if_pos n, h]
theorem fre_some {H H' : Hp} {p : Addr} {o : HO} (h : fre H H' p = some o) : H p = none ∧ H' p = some o := by
  unfold fre at h
  split at h
  · next e => exact ⟨e, h⟩
  · cases h
theorem free_of {H H1 : Hp} {a c p : Addr} (e : Sm (msk a c H) (msk a c H1)) (hD : DealAt H1 a c) (h : H1 p = none) : H p = none := by
  obtain ⟨na, nc⟩ : p ≠ a ∧ p ≠ c := hD.newNe h
  cases q : H p with
  | none => rfl
  | some o =>
    have z := (msk_le _ _ (e p o (by rw [msk_ne na nc]; exact q)))
    rw [h] at z
    cases z
theorem DealAt.some {H : Hp} {a c : Addr} (h : DealAt H a c) : H a ≠ none ∧ H c ≠ none := by
  obtain ⟨cells, m, S⟩ := h
  exact ⟨by rw [S.ha]; simp, by rw [S.hc]; simp⟩
theorem fr_tup {K : PySem.W.Frag} {H H1 H' : Hp} {a c p : Addr} {xs : List V} (hD : DealAt H1 a c) (h1 : H1 p = none) (n : H p = none)
    (e : Sm (msk a c (upd H1 p (.tup xs))) (msk a c H')) : SqT K (fre H H') p xs :=
  .inl (.inl (fre_at n (msk_le _ _ (e _ _ (msk_at (hD.newNe h1).1 (hD.newNe h1).2)))))
theorem fr_lst {K : PySem.W.Frag} {H H1 H' : Hp} {a c p : Addr} {xs : List V} (hD : DealAt H1 a c) (h1 : H1 p = none) (n : H p = none)
    (e : Sm (msk a c (upd H1 p (.lst xs))) (msk a c H')) : SqL K (fre H H') p xs :=
  .inl (.inl (fre_at n (msk_le _ _ (e _ _ (msk_at (hD.newNe h1).1 (hD.newNe h1).2)))))
/-- what is new, but for one address -/
def freD (H H' : Hp) (D : Addr) : Hp := fun b => if b = D then none else fre H H' b
theorem freD_upd {H H' : Hp} {D : Addr} {o : HO} : freD H (upd H' D o) D = freD H H' D := by
  funext b
  unfold freD
  by_cases h : b = D
  · rw [if_pos h, if_pos h]
  · rw [if_neg h, if_neg h]
    unfold fre
    rw [upd_ne h]
theorem freD_le {H H' : Hp} {D : Addr} : Sm (freD H H' D) (fre H H') := fun b o h => by
  unfold freD at h
  split at h
  · cases h
  · exact h
theorem freD_step {H H3 H4 : Hp} {a c D : Addr} (hD : DealAt H a c) (e : Sm (msk a c H3) (msk a c H4)) : Sm (freD H H3 D) (freD H H4 D) := fun b o h => by
  unfold freD at h ⊢
  by_cases hb : b = D
  · rw [if_pos hb] at h
    cases h
  · rw [if_neg hb] at h ⊢
    obtain ⟨n, h3⟩ := fre_some h
    have na : b ≠ a := fun z => hD.some.1 (by rw [← z]; exact n)
    have nc : b ≠ c := fun z => hD.some.2 (by rw [← z]; exact n)
    exact fre_at n (msk_le _ _ (e b o (by rw [msk_ne na nc]; exact h3)))
theorem freD_new {H H3 H4 : Hp} {a c D : Addr} (hD3 : DealAt H3 a c) (e : Sm (msk a c H) (msk a c H3)) (d : H3 D ≠ none) : Sm (fre H3 H4) (freD H H4 D) := fun b o h => by
  obtain ⟨n, h4⟩ := fre_some h
  have nb : b ≠ D := fun z => d (by rw [← z]; exact n)
  unfold freD
  rw [if_neg nb]
  exact fre_at (free_of e hD3 n) h4
theorem msk_keep {H H' : Hp} {a c D : Addr} {o : HO} (e : Sm (msk a c H) (msk a c H')) (n : H D = none) : Sm (msk a c H) (msk a c (upd H' D o)) := fun b u h => by
  obtain ⟨hb, na, nc⟩ := msk_some h
  have nb : b ≠ D := fun z => by
    rw [z, n] at hb
    cases hb
  have z := e b u h
  rw [msk_ne na nc] at z ⊢
  rw [upd_ne nb]
  exact z
theorem DealAt.upd {H : Hp} {a c D : Addr} {o : HO} (h : DealAt H a c) (na : D ≠ a) (nc : D ≠ c) : DealAt (upd H D o) a c := by
  obtain ⟨cells, m, S⟩ := h
  exact ⟨cells, m, by rw [upd_ne (Ne.symm na)]; exact S.ha, by rw [upd_ne (Ne.symm nc)]; exact S.hc, S.pos, S.len, S.m0, S.m1⟩
def spAny (K : PySem.W.Frag) (n : Nat) : Sp := fun vs H Q _ => ∃ (a c : Addr) (m : Nat), vs = [.ref a, .int m] ∧ m < n ∧ DealAt H a c ∧
  ∀ v d H', Dp K (fre H H') v d → AnyD m d → DealAt H' a c → Sm (msk a c H) (msk a c H') → Q v H'
/-- each of some values is plain data -/
def Odds (K : PySem.W.Frag) (H : Hp) (xs : List V) : Prop := ∀ x ∈ xs, ∃ d, Dp K H x d ∧ Pl 1 70 d
theorem Odds.nil {K : PySem.W.Frag} {H : Hp} : Odds K H [] := fun _ h => nomatch h
theorem Odds.cons {K : PySem.W.Frag} {H : Hp} {x : V} {xs : List V} (d : PyData) (h : Dp K H x d) (p : Pl 1 70 d) (t : Odds K H xs) : Odds K H (x :: xs) := fun y hy => by
  rcases List.mem_cons.mp hy with e | e
  · rw [e]
    exact ⟨d, h, p⟩
  · exact t y e
theorem Odds.mono {K : PySem.W.Frag} {H H' : Hp} {xs : List V} (e : Sm H H') (h : Odds K H xs) : Odds K H' xs := fun x hx =>
  let ⟨d, a, b⟩ := h x hx
  ⟨d, dp_mono e a, b⟩
theorem dpAll_ex {K : PySem.W.Frag} {H : Hp} {m : Nat} : ∀ {vs : List V}, (∀ v ∈ vs, ∃ d, Dp K H v d ∧ AnyD m d) → ∃ ds, DpAll K H vs ds ∧ ∀ d ∈ ds, AnyD m d
  | [], _ => ⟨[], .nil, fun _ h => nomatch h⟩
  | v :: vs, h => by
    obtain ⟨d, a, b⟩ := h v (by simp)
    obtain ⟨ds, a', b'⟩ := dpAll_ex (vs := vs) fun x hx => h x (by simp [hx])
    refine ⟨d :: ds, .cons a a', fun e he => ?_⟩
    rcases List.mem_cons.mp he with q | q
    · rw [q]
      exact b
    · exact b' e q
theorem pl_non : Pl 1 70 .none := ⟨by decide +kernel, by decide +kernel, by decide +kernel, by decide +kernel, by decide +kernel, by decide +kernel⟩
theorem pl_bl (b : Bool) : Pl 1 70 (.bool b) := by
  cases b <;> exact ⟨by decide +kernel, by decide +kernel, by decide +kernel, by decide +kernel, by decide +kernel, by decide +kernel⟩
theorem pl_big : Pl 1 70 (.int (10 ^ 20)) := ⟨by decide +kernel, by decide +kernel, by decide +kernel, by decide +kernel, by decide +kernel, by decide +kernel⟩
theorem pl_i0 : Pl 1 70 (.int 0) := ⟨by decide +kernel, by decide +kernel, by decide +kernel, by decide +kernel, by decide +kernel, by decide +kernel⟩
theorem pl_i1 : Pl 1 70 (.int 1) := ⟨by decide +kernel, by decide +kernel, by decide +kernel, by decide +kernel, by decide +kernel, by decide +kernel⟩
theorem pl_i2 : Pl 1 70 (.int 2) := ⟨by decide +kernel, by decide +kernel, by decide +kernel, by decide +kernel, by decide +kernel, by decide +kernel⟩
theorem pl_i7 : Pl 1 70 (.int 7) := ⟨by decide +kernel, by decide +kernel, by decide +kernel, by decide +kernel, by decide +kernel, by decide +kernel⟩
theorem pl_m1 : Pl 1 70 (.int (-1)) := ⟨by decide +kernel, by decide +kernel, by decide +kernel, by decide +kernel, by decide +kernel, by decide +kernel⟩
theorem pl_s0 : Pl 1 70 (.str (Str.ofString "")) := ⟨by decide +kernel, by decide +kernel, by decide +kernel, by decide +kernel, by decide +kernel, by decide +kernel⟩
theorem pl_s1 : Pl 1 70 (.str (Str.ofString "+")) := ⟨by decide +kernel, by decide +kernel, by decide +kernel, by decide +kernel, by decide +kernel, by decide +kernel⟩
theorem pl_s2 : Pl 1 70 (.str (Str.ofString "-+")) := ⟨by decide +kernel, by decide +kernel, by decide +kernel, by decide +kernel, by decide +kernel, by decide +kernel⟩
theorem pl_s3 : Pl 1 70 (.str (Str.ofString "marked")) := ⟨by decide +kernel, by decide +kernel, by decide +kernel, by decide +kernel, by decide +kernel, by decide +kernel⟩
theorem pl_t0 : Pl 1 70 (.tuple []) := ⟨by decide +kernel, by decide +kernel, by decide +kernel, by decide +kernel, by decide +kernel, by decide +kernel⟩
theorem pl_l0 : Pl 1 70 (.list []) := ⟨by decide +kernel, by decide +kernel, by decide +kernel, by decide +kernel, by decide +kernel, by decide +kernel⟩
theorem pl_t01 : Pl 1 70 (.tuple [.int 0, .int 1]) := ⟨by decide +kernel, by decide +kernel, by decide +kernel, by decide +kernel, by decide +kernel, by decide +kernel⟩
theorem pl_t10 : Pl 1 70 (.tuple [.int 1, .int 0]) := ⟨by decide +kernel, by decide +kernel, by decide +kernel, by decide +kernel, by decide +kernel, by decide +kernel⟩
theorem pl_l23 : Pl 1 70 (.list [.int 2, .int 3]) := ⟨by decide +kernel, by decide +kernel, by decide +kernel, by decide +kernel, by decide +kernel, by decide +kernel⟩
abbrev s_any : Stmt := topS 35
abbrev n_any : List Str := ["_law_deal_here", "_law_deep", "_law_form", "_law_odd", "_law_some", "_law_turn"]
abbrev p_any : List Str := ["_law_deal_here", "_law_deep"]
theorem sc_any : FnScope n_any p_any (defScope s_any) := ⟨rfl, rfl, rfl, by decide +kernel, rfl, by decide +kernel, by decide +kernel⟩
theorem any_step {n : Nat} {f : Addr} {fd : FuncData} (F : Fun K "_law_any" "_law_any" s_any f fd) (T : Bt mg) (Cd : Cal P w K mg base 2 "_law_draw" spDraw [])
    (Cp : Cal P w K mg base 3 "_law_pick" (spPick K) []) (Ca : Cal P w K mg base (n + 3) "_law_any" (spAny K n) []) :
    FnOk P w K mg base CX0 (n + 4) f fd p_any (spAny K (n + 1)) := by
  refine F.ok sc_any (fun vs H Q E h => ?_) (fun cdv A outer s H vs Q E hr h => ?_)
  · obtain ⟨a, c, m, rfl, _⟩ := h
    rfl
  · obtain ⟨a, c, m, rfl, hm, hD, q⟩ := h
    refine ⟨_, (pss_cons (ps_set (i := 2) sc_any.nd rfl (Or.inl rfl) (pe_c Cd hr (by omega) (by rfl) (pa_cons (pv 0) (pa_cons pe_int pa_nil))))
      (pss_cons (ps_if ((pw_or (pt_cmpR op_lt (pv 1) pe_int (nomark _)) (pw_or1 (pt_cmpR op_lt (pv 2) pe_int (nomark _))))).pt
        (pss_cons (ps_set (i := 3) sc_any.nd rfl (Or.inl rfl) (pe_lst (pa_cons pe_non (pa_cons pe_bl (pa_cons pe_bl (pa_cons pe_int (pa_cons pe_int (pa_cons pe_int (pa_cons pe_int (pa_cons (pe_un un_neg pe_int) (pa_cons pe_str (pa_cons pe_str (pa_cons pe_str (pa_cons pe_str (pa_cons (pe_tup pa_nil) (pa_cons (pe_lst pa_nil) (pa_cons (pe_tup (pa_cons pe_int (pa_cons pe_int pa_nil))) (pa_cons (pe_tup (pa_cons pe_int (pa_cons pe_int pa_nil))) (pa_cons (pe_lst (pa_cons pe_int (pa_cons pe_int pa_nil))) (pa_cons (pe_op op_pow pe_int pe_int) pa_nil))))))))))))))))))))
        (pss_one (ps_ret (pe_c Cp hr (by omega) (by rfl) (pa_cons (pv 0) (pa_cons (pv 3) pa_nil))))))
        pss_nil)
      (pss_cons (ps_setLc (i := 4) (own := [("_law_turn", 5)]) (tt := tYes) (by rfl) sc_any.nd rfl rfl (sw_true rfl rfl rfl (by decide +kernel)) (pi_range1 rfl T.n_range (pa_cons (pe_c Cd hr (by omega) (by rfl) (pa_cons (pv 0) (pa_cons pe_int pa_nil))) pa_nil)) (blkOk_by (N := n_any) (sc := defScope s_any) (own := [("_law_turn", 5)]) (by decide +kernel)) (fun _ _ _ _ _ => pg_name (i := 5) sc_any.nd rfl (Or.inl rfl)) (fun _ _ _ _ _ => pts_nil) (fun _ _ _ _ _ => (pe_c Ca hr (by omega) (by rfl) (pa_cons (pv 0) (pa_cons (pe_op op_sub (pv 1) pe_int) pa_nil)))))
      (pss_one (ps_ret (pe_ifExp (pt_cmpR op_lt (pv 2) pe_int (nomark _)) (pe_callTy call_tuple_of (by rfl) T.n_tuple (by decide +kernel) (pa_cons (pv 4) pa_nil)) (pv 4))))))), ?_⟩
    refine ⟨_, rfl, a, c, 8, rfl, hD, by decide, by decide, fun r H1 r0 r1 hD1 e1 => ?_⟩
    refine ⟨_, rfl, (m : Int), 1, rfl, rfl, _, rfl, iteB (fun hb => ?L1) (fun hb => ⟨_, rfl, r, 5, rfl, rfl, _, rfl, iteB (fun hb2 => ?L2) (fun hb2 => ?R)⟩)⟩
    case R =>
      refine ⟨_, rfl, a, c, 4, rfl, hD1, by decide, by decide, fun t H2 t0 t1 hD2 e2 => ⟨t, rfl, by omega, by omega, fun D hd => ?_⟩⟩
      have e12 := e1.trans e2
      have hm0 : ¬ (m : Int) < 1 := of_decide_eq_false hb
      have nD : H D = none := free_of e12 hD2 hd
      refine lc_range (lo := 0) (n := t.toNat) (fun i H' => DealAt H' a c ∧ Sm (msk a c H) (msk a c H') ∧ ∃ acc, H' D = some (.lst acc) ∧ acc.length = i ∧
        ∀ v ∈ acc, ∃ d, Dp K (freD H H' D) v d ∧ AnyD (m - 1) d) ?_ ?_ ?_
      · exact ⟨hD2.sm (Sm.new hd), msk_keep e12 nD, [], upd_same, rfl, fun _ z => nomatch z⟩
      · rintro i H3 hi ⟨hD3, e3, acc, eD, la, pa⟩
        have hDa : D ≠ a ∧ D ≠ c := hD2.newNe hd
        refine ⟨rfl, ?_⟩
        refine ⟨_, rfl, _, rfl, (m : Int), 1, rfl, rfl, a, c, m - 1, ?_, by omega, hD3, fun v d H4 dv av hD4 e4 => ?_⟩
        · have z : (m : Int) - 1 = ((m - 1 : Nat) : Int) := by omega
          show [V.ref a, V.int ((m : Int) - 1)] = _
          rw [z]
        · have eD4 : H4 D = some (.lst acc) := msk_le _ _ (e4 D _ (by rw [msk_ne hDa.1 hDa.2]; exact eD))
          refine ⟨acc, eD4, small1000 (by omega), hD4.upd hDa.1 hDa.2, msk_keep (e3.trans e4) nD, _, upd_same, ?_, ?_⟩
          · rw [List.length_append, la]
            rfl
          · intro x hx
            rw [freD_upd]
            rcases List.mem_append.mp hx with h | h
            · obtain ⟨d', a1, a2⟩ := pa x h
              exact ⟨d', dp_mono (freD_step hD e4) a1, a2⟩
            · rw [List.mem_singleton.mp h]
              exact ⟨d, dp_mono (freD_new hD3 e3 (by rw [eD]; simp)) dv, av⟩
      · rintro H3 ⟨hD3, e3, acc, eD, la, pa⟩
        obtain ⟨ds, da, dn⟩ := dpAll_ex pa
        have dl : ds.length ≤ 3 := by
          rw [← dpAll_len da]
          omega
        have hm2 : AnyD m (.list ds) ∧ AnyD m (.tuple ds) := by
          obtain ⟨m', rfl⟩ : ∃ m', m = m' + 1 := ⟨m - 1, by omega⟩
          exact ⟨.inr ⟨ds, dl, dn, .inl rfl⟩, .inr ⟨ds, dl, dn, .inr rfl⟩⟩
        refine ⟨_, rfl, r, 7, rfl, rfl, _, rfl, iteB (fun h7 => ?_) (fun h7 => ?_)⟩
        · refine ⟨_, rfl, D, acc, rfl, .inl ⟨.inl (.inl eD), fun l hl => ?_⟩⟩
          have nl : H l = none := free_of e3 hD3 hl
          refine q _ (.tuple ds) _ (.tup (.inl (.inl (fre_at nl upd_same))) (dpAll_mono (fun b o h => ?_) da)) hm2.2 (hD3.sm (Sm.new hl)) (e3.trans (msk_new hl))
          obtain ⟨n, h3⟩ := fre_some (freD_le _ _ h)
          exact fre_at n (Sm.new hl _ _ h3)
        · exact ⟨_, rfl, q _ (.list ds) _ (.lst (.inl (.inl (fre_at nD eD))) (dpAll_mono freD_le da)) hm2.1 hD3 e3⟩
    all_goals
      refine ⟨1, rfl, ⟨by decide, fun p1 h1 => ⟨by decide, fun p2 h2 => ⟨by decide, fun p3 h3 => ⟨by decide, fun p4 h4 => ⟨by decide, fun p5 h5 =>
        ⟨10, 20, rfl, rfl, ⟨by decide, by decide, by decide⟩, ⟨(show 18 ≤ sizeLine by decide), fun p6 h6 => ?_⟩⟩⟩⟩⟩⟩⟩⟩
      have n1 := free_of e1 hD1 h1
      have m1 := msk_new (a := a) (c := c) (o := .tup []) h1
      have s1 : Sm H1 _ := Sm.new (o := .tup []) h1
      have D1 := hD1.sm s1
      have n2 := free_of (e1.trans (m1)) D1 h2
      have m2 := msk_new (a := a) (c := c) (o := .lst []) h2
      have s2 := Sm.new (o := .lst []) h2
      have D2 := D1.sm s2
      have n3 := free_of (e1.trans (m1.trans (m2))) D2 h3
      have m3 := msk_new (a := a) (c := c) (o := .tup [.int 0, .int 1]) h3
      have s3 := Sm.new (o := .tup [.int 0, .int 1]) h3
      have D3 := D2.sm s3
      have n4 := free_of (e1.trans (m1.trans (m2.trans (m3)))) D3 h4
      have m4 := msk_new (a := a) (c := c) (o := .tup [.int 1, .int 0]) h4
      have s4 := Sm.new (o := .tup [.int 1, .int 0]) h4
      have D4 := D3.sm s4
      have n5 := free_of (e1.trans (m1.trans (m2.trans (m3.trans (m4))))) D4 h5
      have m5 := msk_new (a := a) (c := c) (o := .lst [.int 2, .int 3]) h5
      have s5 := Sm.new (o := .lst [.int 2, .int 3]) h5
      have D5 := D4.sm s5
      refine ⟨_, rfl, _, rfl, a, c, p6, _, rfl, D5.sm (Sm.new h6), .inl (.inl (msk_at (D5.newNe h6).1 (D5.newNe h6).2)), (by decide : (0 : Nat) < 18), (by decide : (18 : Nat) ≤ 1000), fun j v H' hj hD' e' => ?_⟩
      have m6 := (msk_new (a := a) (c := c) h6).trans e'
      have m16 := m1.trans (m2.trans (m3.trans (m4.trans (m5.trans m6))))
      have odd : Odds K (fre H H') _ := .cons .none .non pl_non (.cons (.bool true) (.bl _) (pl_bl _) (.cons (.bool false) (.bl _) (pl_bl _)
        (.cons (.int 0) (.int _) pl_i0 (.cons (.int 1) (.int _) pl_i1 (.cons (.int 2) (.int _) pl_i2 (.cons (.int 7) (.int _) pl_i7 (.cons (.int (-1)) (.int _) pl_m1
        (.cons (.str _) (.str _) pl_s0 (.cons (.str _) (.str _) pl_s1 (.cons (.str _) (.str _) pl_s2 (.cons (.str _) (.str _) pl_s3
        (.cons (.tuple []) (.tup (fr_tup hD1 h1 n1 (m2.trans (m3.trans (m4.trans (m5.trans m6))))) .nil) pl_t0
        (.cons (.list []) (.lst (fr_lst D1 h2 n2 (m3.trans (m4.trans (m5.trans m6)))) .nil) pl_l0
        (.cons (.tuple [.int 0, .int 1]) (.tup (fr_tup D2 h3 n3 (m4.trans (m5.trans m6))) (.cons (.int _) (.cons (.int _) .nil))) pl_t01
        (.cons (.tuple [.int 1, .int 0]) (.tup (fr_tup D3 h4 n4 (m5.trans m6)) (.cons (.int _) (.cons (.int _) .nil))) pl_t10
        (.cons (.list [.int 2, .int 3]) (.lst (fr_lst D4 h5 n5 m6) (.cons (.int _) (.cons (.int _) .nil))) pl_l23
        (.cons (.int (10 ^ 20)) (.int _) pl_big .nil)))))))))))))))))
      obtain ⟨d, dd, dp⟩ := odd v (List.mem_of_getElem? hj)
      exact q v d H' dd (AnyD.leaf dp) hD' (e1.trans m16)
theorem any_ok {f : Addr} {fd : FuncData} (F : Fun K "_law_any" "_law_any" s_any f fd) (T : Bt mg) (Cd : Cal P w K mg base 2 "_law_draw" spDraw [])
    (Cp : Cal P w K mg base 3 "_law_pick" (spPick K) []) (gm : mg "_law_any" = some (.ref f)) (hb : Binds K fd p_any []) :
    ∀ n, FnOk P w K mg base CX0 (n + 3) f fd p_any (spAny K n)
  | 0 => ⟨fun _ _ _ _ h => by obtain ⟨_, _, m, _, h, _⟩ := h; exact absurd h (Nat.not_lt_zero _), fun _ _ _ _ _ _ _ _ _ _ _ _ _ h => by obtain ⟨_, _, m, _, h, _⟩ := h; exact absurd h (Nat.not_lt_zero _)⟩
  | n + 1 => any_step F T Cd Cp ⟨⟨f, fd, p_any, [], any_ok F T Cd Cp gm hb n, gm, F.kp, hb, .nil⟩⟩
end
end Z
set_option Elab.async false
set_option linter.all false
set_option maxRecDepth 100000
set_option maxHeartbeats 4000000
set_option autoImplicit false
namespace Z
open PySem PySem.Spec PyProof.Rows L2
open C8 (Cal pe_c Mak pe_mk Met pe_mt pe_mt0 pe_gc)
/-- a row of so many signs -/
def IsSign (z : Str) : Prop := z = ⟨#[43]⟩ ∨ z = ⟨#[45]⟩
def IsRow (n : Nat) (z : Str) : Prop := z.length = n ∧ ∀ c ∈ z.cps.toList, c = 43 ∨ c = 45
theorem isrow_nil : IsRow 0 ⟨#[]⟩ := ⟨rfl, fun _ h => by simp at h⟩
theorem isrow_join : ∀ ys : List Str, (∀ y ∈ ys, IsSign y) → IsRow ys.length (Txt.join ⟨#[]⟩ ys)
  | [], _ => by
    rw [TL.join_eq]
    exact isrow_nil
  | y :: ys, h => by
    obtain ⟨l, a⟩ := isrow_join ys fun z hz => h z (by simp [hz])
    rw [TL.join_eq] at l a ⊢
    rw [join_nil_cons]
    have one : y.length = 1 ∧ ∀ c ∈ y.cps.toList, c = 43 ∨ c = 45 := by
      rcases h y (by simp) with rfl | rfl
      · exact ⟨rfl, fun c hc => by simp at hc; exact .inl hc⟩
      · exact ⟨rfl, fun c hc => by simp at hc; exact .inr hc⟩
    have e : (y ++ Str.join ⟨#[]⟩ ys).cps = y.cps ++ (Str.join ⟨#[]⟩ ys).cps := rfl
    refine ⟨?_, fun c hc => ?_⟩
    · show (y ++ Str.join ⟨#[]⟩ ys).cps.size = ys.length + 1
      rw [e, Array.size_append]
      have l1 : y.cps.size = 1 := one.1
      have l2 : (Str.join ⟨#[]⟩ ys).cps.size = ys.length := l
      omega
    · rw [e, Array.toList_append] at hc
      rcases List.mem_append.mp hc with q | q
      · exact one.2 c q
      · exact a c q
theorem sum_signs : ∀ ys : List Str, (∀ y ∈ ys, IsSign y) → (ys.map (·.length)).sum = ys.length
  | [], _ => rfl
  | y :: ys, h => by
    have l1 : y.length = 1 := by
      rcases h y (by simp) with rfl | rfl <;> rfl
    rw [List.map_cons, List.sum_cons, sum_signs ys fun z hz => h z (by simp [hz]), l1, List.length_cons]
    omega
theorem sign_at {i : Int} (h0 : 0 ≤ i) (h1 : i < 2) : ∃ c, atI (Str.ofString "-+").cps.toList i = some c ∧ IsSign ⟨#[c]⟩ := by
  have : i = 0 ∨ i = 1 := by omega
  rcases this with rfl | rfl
  · exact ⟨45, by decide +kernel, .inr rfl⟩
  · exact ⟨43, by decide +kernel, .inl rfl⟩
theorem str_map {l : List V} (h : ∀ v ∈ l, ∃ y, v = .str y ∧ IsSign y) : ∃ ys : List Str, l = ys.map V.str ∧ ∀ y ∈ ys, IsSign y := by
  induction l with
  | nil => exact ⟨[], rfl, fun _ h => nomatch h⟩
  | cons v l ih =>
    obtain ⟨y, rfl, s⟩ := h v (by simp)
    obtain ⟨ys, rfl, a⟩ := ih fun z hz => h z (by simp [hz])
    refine ⟨y :: ys, rfl, fun z hz => ?_⟩
    rcases List.mem_cons.mp hz with q | q
    · rw [q]
      exact s
    · exact a z q
section
variable {P : Program} {w : World} {K : PySem.W.Frag} {mg : Str → Option Value} {base : Heap}
def spSigns : Sp := fun vs H Q _ => ∃ (a c : Addr) (n : Nat), vs = [.ref a, .int n] ∧ n ≤ 900 ∧ DealAt H a c ∧
  ∀ z H', IsRow n z → DealAt H' a c → Sm (msk a c H) (msk a c H') → Q (.str z) H'
abbrev s_signs : Stmt := topS 31
abbrev n_signs : List Str := ["_law_deal_here", "_law_wide", "_law_form", "_law_first", "_law_turn", "_law_at"]
abbrev p_signs : List Str := ["_law_deal_here", "_law_wide"]
theorem sc_signs : FnScope n_signs p_signs (defScope s_signs) := ⟨rfl, rfl, rfl, by decide +kernel, rfl, by decide +kernel, by decide +kernel⟩
theorem ok_signs {f : Addr} {fd : FuncData} (F : Fun K "_law_signs" "_law_signs" s_signs f fd) (T : Bt mg) (Cd : Cal P w K mg base 2 "_law_draw" spDraw []) :
    FnOk P w K mg base CX0 3 f fd p_signs spSigns := by
  refine F.ok sc_signs (fun vs H Q E h => ?_) (fun cdv A outer s H vs Q E hr h => ?_)
  · obtain ⟨a, c, n, rfl, _⟩ := h
    rfl
  · obtain ⟨a, c, n, rfl, hn, hD, q⟩ := h
    refine ⟨_, (pss_cons (ps_asg (pe_tup (pa_cons (pe_c Cd hr (by decide) (by rfl) (pa_cons (pv 0) (pa_cons pe_int pa_nil))) (pa_cons (pe_c Cd hr (by decide) (by rfl) (pa_cons (pv 0) (pa_cons pe_int pa_nil))) pa_nil)))
        (pg_tup rfl (pgs_cons (pg_name (i := 2) sc_signs.nd rfl (Or.inr rfl)) (pgs_cons (pg_name (i := 3) sc_signs.nd rfl (Or.inr rfl)) pgs_nil))))
      (pss_cons (ps_if (pt_cmpR op_lt (pv 2) pe_int (nomark _))
        (pss_one (ps_ret (pe_join pe_str (pe_lc (own := [("_law_turn", 4)]) (tt := tYes) (by rfl) sc_signs.nd (pi_range1 rfl T.n_range (pa_cons (pv 1) pa_nil)) (blkOk_by (N := n_signs) (sc := defScope s_signs) (own := [("_law_turn", 4)]) (by decide +kernel)) (fun _ _ _ _ _ => pg_name (i := 4) sc_signs.nd rfl (Or.inl rfl)) (fun _ _ _ _ _ => pts_nil) (fun _ _ _ _ _ => (pe_ix ix_str pe_str (pe_c Cd hr (by decide) (by rfl) (pa_cons (pv 0) (pa_cons pe_int pa_nil))) (fun _ _ => rfl)))))))
        pss_nil)
      (pss_one (ps_ret (pe_join pe_str (pe_lc (own := [("_law_at", 5)]) (tt := tYes) (by rfl) sc_signs.nd (pi_range1 rfl T.n_range (pa_cons (pv 1) pa_nil)) (blkOk_by (N := n_signs) (sc := defScope s_signs) (own := [("_law_at", 5)]) (by decide +kernel)) (fun _ _ _ _ _ => pg_name (i := 5) sc_signs.nd rfl (Or.inl rfl)) (fun _ _ _ _ _ => pts_nil) (fun _ _ _ _ _ => (pe_ix ix_str pe_str (pe_op op_mod (pe_callTy call_int1 (by rfl) T.n_int (by decide +kernel) (pa_cons (pe_op op_add (pv 3) (pe_op op_mul (pv 5) (pe_op op_sub (pv 2) pe_int))) pa_nil)) pe_int) (fun _ _ => rfl))))))))), ?_⟩
    refine ⟨_, rfl, a, c, 4, rfl, hD, by decide, by decide, fun r H1 r0 r1 hD1 e1 => ⟨_, rfl, a, c, 2, rfl, hD1, by decide, by decide, fun r2 H2 r20 r21 hD2 e2 => ⟨(show 2 ≤ sizeLine by decide), fun p hp => ?_⟩⟩⟩
    refine ⟨p, _, rfl, .inl (.inl upd_same), rfl, _, _, rfl, _, _, rfl, rfl, ?_⟩
    have D3 := hD2.sm (Sm.new (o := .tup [.int r, .int r2]) hp)
    have e3 := (e1.trans e2).trans (msk_new (a := a) (c := c) (o := .tup [.int r, .int r2]) hp)
    generalize upd H2 p (.tup [.int r, .int r2]) = H3 at D3 e3 ⊢
    refine ⟨_, rfl, r, 2, rfl, rfl, _, rfl, iteB (fun hb => ?_) (fun hb => ?_)⟩
    · refine ⟨⟨_, rfl⟩, _, rfl, n, rfl, by omega, by omega, fun D hd => ?_⟩
      have nD : H D = none := free_of e3 D3 hd
      have hDa : D ≠ a ∧ D ≠ c := D3.newNe hd
      refine lc_range (lo := 0) (n := n) (fun i H' => DealAt H' a c ∧ Sm (msk a c H) (msk a c H') ∧ ∃ acc, H' D = some (.lst acc) ∧ acc.length = i ∧ ∀ v ∈ acc, ∃ y, v = .str y ∧ IsSign y) ?_ ?_ ?_
      · exact ⟨D3.sm (Sm.new hd), msk_keep e3 nD, [], upd_same, rfl, fun _ z => nomatch z⟩
      · rintro i H4 hi ⟨D4, e4, acc, eD, la, pa⟩
        refine ⟨rfl, _, rfl, a, c, 2, rfl, D4, by decide, by decide, fun t H5 t0 t1 D5 e5 => ?_⟩
        obtain ⟨ch, h1, h2⟩ := sign_at t0 t1
        refine ⟨_, t, ch, rfl, rfl, by decide, h1, acc, msk_le _ _ (e5 D _ (by rw [msk_ne hDa.1 hDa.2]; exact eD)), small1000 (by omega), D5.upd hDa.1 hDa.2, msk_keep (e4.trans e5) nD, _, upd_same, by rw [List.length_append, la]; rfl, ?_⟩
        intro x hx
        rcases List.mem_append.mp hx with h | h
        · exact pa x h
        · rw [List.mem_singleton.mp h]
          exact ⟨_, rfl, h2⟩
      · rintro H4 ⟨D4, e4, acc, eD, la, pa⟩
        obtain ⟨ys, rfl, sg⟩ := str_map pa
        rw [List.length_map] at la
        refine ⟨_, D, ys, rfl, rfl, .inl (.inl (.inl eD)), ?_, q _ _ ?_ D4 e4⟩
        · rw [sum_signs ys sg]
          show ys.length + ys.length * 0 ≤ 16777216
          omega
        · rw [← la]
          exact isrow_join ys sg
    · refine ⟨⟨_, rfl⟩, _, rfl, n, rfl, by omega, by omega, fun D hd => ?_⟩
      have nD : H D = none := free_of e3 D3 hd
      have hDa : D ≠ a ∧ D ≠ c := D3.newNe hd
      refine lc_range (lo := 0) (n := n) (fun i H' => DealAt H' a c ∧ Sm (msk a c H) (msk a c H') ∧ ∃ acc, H' D = some (.lst acc) ∧ acc.length = i ∧ ∀ v ∈ acc, ∃ y, v = .str y ∧ IsSign y) ?_ ?_ ?_
      · exact ⟨D3.sm (Sm.new hd), msk_keep e3 nD, [], upd_same, rfl, fun _ z => nomatch z⟩
      · rintro i H4 hi ⟨D4, e4, acc, eD, la, pa⟩
        have m0 : 0 ≤ (r2 + (0 + (i : Int)) * (r - 2)) % 2 := Int.emod_nonneg _ (by decide)
        have m1 : (r2 + (0 + (i : Int)) * (r - 2)) % 2 < 2 := Int.emod_lt_of_pos _ (by decide)
        obtain ⟨ch, h1, h2⟩ := sign_at m0 m1
        refine ⟨rfl, _, rfl, _, rfl, _, rfl, r, 2, rfl, rfl, 0 + (i : Int), r - 2, rfl, rfl, .inl ⟨by omega, by omega⟩, r2, _, rfl, rfl, .inl ⟨_, rfl, _, 2, rfl, rfl, (show (0 : Int) < 2 by decide), ?_⟩⟩
        refine ⟨_, _, ch, rfl, rfl, by decide, h1, acc, eD, small1000 (by omega), D4.upd hDa.1 hDa.2, msk_keep e4 nD, _, upd_same, by rw [List.length_append, la]; rfl, ?_⟩
        intro x hx
        rcases List.mem_append.mp hx with h | h
        · exact pa x h
        · rw [List.mem_singleton.mp h]
          exact ⟨_, rfl, h2⟩
      · rintro H4 ⟨D4, e4, acc, eD, la, pa⟩
        obtain ⟨ys, rfl, sg⟩ := str_map pa
        rw [List.length_map] at la
        refine ⟨_, D, ys, rfl, rfl, .inl (.inl (.inl eD)), ?_, q _ _ ?_ D4 e4⟩
        · rw [sum_signs ys sg]
          show ys.length + ys.length * 0 ≤ 16777216
          omega
        · rw [← la]
          exact isrow_join ys sg
theorem ix_tupK {X : Cx} (K : PySem.W.Frag) (h : X.K = K := by rfl) : IxR X (rIxT K) := by
  subst h
  exact ix_tup
/-- a drawn table: starts, periods, rows -/
structure Tab (most far s0 s1 p0 p1 : Nat) (rows : List Str) : Prop where
  a0 : s0 ≤ most
  a1 : s1 ≤ most
  b0 : 1 ≤ p0
  b1 : 1 ≤ p1
  c0 : p0 ≤ far
  c1 : p1 ≤ far
  len : rows.length = s0 + p0
  row : ∀ r ∈ rows, IsRow (s1 + p1) r
def spTable (K : PySem.W.Frag) : Sp := fun vs H Q _ => ∃ (a c : Addr) (most far : Nat), vs = [.ref a, .int most, .int far] ∧ most ≤ 50 ∧ 1 ≤ far ∧ far ≤ 50 ∧ DealAt H a c ∧
  ∀ (t s p l : Addr) (s0 s1 p0 p1 : Nat) (rows : List Str) H', Tab most far s0 s1 p0 p1 rows → SqT K (fre H H') t [.ref s, .ref p, .ref l] → SqT K (fre H H') s [.int s0, .int s1] →
    SqT K (fre H H') p [.int p0, .int p1] → fre H H' l = some (.lst (rows.map V.str)) → DealAt H' a c → Sm (msk a c H) (msk a c H') → Q (.ref t) H'
abbrev s_table : Stmt := topS 32
abbrev n_table : List Str := ["_law_deal_here", "_law_most", "_law_far", "_law_starts", "_law_periods", "_law_some", "_law_turn"]
abbrev p_table : List Str := ["_law_deal_here", "_law_most", "_law_far"]
theorem sc_table : FnScope n_table p_table (defScope s_table) := ⟨rfl, rfl, rfl, by decide +kernel, rfl, by decide +kernel, by decide +kernel⟩
theorem ok_table {f : Addr} {fd : FuncData} (F : Fun K "_law_table" "_law_table" s_table f fd) (T : Bt mg) (Cd : Cal P w K mg base 2 "_law_draw" spDraw [])
    (Cs : Cal P w K mg base 3 "_law_signs" spSigns []) (Cp : Cal P w K mg base 3 "_law_pick" (spPick K) []) : FnOk P w K mg base CX0 4 f fd p_table (spTable K) := by
  refine F.ok sc_table (fun vs H Q E h => ?_) (fun cdv A outer s H vs Q E hr h => ?_)
  · obtain ⟨a, c, most, far, rfl, _⟩ := h
    rfl
  · obtain ⟨a, c, most, far, rfl, hm, hf1, hf2, hD, q⟩ := h
    refine ⟨_, (pss_cons (ps_set (i := 3) sc_table.nd rfl (Or.inr rfl) (pe_tup (pa_cons (pe_c Cd hr (by decide) (by rfl) (pa_cons (pv 0) (pa_cons (pe_op op_add (pv 1) pe_int) pa_nil))) (pa_cons (pe_c Cd hr (by decide) (by rfl) (pa_cons (pv 0) (pa_cons (pe_op op_add (pv 1) pe_int) pa_nil))) pa_nil))))
      (pss_cons (ps_set (i := 4) sc_table.nd rfl (Or.inr rfl) (pe_tup (pa_cons (pe_op op_add pe_int (pe_c Cd hr (by decide) (by rfl) (pa_cons (pv 0) (pa_cons (pv 2) pa_nil)))) (pa_cons (pe_op op_add pe_int (pe_c Cd hr (by decide) (by rfl) (pa_cons (pv 0) (pa_cons (pv 2) pa_nil)))) pa_nil))))
      (pss_cons (ps_set (i := 5) sc_table.nd rfl (Or.inr rfl) (pe_lc (own := [("_law_turn", 6)]) (tt := tYes) (by rfl) sc_table.nd (pi_range1 rfl T.n_range (pa_cons (pe_op op_add pe_int (pe_c Cd hr (by decide) (by rfl) (pa_cons (pv 0) (pa_cons pe_int pa_nil)))) pa_nil)) (blkOk_by (N := n_table) (sc := defScope s_table) (own := [("_law_turn", 6)]) (by decide +kernel)) (fun _ _ _ _ _ => pg_name (i := 6) sc_table.nd rfl (Or.inl rfl)) (fun _ _ _ _ _ => pts_nil) (fun _ _ _ _ _ => (pe_c Cs hr (by decide) (by rfl) (pa_cons (pv 0) (pa_cons (pe_op op_add (pe_ix (ix_tupK K) (pv 3) pe_int (fun _ _ => rfl)) (pe_ix (ix_tupK K) (pv 4) pe_int (fun _ _ => rfl))) pa_nil))))))
      (pss_one (ps_ret (pe_tup (pa_cons (pv 3) (pa_cons (pv 4) (pa_cons (pe_lc (own := [("_law_turn", 6)]) (tt := tYes) (by rfl) sc_table.nd (pi_range1 rfl T.n_range (pa_cons (pe_op op_add (pe_ix (ix_tupK K) (pv 3) pe_int (fun _ _ => rfl)) (pe_ix (ix_tupK K) (pv 4) pe_int (fun _ _ => rfl))) pa_nil)) (blkOk_by (N := n_table) (sc := defScope s_table) (own := [("_law_turn", 6)]) (by decide +kernel)) (fun _ _ _ _ _ => pg_name (i := 6) sc_table.nd rfl (Or.inl rfl)) (fun _ _ _ _ _ => pts_nil) (fun _ _ _ _ _ => (pe_c Cp hr (by decide) (by rfl) (pa_cons (pv 0) (pa_cons (pv 5) pa_nil))))) pa_nil))))))))), ?_⟩
    refine ⟨_, rfl, _, rfl, _, _, rfl, rfl, a, c, (most : Int) + 1, rfl, hD, by omega, by omega, fun r1 H1 r10 r11 hD1 e1 => ?_⟩
    refine ⟨_, rfl, _, rfl, _, _, rfl, rfl, a, c, (most : Int) + 1, rfl, hD1, by omega, by omega, fun r2 H2 r20 r21 hD2 e2 => ⟨(show 2 ≤ sizeLine by decide), fun s hs => ?_⟩⟩
    obtain ⟨n1, rfl⟩ := Int.eq_ofNat_of_zero_le r10
    obtain ⟨n2, rfl⟩ := Int.eq_ofNat_of_zero_le r20
    have ns := free_of (e1.trans e2) hD2 hs
    have D3 := hD2.sm (Sm.new (o := .tup [.int n1, .int n2]) hs)
    have e3 := (e1.trans e2).trans (msk_new (a := a) (c := c) (o := .tup [.int n1, .int n2]) hs)
    have hsA : s ≠ a ∧ s ≠ c := hD2.newNe hs
    have ls : upd H2 s (.tup [.int n1, .int n2]) s = some (.tup [.int n1, .int n2]) := upd_same
    generalize upd H2 s (.tup [.int n1, .int n2]) = H3 at D3 e3 ls ⊢
    refine ⟨_, rfl, _, rfl, a, c, (far : Int), rfl, D3, by omega, by omega, fun r3 H4 r30 r31 hD4 e4 => ⟨1, r3, rfl, rfl, ?_⟩⟩
    refine ⟨_, rfl, _, rfl, a, c, (far : Int), rfl, hD4, by omega, by omega, fun r4 H5 r40 r41 hD5 e5 => ⟨1, r4, rfl, rfl, ⟨(show 2 ≤ sizeLine by decide), fun p hp => ?_⟩⟩⟩
    obtain ⟨n3, rfl⟩ := Int.eq_ofNat_of_zero_le r30
    obtain ⟨n4, rfl⟩ := Int.eq_ofNat_of_zero_le r40
    have e05 := (e3.trans e4).trans e5
    have np := free_of e05 hD5 hp
    have ls5 : H5 s = some (.tup [.int n1, .int n2]) := msk_le _ _ ((e4.trans e5) s _ (by rw [msk_ne hsA.1 hsA.2]; exact ls))
    have hpA : p ≠ a ∧ p ≠ c := hD5.newNe hp
    have D6 := hD5.sm (Sm.new (o := .tup [.int (1 + n3), .int (1 + n4)]) hp)
    have e6 := e05.trans (msk_new (a := a) (c := c) (o := .tup [.int (1 + n3), .int (1 + n4)]) hp)
    have ls6 : upd H5 p (.tup [.int (1 + n3), .int (1 + n4)]) s = some (.tup [.int n1, .int n2]) := Sm.new hp _ _ ls5
    have lp6 : upd H5 p (.tup [.int (1 + n3), .int (1 + n4)]) p = some (.tup [.int (1 + n3), .int (1 + n4)]) := upd_same
    generalize upd H5 p (.tup [.int (1 + n3), .int (1 + n4)]) = H6 at D6 e6 ls6 lp6 ⊢
    have ms6 : msk a c H6 s = some (.tup [.int n1, .int n2]) := by
      rw [msk_ne hsA.1 hsA.2]
      exact ls6
    have mp6 : msk a c H6 p = some (.tup [.int (1 + n3), .int (1 + n4)]) := by
      rw [msk_ne hpA.1 hpA.2]
      exact lp6
    have hw : ((n2 : Int) + (1 + (n4 : Int))) = ((n2 + (1 + n4) : Nat) : Int) := by omega
    have hh : ((n1 : Int) + (1 + (n3 : Int))) = ((n1 + (1 + n3) : Nat) : Int) := by omega
    -- the rows to pick from
    refine ⟨_, rfl, a, c, 3, rfl, D6, by decide, by decide, fun r5 H7 r50 r51 D7 e7 => ⟨2, r5, rfl, rfl, 2 + r5, rfl, by omega, by omega, fun D hd => ?_⟩⟩
    have nD : H6 D = none := free_of e7 D7 hd
    have hDA : D ≠ a ∧ D ≠ c := D7.newNe hd
    refine lc_range (lo := 0) (n := (2 + r5).toNat) (fun i H' => DealAt H' a c ∧ Sm (msk a c H6) (msk a c H') ∧ ∃ ys : List Str, H' D = some (.lst (ys.map V.str)) ∧ ys.length = i ∧ ∀ y ∈ ys, IsRow (n2 + (1 + n4)) y) ?_ ?_ ?_
    · exact ⟨D7.sm (Sm.new hd), msk_keep e7 nD, [], upd_same, rfl, fun _ z => nomatch z⟩
    · rintro i H8 hi ⟨D8, e8, ys, eD, la, pa⟩
      refine ⟨rfl, ?_⟩
      refine ⟨_, rfl, _, rfl, s, _, 1, _, rfl, rfl, .inl (.inl (msk_le _ _ (e8 _ _ ms6))), atI_nat (j := 1) rfl, _, rfl, p, _, 1, _, rfl, rfl, .inl (.inl (msk_le _ _ (e8 _ _ mp6))), atI_nat (j := 1) rfl, _, _, rfl, rfl,
        a, c, n2 + (1 + n4), by rw [← hw]; rfl, by omega, D8, fun z H9 hz D9 e9 => ?_⟩
      refine ⟨_, msk_le _ _ (e9 D _ (by rw [msk_ne hDA.1 hDA.2]; exact eD)), small1000 (by rw [List.length_map]; omega), D9.upd hDA.1 hDA.2, msk_keep (e8.trans e9) nD, ys ++ [z], by rw [upd_same, List.map_append]; rfl, by rw [List.length_append, la]; rfl, ?_⟩
      intro x hx
      rcases List.mem_append.mp hx with h | h
      · exact pa x h
      · rw [List.mem_singleton.mp h]
        exact hz
    · rintro H8 ⟨D8, e8, ys, eD, la, pa⟩
      -- the rows
      refine ⟨_, rfl, _, rfl, _, rfl, s, _, 0, _, rfl, rfl, .inl (.inl (msk_le _ _ (e8 _ _ ms6))), atI_nat (j := 0) rfl, _, rfl, p, _, 0, _, rfl, rfl, .inl (.inl (msk_le _ _ (e8 _ _ mp6))), atI_nat (j := 0) rfl, _, _, rfl, rfl,
        _, rfl, by omega, by omega, fun L hL => ?_⟩
      have nL : H8 L = none := hL
      have nL6 : H6 L = none := free_of e8 D8 hL
      have hLA : L ≠ a ∧ L ≠ c := D8.newNe hL
      have hLD : D ≠ L := fun z => by
        rw [← z, eD] at nL
        cases nL
      rw [hh]
      refine lc_range (lo := 0) (n := n1 + (1 + n3)) (fun i H' => DealAt H' a c ∧ Sm (msk a c H8) (msk a c H') ∧ ∃ zs : List Str, H' L = some (.lst (zs.map V.str)) ∧ zs.length = i ∧ ∀ y ∈ zs, IsRow (n2 + (1 + n4)) y) ?_ ?_ ?_
      · exact ⟨D8.sm (Sm.new hL), msk_keep (Sm.refl _) nL, [], upd_same, rfl, fun _ z => nomatch z⟩
      · rintro i H9 hi ⟨D9, e9, zs, eL, lz, pz⟩
        refine ⟨rfl, ?_⟩
        refine ⟨_, rfl, _, rfl, a, c, D, ys.map V.str, rfl, D9, .inl (.inl (e9 D _ (by rw [msk_ne hDA.1 hDA.2]; exact eD))), by rw [List.length_map]; omega, by rw [List.length_map]; omega, fun j v H10 hj D10 e10 => ?_⟩
        obtain ⟨z, hz, rfl⟩ := List.getElem?_map_some hj
        refine ⟨_, msk_le _ _ (e10 L _ (by rw [msk_ne hLA.1 hLA.2]; exact eL)), small1000 (by rw [List.length_map]; omega), D10.upd hLA.1 hLA.2, msk_keep (e9.trans e10) nL, zs ++ [z], by rw [upd_same, List.map_append]; rfl, by rw [List.length_append, lz]; rfl, ?_⟩
        intro x hx
        rcases List.mem_append.mp hx with h | h
        · exact pz x h
        · rw [List.mem_singleton.mp h]
          exact pa z (List.mem_of_getElem? hz)
      · rintro H9 ⟨D9, e9, zs, eL, lz, pz⟩
        refine ⟨(show 3 ≤ sizeLine by decide), fun t ht => ?_⟩
        have e69 := e8.trans e9
        have ett := e69.trans (msk_new (a := a) (c := c) (o := .tup [.ref s, .ref p, .ref L]) ht)
        have e1 : ((1 : Int) + (n3 : Int)) = ((1 + n3 : Nat) : Int) := by omega
        have e2 : ((1 : Int) + (n4 : Int)) = ((1 + n4 : Nat) : Int) := by omega
        have fp := msk_le _ _ (ett _ _ mp6)
        rw [e1, e2] at fp
        refine q t s p L n1 n2 (1 + n3) (1 + n4) zs _ ⟨by omega, by omega, by omega, by omega, by omega, by omega, lz, pz⟩ (.inl (.inl (fre_at (free_of (e6.trans e69) D9 ht) upd_same)))
          (.inl (.inl (fre_at ns (msk_le _ _ (ett _ _ ms6))))) (.inl (.inl (fre_at np fp))) (fre_at (free_of e6 D6 nL6) (Sm.new ht _ _ eL)) (D9.sm (Sm.new ht)) (e6.trans ett)
end
end Z
set_option Elab.async false
set_option linter.all false
set_option maxRecDepth 100000
set_option maxHeartbeats 4000000
set_option autoImplicit false
namespace Z
open PySem PySem.Spec PyProof.Rows L2
open C8 (Cal pe_c Mak pe_mk Met pe_mt pe_mt0 pe_gc)
/-! the type of plain data -/
def tyD : PyData → Value
  | .none => .type "NoneType"
  | .bool _ => .type "bool"
  | .int _ => .type "int"
  | .str _ => .type "str"
  | .list _ => .type "list"
  | .tuple _ => .type "tuple"
  | .dict _ => .type "dict"
theorem tyx_lst {K : PySem.W.Frag} {H : Hp} {a : Addr} {xs : List V} (h : SqL K H a xs) : TyX K H (.ref a) (.type "list") := by
  rcases h with (h | ⟨o, h⟩) | ⟨o, its, n, e, c, _⟩
  · exact .base (.lst h)
  · exact .base (.frz h)
  · exact .kList e c
theorem tyx_tup {K : PySem.W.Frag} {H : Hp} {a : Addr} {xs : List V} (h : SqT K H a xs) : TyX K H (.ref a) (.type "tuple") := by
  rcases h with (h | ⟨o, h⟩) | ⟨o, its, n, e, c, _⟩
  · exact .base (.tup h)
  · exact .fTuple h
  · exact .kTuple e c
theorem dp_ty {K : PySem.W.Frag} {H : Hp} {v : V} {d : PyData} (h : Dp K H v d) : TyX K H v (tyD d) := by
  cases h with
  | non => exact .base .non
  | bl b => exact .base (.bl b)
  | int i => exact .base (.int i)
  | str x => exact .base (.str x)
  | lst s a => exact tyx_lst s
  | tup s a => exact tyx_tup s
def isIntD : PyData → Bool
  | .int _ => true
  | _ => false
def isBlD : PyData → Bool
  | .bool _ => true
  | _ => false
def isStrD : PyData → Bool
  | .str _ => true
  | _ => false
def itemsD : PyData → Option (List PyData)
  | .list ds => some ds
  | .tuple ds => some ds
  | _ => none
theorem kit_int {K : PySem.W.Frag} {H : Hp} {v : V} {d : PyData} (h : Dp K H v d) : PySem.W.kitOne K (tyD d) (.type "int") = some (isIntD d || isBlD d) := by
  cases h <;> rfl
theorem kit_bool {K : PySem.W.Frag} {H : Hp} {v : V} {d : PyData} (h : Dp K H v d) : PySem.W.kitOne K (tyD d) (.type "bool") = some (isBlD d) := by
  cases h <;> rfl
theorem kit_str {K : PySem.W.Frag} {H : Hp} {v : V} {d : PyData} (h : Dp K H v d) : PySem.W.kitOne K (tyD d) (.type "str") = some (isStrD d) := by
  cases h <;> rfl
theorem kit_seq {K : PySem.W.Frag} {H : Hp} {v : V} {d : PyData} (h : Dp K H v d) : PySem.W.kitAny K (tyD d) [.type "list", .type "tuple"] = some (itemsD d).isSome := by
  cases h <;> rfl
theorem dp_items {K : PySem.W.Frag} {H : Hp} {v : V} {d : PyData} {ds : List PyData} (h : Dp K H v d) (e : itemsD d = some ds) :
    ∃ (a : Addr) (xs : List V), v = .ref a ∧ DpAll K H xs ds ∧ ((d = .list ds ∧ SqL K H a xs) ∨ (d = .tuple ds ∧ SqT K H a xs)) := by
  cases h with
  | non => cases e
  | bl b => cases e
  | int i => cases e
  | str x => cases e
  | lst s a =>
    cases e
    exact ⟨_, _, rfl, a, .inl ⟨rfl, s⟩⟩
  | tup s a =>
    cases e
    exact ⟨_, _, rfl, a, .inr ⟨rfl, s⟩⟩
theorem pi_or {X : Cx} {tg l : Expr} {t1 t2 : TI} (h1 : PI X tg l t1) (h2 : PI X tg l t2) : PI X tg l (fun σ H R => t1 σ H R ∨ t2 σ H R) :=
  ⟨fun pins s σ H R I h => h.elim (h1.run pins s σ H R I) (h2.run pins s σ H R I)⟩
/-- isinstance inside a comprehension -/
theorem call_isiK {X : Cx} (K : PySem.W.Frag) (h : X.K = K := by rfl) : CallR X (.builtin "isinstance") (rIsi K) := by
  subst h
  exact call_isi
structure Bt3 (mg : Str → Option Value) : Prop extends Bt mg where
  n_isi : mg "isinstance" = none
  n_list : mg "list" = none
  n_bool : mg "bool" = none
  n_str : mg "str" = none
  n_all : mg "all" = none
section
variable {P : Program} {w : World} {K : PySem.W.Frag} {mg : Str → Option Value} {base : Heap}
/-- a question about one thing -/
def spAsk (K : PySem.W.Frag) (t : PyData → Bool) : Sp := fun vs H Q _ => ∃ v d, vs = [v] ∧ Dp K H v d ∧ ∀ H', Sm H H' → Q (.bl (t d)) H'
abbrev s_isint : Stmt := topS 3
theorem sc_isint : FnScope ["value"] ["value"] (defScope s_isint) := ⟨rfl, rfl, rfl, by decide +kernel, rfl, by decide +kernel, by decide +kernel⟩
theorem ok_isint {f : Addr} {fd : FuncData} {k : Nat} (F : Fun K "is_integer" "is_integer" s_isint f fd) (T : Bt3 mg) : FnOk P w K mg base CX0 (k + 1) f fd ["value"] (spAsk K isIntD) := by
  refine F.ok sc_isint (fun vs H Q E h => ?_) (fun cdv A outer s H vs Q E hr h => ?_)
  · obtain ⟨v, d, rfl, _⟩ := h
    rfl
  · obtain ⟨v, d, rfl, hd, q⟩ := h
    refine ⟨_, (pss_one (ps_ret (pe_and (pe_callB call_isi (by rfl) T.n_isi (by decide +kernel) (pa_cons (pv 0) (pa_cons (pe_bltn (v := .ty "int") (by rfl) T.n_int (by decide +kernel) rfl) pa_nil)))
      (pe_one (pe_not (pe_callB call_isi (by rfl) T.n_isi (by decide +kernel) (pa_cons (pv 0) (pa_cons (pe_bltn (v := .ty "bool") (by rfl) T.n_bool (by decide +kernel) rfl) pa_nil)))))))), ?_⟩
    refine ⟨_, rfl, v, _, _, _, _, rfl, .ty "int", dp_ty hd, kit_int hd, _, rfl, ?_⟩
    have z := q H (Sm.refl H)
    cases d with
    | int i => exact ⟨_, rfl, v, _, _, _, _, rfl, .ty "bool", dp_ty hd, kit_bool hd, _, rfl, z⟩
    | bool b => exact ⟨_, rfl, v, _, _, _, _, rfl, .ty "bool", dp_ty hd, kit_bool hd, _, rfl, z⟩
    | none => exact z
    | str x => exact z
    | list x => exact z
    | tuple x => exact z
    | dict x => exact z
abbrev s_isseq : Stmt := topS 5
theorem sc_isseq : FnScope ["value"] ["value"] (defScope s_isseq) := ⟨rfl, rfl, rfl, by decide +kernel, rfl, by decide +kernel, by decide +kernel⟩
theorem ok_isseq {f : Addr} {fd : FuncData} {k : Nat} (F : Fun K "is_sequence" "is_sequence" s_isseq f fd) (T : Bt3 mg) : FnOk P w K mg base CX0 (k + 1) f fd ["value"] (spAsk K fun d => (itemsD d).isSome) := by
  refine F.ok sc_isseq (fun vs H Q E h => ?_) (fun cdv A outer s H vs Q E hr h => ?_)
  · obtain ⟨v, d, rfl, _⟩ := h
    rfl
  · obtain ⟨v, d, rfl, hd, q⟩ := h
    refine ⟨_, (pss_one (ps_ret (pe_callB call_isiT (by rfl) T.n_isi (by decide +kernel) (pa_cons (pv 0) (pa_cons (pe_tup (pa_cons (pe_bltn (v := .ty "list") (by rfl) T.n_list (by decide +kernel) rfl) (pa_cons (pe_bltn (v := .ty "tuple") (by rfl) T.n_tuple (by decide +kernel) rfl) pa_nil))) pa_nil))))), ?_⟩
    refine ⟨_, rfl, (show 2 ≤ sizeLine by decide), fun p hp => ⟨v, p, _, _, _, _, rfl, upd_same, .cons (.ty _) (.cons (.ty _) .nil), dp_ty (dp_mono (Sm.new hp) hd), kit_seq hd, q _ (Sm.new hp)⟩⟩
theorem sm_put {H H' : Hp} {D : Addr} {o : HO} (e : Sm H H') (n : H D = none) : Sm H (upd H' D o) := fun b u h => by
  rw [upd_ne (ne_of_none h n)]
  exact e b u h
theorem dpAll_ix {K : PySem.W.Frag} {H : Hp} : ∀ {vs : List V} {ds : List PyData} {i : Nat} {v : V}, DpAll K H vs ds → vs[i]? = some v → ∃ d, ds[i]? = some d ∧ Dp K H v d
  | _, _, _, _, .nil, e => by simp at e
  | _, _, 0, _, .cons h t, e => by
    have e' : _ = _ := Option.some.inj e
    subst e'
    exact ⟨_, rfl, h⟩
  | _, _, i + 1, d, .cons h t, e => dpAll_ix (i := i) t e
theorem take_snoc {α β : Type} {l : List α} {i : Nat} {x : α} (f : α → β) (h : l[i]? = some x) : (l.take (i + 1)).map f = (l.take i).map f ++ [f x] := by
  rw [List.take_add_one, h, List.map_append]
  rfl
/-- an integer from lo on -/
def geD (lo : Int) : PyData → Bool
  | .int i => decide (lo ≤ i)
  | _ => false
def twoD (lo : Int) (d : PyData) : Bool := match itemsD d with
  | some ds => decide (ds.length = 2) && ds.all (geD lo)
  | none => false
def spTwo (K : PySem.W.Frag) : Sp := fun vs H Q _ => ∃ (lo : Int) (v : V) (d : PyData), vs = [.int lo, v] ∧ Dp K H v d ∧ (∀ ds, itemsD d = some ds → ds.length ≤ 1000) ∧ ∀ H', Sm H H' → Q (.bl (twoD lo d)) H'
abbrev s_two : Stmt := topS 16
abbrev n_two : List Str := ["lowest", "values", "value"]
theorem sc_two : FnScope n_two ["lowest", "values"] (defScope s_two) := ⟨rfl, rfl, rfl, by decide +kernel, rfl, by decide +kernel, by decide +kernel⟩
theorem ok_two {f : Addr} {fd : FuncData} (F : Fun K "_are_two_from" "_are_two_from" s_two f fd) (T : Bt3 mg) (Cs : Cal P w K mg base 1 "is_sequence" (spAsk K fun d => (itemsD d).isSome) [])
    (Ci : Cal P w K mg base 1 "is_integer" (spAsk K isIntD) []) : FnOk P w K mg base CX0 3 f fd ["lowest", "values"] (spTwo K) := by
  refine F.ok sc_two (fun vs H Q E h => ?_) (fun cdv A outer s H vs Q E hr h => ?_)
  · obtain ⟨lo, v, d, rfl, _⟩ := h
    rfl
  · obtain ⟨lo, v, d, rfl, hd, hlen, q⟩ := h
    refine ⟨_, (pss_cons (ps_if ((pw_or (pt_not (pt_val (pe_c Cs hr (by decide) (by rfl) (pa_cons (pv 1) pa_nil)))) (pw_or1 (pt_cmpR op_ne (pe_callB call_len_seq (by rfl) T.n_len (by decide +kernel) (pa_cons (pv 1) pa_nil)) pe_int (nomark _))))).pt
        (pss_one (ps_ret pe_bl))
        pss_nil)
      (pss_one (ps_ret (pe_callB (cr_all rfl) (by rfl) T.n_all (by decide +kernel) (pa_cons (pe_lc (own := [("value", 2)]) (tt := tYes) (by rfl) sc_two.nd (pi_or (pi_list (pv 1)) (pi_tup (pv 1))) (blkOk_by (N := n_two) (sc := defScope s_two) (own := [("value", 2)]) (by decide +kernel)) (fun _ _ _ _ _ => pg_name (i := 2) sc_two.nd rfl (Or.inl rfl)) (fun _ _ _ _ _ => pts_nil) (fun _ _ _ _ _ => (pe_and (pe_c Ci hr (by decide) (by rfl) (pa_cons (pv 2) pa_nil)) (pe_one (pe_cmpR op_ge (pv 2) (pv 0) (nomark _)))))) pa_nil))))), ?_⟩
    refine ⟨_, rfl, v, d, rfl, hd, fun H1 s1 => ?_⟩
    cases eq : itemsD d with
    | none =>
      have z := q H1 s1
      rw [twoD, eq] at z
      exact ⟨_, rfl, ite1 (by show (!(itemsD d).isSome) = true; rw [eq]; rfl) z⟩
    | some ds =>
      obtain ⟨a, xs, rfl, ha, hs⟩ := dp_items hd eq
      refine ⟨_, rfl, ite0 (by show (!(itemsD d).isSome) = false; rw [eq]; rfl) ?_⟩
      have hs1 : SqL K H1 a xs ∨ SqT K H1 a xs := by
        rcases hs with ⟨_, h⟩ | ⟨_, h⟩
        · exact .inl (s1.seq h)
        · exact .inr (s1.tup h)
      refine ⟨_, rfl, a, xs, rfl, hs1, rfl, _, rfl, iteB (fun hb => ?_) (fun hb => ?_)⟩
      · have z := q H1 s1
        have ne : ¬ ds.length = 2 := fun h => by
          rw [← dpAll_len ha] at h
          rw [h] at hb
          exact absurd hb (by decide)
        rw [twoD, eq] at z
        have z2 : Q (.bl false) H1 := by simpa [ne] using z
        exact z2
      have hb2 : xs.length = 2 := by
        have := of_decide_eq_true (by simpa using hb : decide (V.int (xs.length : Int) = V.int 2) = true)
        rw [V.int.injEq] at this
        omega
      rcases hs with ⟨_, hl⟩ | ⟨_, hl⟩
      · refine .inl ⟨_, rfl, a, rfl, ⟨_, s1.seq hl⟩, fun D hD => lc_list (K := K) (a := a) (xs := xs) (fun i H2 => Sm H H2 ∧ H2 D = some (.lst ((ds.take i).map fun e => V.bl (geD lo e)))) ?_ ?_ ?_ ?_⟩
        · exact ⟨s1.trans (Sm.new hD), upd_same⟩
        · exact fun i H2 _ h => (h.1).seq hl
        · rintro i x H2 hx ⟨s2, e2⟩
          obtain ⟨e, he, hde⟩ := dpAll_ix ha hx
          have fin : ∀ H3, Sm H2 H3 → ∃ acc, H3 D = some (.lst acc) ∧ acc.length < sizeLine ∧ Sm H (upd H3 D (.lst (acc ++ [V.bl (geD lo e)]))) ∧ upd H3 D (.lst (acc ++ [V.bl (geD lo e)])) D = some (.lst ((ds.take (i + 1)).map fun e => V.bl (geD lo e))) := fun H3 s3 =>
            ⟨_, s3 _ _ e2, small1000 (by rw [List.length_map, List.length_take]; have := hlen ds eq; omega), sm_put (s2.trans s3) (s1.free hD), by rw [upd_same, take_snoc (fun e => V.bl (geD lo e)) he]⟩
          refine ⟨rfl, _, rfl, x, e, rfl, dp_mono s2 hde, fun H3 s3 => ⟨_, rfl, ?_⟩⟩
          cases e with
          | int j =>
            cases hde
            exact ⟨_, rfl, _, rfl, j, lo, rfl, rfl, fin H3 s3⟩
          | bool b => exact fin H3 s3
          | none => exact fin H3 s3
          | str z => exact fin H3 s3
          | list z => exact fin H3 s3
          | tuple z => exact fin H3 s3
          | dict z => exact fin H3 s3
        · rintro H2 ⟨s2, e2⟩
          have z := q H2 s2
          rw [twoD, eq] at z
          refine ⟨D, ds.map (geD lo), rfl, .inl (.inl ?_), ?_⟩
          · rw [e2, List.take_of_length_le (by rw [dpAll_len ha]; exact Nat.le_refl _), List.map_map]
            rfl
          · rw [List.all_map]
            have l2 : ds.length = 2 := by
              rw [← dpAll_len ha]
              exact hb2
            simpa [l2] using z
      · refine .inr ⟨_, rfl, a, rfl, ⟨_, s1.tup hl⟩, fun D hD => lc_tup (K := K) (a := a) (xs := xs) (fun i H2 => Sm H H2 ∧ H2 D = some (.lst ((ds.take i).map fun e => V.bl (geD lo e)))) ?_ ?_ ?_ ?_⟩
        · exact ⟨s1.trans (Sm.new hD), upd_same⟩
        · exact fun i H2 _ h => (h.1).tup hl
        · rintro i x H2 hx ⟨s2, e2⟩
          obtain ⟨e, he, hde⟩ := dpAll_ix ha hx
          have fin : ∀ H3, Sm H2 H3 → ∃ acc, H3 D = some (.lst acc) ∧ acc.length < sizeLine ∧ Sm H (upd H3 D (.lst (acc ++ [V.bl (geD lo e)]))) ∧ upd H3 D (.lst (acc ++ [V.bl (geD lo e)])) D = some (.lst ((ds.take (i + 1)).map fun e => V.bl (geD lo e))) := fun H3 s3 =>
            ⟨_, s3 _ _ e2, small1000 (by rw [List.length_map, List.length_take]; have := hlen ds eq; omega), sm_put (s2.trans s3) (s1.free hD), by rw [upd_same, take_snoc (fun e => V.bl (geD lo e)) he]⟩
          refine ⟨rfl, _, rfl, x, e, rfl, dp_mono s2 hde, fun H3 s3 => ⟨_, rfl, ?_⟩⟩
          cases e with
          | int j =>
            cases hde
            exact ⟨_, rfl, _, rfl, j, lo, rfl, rfl, fin H3 s3⟩
          | bool b => exact fin H3 s3
          | none => exact fin H3 s3
          | str z => exact fin H3 s3
          | list z => exact fin H3 s3
          | tuple z => exact fin H3 s3
          | dict z => exact fin H3 s3
        · rintro H2 ⟨s2, e2⟩
          have z := q H2 s2
          rw [twoD, eq] at z
          refine ⟨D, ds.map (geD lo), rfl, .inl (.inl ?_), ?_⟩
          · rw [e2, List.take_of_length_le (by rw [dpAll_len ha]; exact Nat.le_refl _), List.map_map]
            rfl
          · rw [List.all_map]
            have l2 : ds.length = 2 := by
              rw [← dpAll_len ha]
              exact hb2
            simpa [l2] using z
/-- a row of n signs -/
def rowB (n : Int) (z : Str) : Bool := decide ((z.length : Int) = n) && z.cps.toList.all fun c => decide (c = 43 ∨ c = 45)
theorem cnt_signs : ∀ l : List Nat, cnt 43 l + cnt 45 l ≤ l.length ∧ (cnt 43 l + cnt 45 l = l.length ↔ ∀ c ∈ l, c = 43 ∨ c = 45)
  | [] => ⟨by rw [cnt_nil, cnt_nil]; simp, by rw [cnt_nil, cnt_nil]; simp⟩
  | n :: l => by
    obtain ⟨a, b⟩ := cnt_signs l
    rw [cnt_cons, cnt_cons, List.length_cons]
    have e : (∀ c ∈ n :: l, c = 43 ∨ c = 45) ↔ ((n = 43 ∨ n = 45) ∧ ∀ c ∈ l, c = 43 ∨ c = 45) := by simp
    rw [e, ← b]
    by_cases h1 : n = 43
    · rw [if_pos h1, if_neg (by omega)]
      refine ⟨by omega, ⟨fun h => ⟨.inl h1, by omega⟩, fun h => by have := h.2; omega⟩⟩
    · by_cases h2 : n = 45
      · rw [if_neg h1, if_pos h2]
        refine ⟨by omega, ⟨fun h => ⟨.inr h2, by omega⟩, fun h => by have := h.2; omega⟩⟩
      · rw [if_neg h1, if_neg h2]
        refine ⟨by omega, ⟨fun h => absurd h (by omega), fun h => absurd h.1 (by omega)⟩⟩
theorem count_rowB (z : Str) {n : Int} (h : (z.length : Int) = n) : decide (V.int (Txt.count z (Str.ofString "+") + Txt.count z (Str.ofString "-")) = V.int n) = rowB n z := by
  have e1 : Txt.count z (Str.ofString "+") = cnt 43 z.cps.toList := count_cnt z 43
  have e2 : Txt.count z (Str.ofString "-") = cnt 45 z.cps.toList := count_cnt z 45
  obtain ⟨_, b⟩ := cnt_signs z.cps.toList
  have l : (z.cps.toList.length : Int) = n := by
    rw [← h]
    rfl
  rw [e1, e2, Bool.eq_iff_iff, decide_eq_true_iff, V.int.injEq, ← l, b, rowB, Bool.and_eq_true, decide_eq_true_iff, List.all_eq_true]
  constructor
  · intro q
    exact ⟨by rw [l]; exact h, fun c hc => decide_eq_true (q c hc)⟩
  · intro q c hc
    exact of_decide_eq_true (q.2 c hc)
def spSignsOk : Sp := fun vs H Q _ => ∃ (z : Str) (n : Int), vs = [.str z, .int n] ∧ z.length ≤ sizeLine ∧ ∀ H', Sm H H' → Q (.bl (rowB n z)) H'
abbrev s_sgn : Stmt := topS 18
theorem sc_sgn : FnScope ["row", "width"] ["row", "width"] (defScope s_sgn) := ⟨rfl, rfl, rfl, by decide +kernel, rfl, by decide +kernel, by decide +kernel⟩
theorem ok_sgn {f : Addr} {fd : FuncData} {k : Nat} (F : Fun K "_are_signs" "_are_signs" s_sgn f fd) (T : Bt3 mg) : FnOk P w K mg base CX0 (k + 1) f fd ["row", "width"] spSignsOk := by
  refine F.ok sc_sgn (fun vs H Q E h => ?_) (fun cdv A outer s H vs Q E hr h => ?_)
  · obtain ⟨z, n, rfl, _⟩ := h
    rfl
  · obtain ⟨z, n, rfl, hz, q⟩ := h
    refine ⟨_, (pss_one (ps_ret (pe_and (pe_cmpR op_eq (pe_callB call_len_str (by rfl) T.n_len (by decide +kernel) (pa_cons (pv 0) pa_nil)) (pv 1) (nomark _))
      (pe_one (pe_cmpR op_eq (pe_op op_add (pe_m1 PySem.F.slot_str_count PySem.F.type_str_count mt_count (pv 0) pe_str) (pe_m1 PySem.F.slot_str_count PySem.F.type_str_count mt_count (pv 0) pe_str)) (pv 1) (nomark _)))))), ?_⟩
    refine ⟨_, rfl, z, rfl, hz, _, rfl, rfl, _, rfl, iteB (fun hb => ?_) (fun hb => ?_)⟩
    · have h : (z.length : Int) = n := V.int.inj (of_decide_eq_true hb)
      refine ⟨_, rfl, ⟨_, rfl⟩, z, _, rfl, rfl, _, rfl, ⟨_, rfl⟩, z, _, rfl, rfl, _, _, rfl, rfl, _, rfl, rfl, ?_⟩
      have y := q H (Sm.refl H)
      rw [← count_rowB z h] at y
      exact y
    · have y := q H (Sm.refl H)
      have ne : ¬ (z.length : Int) = n := fun h => by
        rw [h] at hb
        exact absurd hb (by simp)
      have e : rowB n z = false := by simp [rowB, ne]
      rw [e] at y
      exact y
end
end Z
set_option Elab.async false
set_option linter.all false
set_option maxRecDepth 100000
set_option maxHeartbeats 4000000
set_option autoImplicit false
namespace Z
open PySem PySem.Spec PyProof.Rows L2
open C8 (Cal pe_c Mak pe_mk Met pe_mt pe_mt0 pe_gc)
section
variable {P : Program} {w : World} {K : PySem.W.Frag} {mg : Str → Option Value} {base : Heap}
/-- one row of a table -/
def rowD (n : Int) : PyData → Bool
  | .str z => rowB n z
  | _ => false
def rowsD (h n : Int) (d : PyData) : Bool := match itemsD d with
  | some ds => decide ((ds.length : Int) = h) && ds.all (rowD n)
  | none => false
/-- no list or tuple is too long, no text in it -/
def Fine (d : PyData) : Prop := ∀ ds, itemsD d = some ds → ds.length ≤ 1000 ∧ ∀ z, PyData.str z ∈ ds → z.length ≤ sizeLine
def spRows (K : PySem.W.Frag) : Sp := fun vs H Q _ => ∃ (h n : Int) (v : V) (d : PyData), vs = [v, .int h, .int n] ∧ Dp K H v d ∧ Fine d ∧ ∀ H', Sm H H' → Q (.bl (rowsD h n d)) H'
abbrev s_rows : Stmt := topS 17
abbrev n_rows : List Str := ["rows", "height", "width", "row"]
theorem sc_rows : FnScope n_rows ["rows", "height", "width"] (defScope s_rows) := ⟨rfl, rfl, rfl, by decide +kernel, rfl, by decide +kernel, by decide +kernel⟩
theorem ok_rows {f : Addr} {fd : FuncData} (F : Fun K "_are_rows" "_are_rows" s_rows f fd) (T : Bt3 mg) (Cs : Cal P w K mg base 1 "is_sequence" (spAsk K fun d => (itemsD d).isSome) [])
    (Ci : Cal P w K mg base 1 "_are_signs" spSignsOk []) : FnOk P w K mg base CX0 3 f fd ["rows", "height", "width"] (spRows K) := by
  refine F.ok sc_rows (fun vs H Q E h => ?_) (fun cdv A outer s H vs Q E hr h => ?_)
  · obtain ⟨ht, n, v, d, rfl, _⟩ := h
    rfl
  · obtain ⟨ht, n, v, d, rfl, hd, hlen, q⟩ := h
    refine ⟨_, (pss_cons (ps_if ((pw_or (pt_not (pt_val (pe_c Cs hr (by decide) (by rfl) (pa_cons (pv 0) pa_nil)))) (pw_or1 (pt_cmpR op_ne (pe_callB call_len_seq (by rfl) T.n_len (by decide +kernel) (pa_cons (pv 0) pa_nil)) (pv 1) (nomark _))))).pt
        (pss_one (ps_ret pe_bl))
        pss_nil)
      (pss_one (ps_ret (pe_callB (cr_all rfl) (by rfl) T.n_all (by decide +kernel) (pa_cons (pe_lc (own := [("row", 3)]) (tt := tYes) (by rfl) sc_rows.nd (pi_or (pi_list (pv 0)) (pi_tup (pv 0))) (blkOk_by (N := n_rows) (sc := defScope s_rows) (own := [("row", 3)]) (by decide +kernel)) (fun _ _ _ _ _ => pg_name (i := 3) sc_rows.nd rfl (Or.inl rfl)) (fun _ _ _ _ _ => pts_nil) (fun _ _ _ _ _ => (pe_and (pe_callB (call_isiK K) (by rfl) T.n_isi (by decide +kernel) (pa_cons (pv 3) (pa_cons (pe_bltn (v := .ty "str") (by rfl) T.n_str (by decide +kernel) rfl) pa_nil))) (pe_one (pe_c Ci hr (by decide) (by rfl) (pa_cons (pv 3) (pa_cons (pv 2) pa_nil))))))) pa_nil))))), ?_⟩
    refine ⟨_, rfl, v, d, rfl, hd, fun H1 s1 => ?_⟩
    cases eq : itemsD d with
    | none =>
      have z := q H1 s1
      rw [rowsD, eq] at z
      exact ⟨_, rfl, ite1 (by show (!(itemsD d).isSome) = true; rw [eq]; rfl) z⟩
    | some ds =>
      obtain ⟨a, xs, rfl, ha, hs⟩ := dp_items hd eq
      refine ⟨_, rfl, ite0 (by show (!(itemsD d).isSome) = false; rw [eq]; rfl) ?_⟩
      have hs1 : SqL K H1 a xs ∨ SqT K H1 a xs := by
        rcases hs with ⟨_, h⟩ | ⟨_, h⟩
        · exact .inl (s1.seq h)
        · exact .inr (s1.tup h)
      refine ⟨_, rfl, a, xs, rfl, hs1, _, rfl, rfl, _, rfl, iteB (fun hb => ?_) (fun hb => ?_)⟩
      · have z := q H1 s1
        have ne : ¬ (ds.length : Int) = ht := fun h => by
          rw [← dpAll_len ha] at h
          rw [h] at hb
          exact absurd hb (by simp)
        rw [rowsD, eq] at z
        have z2 : Q (.bl false) H1 := by simpa [ne] using z
        exact z2
      have hb2 : (xs.length : Int) = ht := by
        have := of_decide_eq_true (by simpa using hb : decide (V.int (xs.length : Int) = V.int ht) = true)
        rw [V.int.injEq] at this
        exact this
      rcases hs with ⟨_, hl⟩ | ⟨_, hl⟩
      · refine .inl ⟨_, rfl, a, rfl, ⟨_, s1.seq hl⟩, fun D hD => lc_list (K := K) (a := a) (xs := xs) (fun i H2 => Sm H H2 ∧ H2 D = some (.lst ((ds.take i).map fun e => V.bl (rowD n e)))) ?_ ?_ ?_ ?_⟩
        · exact ⟨s1.trans (Sm.new hD), upd_same⟩
        · exact fun i H2 _ h => (h.1).seq hl
        · rintro i x H2 hx ⟨s2, e2⟩
          obtain ⟨e, he, hde⟩ := dpAll_ix ha hx
          have fin : ∀ H3, Sm H2 H3 → ∃ acc, H3 D = some (.lst acc) ∧ acc.length < sizeLine ∧ Sm H (upd H3 D (.lst (acc ++ [V.bl (rowD n e)]))) ∧ upd H3 D (.lst (acc ++ [V.bl (rowD n e)])) D = some (.lst ((ds.take (i + 1)).map fun e => V.bl (rowD n e))) := fun H3 s3 =>
            ⟨_, s3 _ _ e2, small1000 (by rw [List.length_map, List.length_take]; have := (hlen ds eq).1; omega), sm_put (s2.trans s3) (s1.free hD), by rw [upd_same, take_snoc (fun e => V.bl (rowD n e)) he]⟩
          have hdx := dp_mono s2 hde
          refine ⟨rfl, _, rfl, x, .ty "str", tyD e, .type "str", isStrD e, rfl, .ty "str", dp_ty hdx, kit_str hdx, _, rfl, ?_⟩
          cases e with
          | str z =>
            cases hdx
            exact ⟨_, rfl, _, rfl, z, n, rfl, (hlen ds eq).2 z (List.mem_of_getElem? he), fun H3 s3 => fin H3 s3⟩
          | int b => exact fin H2 (Sm.refl _)
          | bool b => exact fin H2 (Sm.refl _)
          | none => exact fin H2 (Sm.refl _)
          | list z => exact fin H2 (Sm.refl _)
          | tuple z => exact fin H2 (Sm.refl _)
          | dict z => exact fin H2 (Sm.refl _)
        · rintro H2 ⟨s2, e2⟩
          have z := q H2 s2
          rw [rowsD, eq] at z
          refine ⟨D, ds.map (rowD n), rfl, .inl (.inl ?_), ?_⟩
          · rw [e2, List.take_of_length_le (by rw [dpAll_len ha]; exact Nat.le_refl _), List.map_map]
            rfl
          · rw [List.all_map]
            have l2 : (ds.length : Int) = ht := by
              rw [← dpAll_len ha]
              exact hb2
            simpa [l2] using z
      · refine .inr ⟨_, rfl, a, rfl, ⟨_, s1.tup hl⟩, fun D hD => lc_tup (K := K) (a := a) (xs := xs) (fun i H2 => Sm H H2 ∧ H2 D = some (.lst ((ds.take i).map fun e => V.bl (rowD n e)))) ?_ ?_ ?_ ?_⟩
        · exact ⟨s1.trans (Sm.new hD), upd_same⟩
        · exact fun i H2 _ h => (h.1).tup hl
        · rintro i x H2 hx ⟨s2, e2⟩
          obtain ⟨e, he, hde⟩ := dpAll_ix ha hx
          have fin : ∀ H3, Sm H2 H3 → ∃ acc, H3 D = some (.lst acc) ∧ acc.length < sizeLine ∧ Sm H (upd H3 D (.lst (acc ++ [V.bl (rowD n e)]))) ∧ upd H3 D (.lst (acc ++ [V.bl (rowD n e)])) D = some (.lst ((ds.take (i + 1)).map fun e => V.bl (rowD n e))) := fun H3 s3 =>
            ⟨_, s3 _ _ e2, small1000 (by rw [List.length_map, List.length_take]; have := (hlen ds eq).1; omega), sm_put (s2.trans s3) (s1.free hD), by rw [upd_same, take_snoc (fun e => V.bl (rowD n e)) he]⟩
          have hdx := dp_mono s2 hde
          refine ⟨rfl, _, rfl, x, .ty "str", tyD e, .type "str", isStrD e, rfl, .ty "str", dp_ty hdx, kit_str hdx, _, rfl, ?_⟩
          cases e with
          | str z =>
            cases hdx
            exact ⟨_, rfl, _, rfl, z, n, rfl, (hlen ds eq).2 z (List.mem_of_getElem? he), fun H3 s3 => fin H3 s3⟩
          | int b => exact fin H2 (Sm.refl _)
          | bool b => exact fin H2 (Sm.refl _)
          | none => exact fin H2 (Sm.refl _)
          | list z => exact fin H2 (Sm.refl _)
          | tuple z => exact fin H2 (Sm.refl _)
          | dict z => exact fin H2 (Sm.refl _)
        · rintro H2 ⟨s2, e2⟩
          have z := q H2 s2
          rw [rowsD, eq] at z
          refine ⟨D, ds.map (rowD n), rfl, .inl (.inl ?_), ?_⟩
          · rw [e2, List.take_of_length_le (by rw [dpAll_len ha]; exact Nat.le_refl _), List.map_map]
            rfl
          · rw [List.all_map]
            have l2 : (ds.length : Int) = ht := by
              rw [← dpAll_len ha]
              exact hb2
            simpa [l2] using z
end
end Z
set_option Elab.async false
set_option linter.all false
set_option maxRecDepth 100000
set_option maxHeartbeats 4000000
set_option autoImplicit false
namespace Z
open PySem PySem.Spec PyProof.Rows L2
open C8 (Cal pe_c Mak pe_mk Met pe_mt pe_mt0 pe_gc)
/-! a list or a tuple -/
inductive Kd where
  | l
  | t
def sqK (k : Kd) (K : PySem.W.Frag) (H : Hp) (a : Addr) (xs : List V) : Prop := match k with
  | .l => SqL K H a xs
  | .t => SqT K H a xs
def datK (k : Kd) (ds : List PyData) : PyData := match k with
  | .l => .list ds
  | .t => .tuple ds
theorem sqK_sm {k : Kd} {K : PySem.W.Frag} {H H' : Hp} {a : Addr} {xs : List V} (e : Sm H H') (h : sqK k K H a xs) : sqK k K H' a xs := by
  cases k with
  | l => exact e.seq h
  | t => exact e.tup h
theorem sqK_dp {k : Kd} {K : PySem.W.Frag} {H : Hp} {a : Addr} {xs : List V} {ds : List PyData} (h : sqK k K H a xs) (d : DpAll K H xs ds) : Dp K H (.ref a) (datK k ds) := by
  cases k with
  | l => exact .lst h d
  | t => exact .tup h d
theorem eqvAll_strs : ∀ xs ys : List Str, PyData.eqvAll (xs.map PyData.str) (ys.map PyData.str) = decide (xs = ys)
  | [], [] => by simp [PyData.eqvAll]
  | [], y :: ys => by simp [PyData.eqvAll]
  | x :: xs, [] => by simp [PyData.eqvAll]
  | x :: xs, y :: ys => by
    rw [List.map_cons, List.map_cons, PyData.eqvAll, eqvAll_strs xs ys, PyData.eqv]
    by_cases h : x = y <;> by_cases h2 : xs = ys <;> simp [h, h2]
theorem eqv_strs (k : Kd) (xs ys : List Str) : PyData.eqv (datK k (xs.map PyData.str)) (datK k (ys.map PyData.str)) = decide (xs = ys) := by
  cases k with
  | l => exact (by rw [datK, datK, PyData.eqv]; exact eqvAll_strs xs ys)
  | t => exact (by rw [datK, datK, PyData.eqv]; exact eqvAll_strs xs ys)
def Good (xs : List Str) : Prop := ∀ x ∈ xs, PyData.strOk x = true
theorem canLay_strs : ∀ l : List Str, Good l → PyData.canLayAll0 (l.map PyData.str) = true
  | [], _ => by simp [PyData.canLayAll0]
  | x :: l, h => by
    have h1 : PyData.strOk x = true := h x (by simp)
    have h2 := canLay_strs l fun y hy => h y (by simp [hy])
    simp [PyData.canLayAll0, PyData.canLay0, h1, h2]
theorem depth_strs : ∀ l : List Str, PyData.depthAll (l.map PyData.str) ≤ 1
  | [] => by simp [PyData.depthAll]
  | x :: l => by
    have h2 := depth_strs l
    rw [List.map_cons, PyData.depthAll, PyData.depth]
    omega
theorem shaped_strs (k : Kd) {l : List Str} (h : Good l) : SeqAt.shaped (datK k (l.map PyData.str)) = true := by
  have h1 := canLay_strs l h
  have h2 := depth_strs l
  unfold SeqAt.shaped
  rw [Bool.and_eq_true]
  cases k with
  | l => exact ⟨by simp [datK, PyData.canLay0, h1], decide_eq_true (by simp only [datK, PyData.depth]; omega)⟩
  | t => exact ⟨by simp [datK, PyData.canLay0, h1], decide_eq_true (by simp only [datK, PyData.depth]; omega)⟩
theorem Good.sub {xs ys : List Str} (h : Good xs) (s : ∀ y ∈ ys, y ∈ xs) : Good ys := fun y hy => h y (s y hy)
theorem sl_or {X : Cx} {r1 r2 : V → Option Int → Option Int → Hp → VK → Prop} (h1 : SlR X r1) (h2 : SlR X r2) : SlR X (fun x lo hi H Q => r1 x lo hi H Q ∨ r2 x lo hi H Q) := by
  intro pins s σ H x v vl vu lo hi sl Q I rx hs pl pu h
  rcases h with h | h
  · exact h1 pins s σ H x v vl vu lo hi sl Q I rx hs pl pu h
  · exact h2 pins s σ H x v vl vu lo hi sl Q I rx hs pl pu h
theorem sl_pure {k : Kd} {K : PySem.W.Frag} {H : Hp} {a : Addr} {xs : List V} {lo hi : Option Int} {Q : VK} (h : sqK k K H a xs) (q : ∀ p H', Sm H H' → sqK k K H' p (cutV xs lo hi) → Q (.ref p) H') :
    rSlL K (.ref a) lo hi H Q ∨ rSlA K (.ref a) lo hi H Q := by
  cases k with
  | l => exact .inl ⟨a, xs, rfl, h, fun p hp => q p _ (Sm.new hp) (.inl (.inl upd_same))⟩
  | t =>
    refine .inr ⟨a, xs, rfl, h, fun e => ?_, fun _ p hp => q p _ (Sm.new hp) (.inl (.inl upd_same))⟩
    refine q a H (Sm.refl H) ?_
    have z : cutV xs lo hi = xs := by
      unfold cutV
      rw [e.1, e.2, List.drop_zero, Nat.sub_zero, List.take_length]
    rw [z]
    exact h
theorem cut_strs (xs : List Str) (i j : Nat) (hi : i ≤ xs.length) (hj : j ≤ xs.length) : cutV (xs.map V.str) (some (i : Int)) (some (j : Int)) = ((xs.drop i).take (j - i)).map V.str := by
  unfold cutV
  rw [HT.sIx_nat, HT.sIx_nat, List.length_map, Nat.min_eq_left hi, Nat.min_eq_left hj, List.map_take, List.map_drop]
theorem cut_end (xs : List Str) (i : Nat) (hi : i ≤ xs.length) : cutV (xs.map V.str) (some (i : Int)) none = (xs.drop i).map V.str := by
  unfold cutV
  rw [HT.sIx_nat, HT.sIx_none, List.length_map, Nat.min_eq_left hi, List.map_drop, List.take_of_length_le (by rw [List.length_drop, List.length_map]; exact Nat.le_refl _)]
theorem ix_pure {k : Kd} {K : PySem.W.Frag} {H : Hp} {a : Addr} {xs : List Str} {i : Int} {j : Nat} {x : Str} {Q : VK} (h : sqK k K H a (xs.map V.str)) (e : i = (j : Int)) (hx : xs[j]? = some x) (q : Q (.str x) H) :
    rIx K (.ref a) (.int i) H Q := by
  have g : (xs.map V.str)[j]? = some (V.str x) := by rw [List.getElem?_map, hx]; rfl
  cases k with
  | l => exact .inl ⟨a, _, i, _, rfl, rfl, h, at_of (j := j) e g, q⟩
  | t => exact .inr (.inl ⟨a, _, i, _, rfl, rfl, h, at_of (j := j) e g, q⟩)
/-- a step that goes round behind the start -/
def StepOk (xs : List Str) (start q : Nat) : Prop := (xs.length - start) % q = 0 ∧ xs.drop (start + q) = (xs.drop start).take (xs.length - start - q)
structure LRes (xs : List Str) (start s' p' : Nat) : Prop where
  p1 : 1 ≤ p'
  p2 : p' ≤ xs.length - start
  ok : StepOk xs start p'
  least : ∀ q, 1 ≤ q → q < p' → ¬ StepOk xs start q
  s1 : s' ≤ start
  same : ∀ t, s' ≤ t → t < start → xs[t]? = xs[t + p']?
  low : s' = 0 ∨ xs[s' - 1]? ≠ xs[s' - 1 + p']?
section
variable {P : Program} {w : World} {K : PySem.W.Frag} {mg : Str → Option Value} {base : Heap}
def spLR (K : PySem.W.Frag) : Sp := fun vs H Q _ => ∃ (k : Kd) (a : Addr) (xs : List Str) (start : Nat), vs = [.ref a, .int start] ∧ sqK k K H a (xs.map V.str) ∧ start < xs.length ∧ xs.length ≤ 900 ∧ Good xs ∧
  ∀ t s' p' H', LRes xs start s' p' → Sm H H' → H' t = some (.tup [.int s', .int p']) → Q (.ref t) H'
abbrev s_lr : Stmt := topS 19
abbrev n_lr : List Str := ["parts", "start", "period", "step"]
theorem sc_lr : FnScope n_lr ["parts", "start"] (defScope s_lr) := ⟨rfl, rfl, rfl, by decide +kernel, rfl, by decide +kernel, by decide +kernel⟩
theorem ok_lr {f : Addr} {fd : FuncData} {k : Nat} (F : Fun K "_least_round" "_least_round" s_lr f fd) (T : Bt3 mg) : FnOk P w K mg base CX0 (k + 1) f fd ["parts", "start"] (spLR K) := by
  refine F.ok sc_lr (fun vs H Q E h => ?_) (fun cdv A outer s H vs Q E hr h => ?_)
  · obtain ⟨kd, a, xs, start, rfl, _⟩ := h
    rfl
  · obtain ⟨kd, a, xs, start, rfl, hS, h1, h2, hg, q⟩ := h
    have hu64 : A.units + 3 + 64 < cLine := by
      have := hr.un
      show A.units + 3 + 64 < _
      have e : (A.deeper (envOfC "_least_round" (defScope s_lr) s.heap.objs.size f cdv)).units = A.units + 3 := rfl
      omega
    refine ⟨_, (pss_cons (ps_set (i := 2) sc_lr.nd rfl (Or.inl rfl) (pe_op op_sub (pe_callB call_len_seq (by rfl) T.n_len (by decide +kernel) (pa_cons (pv 0) pa_nil)) (pv 1)))
      (pss_cons (ps_set (i := 3) sc_lr.nd rfl (Or.inl rfl) pe_int)
      (pss_cons (ps_while PassesOwn.never ((pw_or (pt_cmpR op_ne (pe_op op_mod (pv 2) (pv 3)) pe_int (nomark _)) (pw_or1 (pt_cmpR (op_neD hu64) (pe_slice (sl_or sl_list sl_tupA) (pv 0) (po_some (pe_op op_add (pv 1) (pv 3))) po_none) (pe_slice (sl_or sl_list sl_tupA) (pv 0) (po_some (pv 1)) (po_some (pe_op op_sub (pe_op op_add (pv 1) (pv 2)) (pv 3)))) (nomark _))))).pt
        (pss_one (ps_set (i := 3) sc_lr.nd rfl (Or.inl rfl) (pe_op op_add (pv 3) pe_int))))
      (pss_cons (ps_while PassesOwn.never ((pw_and (pt_cmpR op_gt (pv 1) pe_int (nomark _)) (pw_and1 (pt_cmpR op_eq (pe_ix ix_seq (pv 0) (pe_op op_sub (pv 1) pe_int) (fun _ _ => rfl)) (pe_ix ix_seq (pv 0) (pe_op op_add (pe_op op_sub (pv 1) pe_int) (pv 3)) (fun _ _ => rfl)) (nomark _))))).pt
        (pss_one (ps_set (i := 1) sc_lr.nd rfl (Or.inl rfl) (pe_op op_sub (pv 1) pe_int))))
      (pss_one (ps_ret (pe_tup (pa_cons (pv 1) (pa_cons (pv 3) pa_nil))))))))), ?_⟩
    have lenS : ∀ {H' : Hp}, Sm H H' → SqL K H' a (xs.map V.str) ∨ SqT K H' a (xs.map V.str) := fun {H'} e => by
      cases kd with
      | l => exact .inl (e.seq hS)
      | t => exact .inr (e.tup hS)
    refine ⟨_, rfl, a, _, rfl, lenS (Sm.refl H), _, rfl, _, _, rfl, rfl, ?_⟩
    rw [List.length_map]
    have hper : ((xs.length : Int) - (start : Int)) = ((xs.length - start : Nat) : Int) := by omega
    refine ⟨fun m σ H1 => ∃ st : Nat, m = xs.length - start - st ∧ 1 ≤ st ∧ st ≤ xs.length - start ∧ σ = [some (.ref a), some (.int start), some (.int ((xs.length : Int) - (start : Int))), some (.int st)] ∧ Sm H H1 ∧
      ∀ q, 1 ≤ q → q < st → ¬ StepOk xs start q, ⟨_, 1, rfl, Nat.le_refl _, by omega, rfl, Sm.refl H, fun q a b => by omega⟩, ?_⟩
    rintro m σ H1 ⟨st, rfl, st1, st2, rfl, sm, no⟩
    refine ⟨_, rfl, _, rfl, _, (st : Int), rfl, rfl, (show (0 : Int) < st by omega), rfl, _, rfl, iteB (fun hb => ?_) (fun hb => ?_)⟩
    · -- the period is no multiple
      have hb' : (!decide (V.int (((xs.length : Int) - (start : Int)) % (st : Int)) = V.int 0)) = true := hb
      have ne : ¬ StepOk xs start st := fun ok => by
        have e : ((xs.length : Int) - (start : Int)) % (st : Int) = 0 := by
          rw [hper, ← Int.natCast_emod, ok.1]
          rfl
        rw [e] at hb'
        exact absurd hb' (by decide)
      have lt : st < xs.length - start := by
        rcases Nat.lt_or_eq_of_le st2 with h | h
        · exact h
        · exact absurd (show StepOk xs start st from ⟨by rw [h, Nat.mod_self], by rw [h, Nat.sub_self, List.take_zero, List.drop_eq_nil_of_le (by omega)]⟩) ne
      refine ⟨_, fun σ' H' hN => hN, ?_⟩
      refine ⟨_, rfl, _, _, rfl, rfl, xs.length - start - (st + 1), by omega, st + 1, rfl, by omega, by omega, rfl, sm, fun r r1 r2 => ?_⟩
      rcases Nat.lt_or_eq_of_le (Nat.le_of_lt_succ r2) with h | h
      · exact no r r1 h
      · rw [h]
        exact ne
    · have hb' : (!decide (V.int (((xs.length : Int) - (start : Int)) % (st : Int)) = V.int 0)) = false := hb
      have hm : (xs.length - start) % st = 0 := by
        have e : ((xs.length : Int) - (start : Int)) % (st : Int) = 0 := by
          have := of_decide_eq_true (by simpa using hb' : decide (V.int (((xs.length : Int) - (start : Int)) % (st : Int)) = V.int 0) = true)
          exact V.int.inj this
        rw [hper, ← Int.natCast_emod] at e
        omega
      refine ⟨_, rfl, _, rfl, _, rfl, _, _, rfl, rfl, _, rfl, sl_pure (sqK_sm sm hS) fun p1 H2 s2 k2 => ?_⟩
      refine ⟨_, rfl, _, rfl, _, rfl, _, rfl, _, rfl, _, _, rfl, rfl, _, rfl, _, _, rfl, rfl, _, rfl, sl_pure (sqK_sm (sm.trans s2) hS) fun p2 H3 s3 k3 => ?_⟩
      have c1 : sqK kd K H2 p1 ((xs.drop (start + st)).map V.str) := by
        have e := cut_end xs (start + st) (by omega)
        rw [← e]
        exact k2
      have c2 : sqK kd K H3 p2 (((xs.drop start).take (xs.length - start - st)).map V.str) := by
        have e := cut_strs xs start (xs.length - st) (by omega) (by omega)
        have e2 : xs.length - st - start = xs.length - start - st := by omega
        rw [e2] at e
        rw [← e]
        have e3 : ((xs.length - st : Nat) : Int) = (start : Int) + ((xs.length : Int) - (start : Int)) - (st : Int) := by omega
        rw [e3]
        exact k3
      have g1 : Good (xs.drop (start + st)) := hg.sub fun y hy => List.mem_of_mem_drop hy
      have g2 : Good ((xs.drop start).take (xs.length - start - st)) := hg.sub fun y hy => List.mem_of_mem_drop (List.mem_of_mem_take hy)
      refine ⟨_, _, sqK_dp (sqK_sm s3 c1) (dpAll_strs _), sqK_dp c2 (dpAll_strs _), shaped_strs kd g1, shaped_strs kd g2, _, rfl, ?_⟩
      rw [eqv_strs]
      have sm3 := sm.trans (s2.trans s3)
      refine iteB (fun hb3 => ?_) (fun hb3 => ?_)
      · have ne : ¬ StepOk xs start st := fun ok => by
          rw [decide_eq_true ok.2] at hb3
          exact absurd hb3 (by decide)
        have lt : st < xs.length - start := by
          rcases Nat.lt_or_eq_of_le st2 with h | h
          · exact h
          · exact absurd (show StepOk xs start st from ⟨by rw [h, Nat.mod_self], by rw [h, Nat.sub_self, List.take_zero, List.drop_eq_nil_of_le (by omega)]⟩) ne
        refine ⟨_, fun σ' H' hN => hN, ?_⟩
        refine ⟨_, rfl, _, _, rfl, rfl, xs.length - start - (st + 1), by omega, st + 1, rfl, by omega, by omega, rfl, sm3, fun r r1 r2 => ?_⟩
        rcases Nat.lt_or_eq_of_le (Nat.le_of_lt_succ r2) with h | h
        · exact no r r1 h
        · rw [h]
          exact ne
      · have ok : StepOk xs start st := ⟨hm, of_decide_eq_true (by simpa using hb3)⟩
        refine ⟨fun m σ H1 => m + 0 ≤ start ∧ σ = [some (.ref a), some (.int m), some (.int ((xs.length : Int) - (start : Int))), some (.int st)] ∧ Sm H H1 ∧ ∀ t, m ≤ t → t < start → xs[t]? = xs[t + st]?,
          ⟨start, Nat.le_refl _, rfl, sm3, fun t a b => by omega⟩, ?_⟩
        rintro m σ H4 ⟨hm1, rfl, sm4, same⟩
        refine ⟨_, rfl, _, _, rfl, rfl, _, rfl, iteB (fun h0 => ?_) (fun h0 => ?_)⟩
        · have h0' : 0 < m := by
            have := of_decide_eq_true h0
            omega
          have l1 : m - 1 < xs.length := by omega
          have l2 : m - 1 + st < xs.length := by omega
          refine ⟨_, rfl, _, rfl, _, _, rfl, rfl, ix_pure (j := m - 1) (sqK_sm sm4 hS) (by omega) (List.getElem?_eq_getElem l1) ?_⟩
          refine ⟨_, rfl, _, rfl, _, _, rfl, rfl, _, rfl, _, _, rfl, rfl, ix_pure (j := m - 1 + st) (sqK_sm sm4 hS) (by omega) (List.getElem?_eq_getElem l2) ?_⟩
          refine ⟨rfl, _, rfl, iteB (fun h5 => ?_) (fun h5 => ?_)⟩
          · refine ⟨_, fun σ' H' hN => hN, ?_⟩
            refine ⟨_, rfl, _, _, rfl, rfl, m - 1, by omega, by omega, ?_, sm4, fun t t1 t2 => ?_⟩
            · have z : ((m - 1 : Nat) : Int) = (m : Int) - 1 := by omega
              rw [z]
              rfl
            · rcases Nat.lt_or_eq_of_le t1 with h | h
              · exact same t (by omega) t2
              · rw [← h, List.getElem?_eq_getElem l1, List.getElem?_eq_getElem l2]
                exact congrArg some (V.str.inj (of_decide_eq_true h5))
          · refine ⟨_, rfl, _, rfl, (show 2 ≤ sizeLine by decide), fun t ht => q t m st _ ⟨st1, st2, ok, no, by omega, same, .inr ?_⟩ (sm4.trans (Sm.new ht)) upd_same⟩
            rw [List.getElem?_eq_getElem l1, List.getElem?_eq_getElem l2]
            intro h
            rw [Option.some.inj h] at h5
            exact absurd h5 (by simp)
        · have h0' : m = 0 := by
            have := of_decide_eq_false h0
            omega
          exact ⟨_, rfl, _, rfl, (show 2 ≤ sizeLine by decide), fun t ht => q t m st _ ⟨st1, st2, ok, no, by omega, same, .inl h0'⟩ (sm4.trans (Sm.new ht)) upd_same⟩
end
end Z
set_option Elab.async false
set_option linter.all false
set_option maxRecDepth 100000
set_option maxHeartbeats 4000000
namespace PySem
open Sem (wp)
namespace ZN
theorem typeCall_zip (args : List Value) : checkTypeCall "zip" ⟨args, []⟩ = pure () := by kernel_rfl
theorem newCall_zip (a : Value) (r : List Value) : checkBuiltinCall "zip.__new__" ⟨.type "zip" :: a :: r, []⟩ = pure () := by kernel_rfl
theorem args_object_init (obj : Value) (args : List Value) : argsOk "object.__init__" ⟨obj :: args, []⟩ := by
  unfold argsOk; rw [signature?_of (id := "object.__init__") (n := ['_', '_', 't', 'i', 'n', 'i', '_', '_']) (o := ['t', 'c', 'e', 'j', 'b', 'o']) (by kernel_rfl) F.owner_object]; kernel_rfl
theorem ne1 (b n j : Nat) (h : j < n) : b + n + 2 ≠ b + j := by omega
theorem ne2 (b n j : Nat) (h : j < n) : b + n + 1 ≠ b + j := by omega
theorem ne3 (b n j : Nat) (h : j < n) : b + n ≠ b + j := by omega
theorem ne4 (b n : Nat) : b + n + 1 ≠ b + n + 2 := by omega
theorem ne5 (b n : Nat) : b + n ≠ b + n + 2 := by omega
theorem ne6 (b n : Nat) : b + n ≠ b + n + 1 := by omega
theorem ne7 (b j k : Nat) (h : j ≠ k) : b + j ≠ b + k := by omega
theorem ne8 (b n k c : Nat) (h : k < n) (hc : c < b ∨ b + n + 2 < c) : c ≠ b + k := by omega
theorem ne9 (b n c : Nat) (hc : c < b ∨ b + n + 2 < c) : c ≠ b + n + 1 := by omega
theorem ne10 (b n c : Nat) (hc : c < b ∨ b + n + 2 < c) : c ≠ b + n + 2 := by omega
def iters (b n : Nat) : List Value := (List.range n).map fun j => Value.ref (b + j)
structure ZSt (h : Heap) (b : Addr) (xs : List (Str × Tok)) (i : Nat) (f0 f1 : Value) : Prop where
  hz : h.get? (b + xs.length + 2) = some { cls := .type "zip", dict := none, data := .fields #[f0, f1, .bool false, .ref (b + xs.length), .ref (b + xs.length + 1)], slots := #[] }
  hTI : h.get? (b + xs.length) = some { cls := .type "tuple", data := .seq (iters b xs.length).toArray }
  hTO : ∃ ys : Array Value, ys.size = xs.length ∧ h.get? (b + xs.length + 1) = some { cls := .type "tuple", data := .seq ys }
  its : ∀ (j : Nat) (x : Str) (t : Tok), xs[j]? = some (x, t) → h.IsStrIter (b + j) (strIterType x) x t i
section
variable {prog : Program} {w : World} {A : Around} {E : Value → Shared → Prop} {s : Shared}
theorem updTup {T : Addr} {zs : Array Value} {x : Value} {k : Nat} {Q : Unit → Shared → Prop} (hT : s.heap.get? T = some { cls := .type "tuple", data := .seq zs }) (hsz : zs.size ≤ 1000)
    (h : ∀ h', h'.get? T = some { cls := .type "tuple", data := .seq (zs.setIfInBounds k x) } → Heap.SameBut T s.heap h' → Q () { s with heap := h' }) :
    wpAny (model prog w) A (updateSeq T (·.setIfInBounds k x)) Q E s := by
  have sz1 : zs.size ≤ sizeLine := Nat.le_trans hsz (by decide)
  refine wpAny_updateSeq hT rfl (h _ ?_ (Heap.SameBut.update ..)) (hz := sz1) (_hz' := by simp; omega)
  rw [Heap.get?_update_self _ hT rfl]
  simp [Obj.mapSeq]
def F01 (f0 f1 : Value) : Prop := (f0 = .none ∨ ∃ T : Addr, f0 = rawInt T) ∧ ∃ f, f1 = .bool f
def Vals1 (xs : List (Str × Tok)) (i : Nat) (vs : List Value) : Prop := vs.length = xs.length ∧ ∀ (j : Nat) (x : Str) (t : Tok), xs[j]? = some (x, t) → ∃ c u, x.cps[i]? = some c ∧ vs[j]? = some (.str ⟨#[c]⟩ u)
theorem next_free {b : Addr} {xs : List (Str × Tok)} {i : Nat} {f0 f1 : Value} {Q : Value → Shared → Prop} (hh : A.handled = none) (hne : xs ≠ []) (hn : xs.length ≤ 1000) (hi : ∀ p ∈ xs, i < p.1.cps.size)
    (S : ZSt s.heap b xs i f0 f1) (hfree : ∀ (A' : Around) (Q' : Bool → Shared → Prop), Q' true s → wpAny (model prog w) A' (Builtin.SmallTypes.ownedTupleIsFree (.ref (b + xs.length + 2))) Q' E s)
    (hQ : ∀ h' tk vs f0' f1', F01 f0' f1' → Vals1 xs i vs → ZSt h' b xs (i + 1) f0' f1' → h'.get? s.heap.objs.size = some { cls := .type "tuple", data := .seq vs.toArray } →
      (∀ c o, (c < b ∨ b + xs.length + 2 < c) → s.heap.get? c = some o → h'.get? c = some o) → h'.objs.size = s.heap.objs.size + 1 → Q (.ref s.heap.objs.size) { s with heap := h', toks := tk }) :
    wpAny (model prog w) A (Builtin.«zip.__next__» ⟨[.ref (b + xs.length + 2)], []⟩) (fun fin s' => ∃ v, fin = .done (.ret v) ∧ Q v s') E s := by
  obtain ⟨hz, hTI, ⟨ys, hys, hTO⟩, its⟩ := S
  show wpAny _ _ (field (.ref _) 2 >>= _) _ _ _
  refine wpAny_bind (wpAny_field hz rfl (x := .bool false) rfl ?_)
  show wpAny _ _ (field (.ref _) 3 >>= _) _ _ _
  refine wpAny_bind (wpAny_field hz rfl (x := .ref _) rfl ?_)
  refine wpAny_bind (wpAny_seqItems hTI rfl ?_)
  have hem : (iters b xs.length).toArray.isEmpty = false := by
    cases xs with
    | nil => exact absurd rfl hne
    | cons x r => simp [iters]
  simp only [hem]
  show wpAny _ _ (Builtin.SmallTypes.ownedTupleIsFree (.ref _) >>= _) _ _ _
  refine wpAny_bind (hfree _ _ ?_)
  simp only [if_true]
  refine wpAny_bind (wpAny_rule ?_)
  refine wpAny_bind (wpAny_field hz rfl (x := .ref _) rfl ?_)
  refine wpAny_bind (wpAny_setField_rec hz (by simp) fun g0 hz0 hs0 => ?_)
  refine wpAny_bind ?_
  have lz : ∀ j : Nat, j < xs.length → b + xs.length + 2 ≠ b + j := fun j hj => ne1 b xs.length j hj
  have lT : ∀ j : Nat, j < xs.length → b + xs.length + 1 ≠ b + j := fun j hj => ne2 b xs.length j hj
  have lI : ∀ j : Nat, j < xs.length → b + xs.length ≠ b + j := fun j hj => ne3 b xs.length j hj
  have Tz : b + xs.length + 1 ≠ b + xs.length + 2 := ne4 b xs.length
  have Iz : b + xs.length ≠ b + xs.length + 2 := ne5 b xs.length
  have IT : b + xs.length ≠ b + xs.length + 1 := ne6 b xs.length
  refine wpAny_forIn_list _ (fun rest bs s1 => bs = (none, ()) ∧ ∃ (k : Nat) (hk : Heap) (tk : Nat) (zs : Array Value), k ≤ xs.length ∧ rest = (iters b xs.length).zipIdx.drop k ∧ s1 = { s with heap := hk, toks := tk } ∧
      hk.get? (b + xs.length + 2) = some { cls := .type "zip", dict := none, data := .fields #[.ellipsis, f1, .bool false, .ref (b + xs.length), .ref (b + xs.length + 1)], slots := #[] } ∧
      hk.get? (b + xs.length) = some { cls := .type "tuple", data := .seq (iters b xs.length).toArray } ∧
      zs.size = xs.length ∧ hk.get? (b + xs.length + 1) = some { cls := .type "tuple", data := .seq zs } ∧
      (∀ (j : Nat) (x : Str) (t : Tok), j < k → xs[j]? = some (x, t) → ∃ c u, x.cps[i]? = some c ∧ zs[j]? = some (.str ⟨#[c]⟩ u)) ∧
      (∀ (j : Nat) (x : Str) (t : Tok), xs[j]? = some (x, t) → hk.IsStrIter (b + j) (strIterType x) x t (if j < k then i + 1 else i)) ∧
      (∀ c o, (c < b ∨ b + xs.length + 2 < c) → s.heap.get? c = some o → hk.get? c = some o) ∧ hk.objs.size = s.heap.objs.size) _ ?_ ?_ _ _ ?_
  · rintro x rest bs s1 ⟨rfl, k, hk, tk, zs, kle, hr, rfl, kz, kI, zsz, kT, kv, ki, kk, ksz⟩
    have hlt : k < xs.length := by
      rcases Nat.lt_or_ge k xs.length with h | h
      · exact h
      · rw [List.drop_eq_nil_of_le (by rw [List.length_zipIdx]; simp [iters]; omega)] at hr
        cases hr
    have hk0 : (iters b xs.length).zipIdx[k]? = some (Value.ref (b + k), k) := by
      rw [List.getElem?_zipIdx]
      simp [iters, hlt]
    obtain ⟨hx, hrest⟩ : x = (Value.ref (b + k), k) ∧ rest = (iters b xs.length).zipIdx.drop (k + 1) := by
      have hl : k < (iters b xs.length).zipIdx.length := (List.getElem?_eq_some_iff.mp hk0).1
      rw [List.drop_eq_getElem_cons hl] at hr
      obtain ⟨h1, h2⟩ := List.cons.inj hr
      refine ⟨?_, h2⟩
      rw [h1]
      exact (List.getElem?_eq_some_iff.mp hk0).2
    subst hx hrest
    obtain ⟨⟨x, t⟩, hxk⟩ : ∃ p, xs[k]? = some p := ⟨_, List.getElem?_eq_getElem hlt⟩
    have hmem : (x, t) ∈ xs := List.mem_of_getElem? hxk
    have hil : i < x.cps.size := hi _ hmem
    have kik := ki k x t hxk
    rw [if_neg (Nat.lt_irrefl k)] at kik
    refine wpAny_bind (wpAny_onRaise ?_)
    show wpAny _ _ (Builtin.SmallTypes.nextOf (.ref (b + k)) >>= _) _ _ _
    refine wpAny_bind ((Draws.text hh (b + k) x t).item i _ _ _ hil kik fun v h1 tk1 pv st1 hs1 => wpAny_pure ?_)
    obtain ⟨c, u, hc, rfl⟩ := pv
    replace hs1 : Heap.SameBut (b + k) hk h1 := hs1
    have kT1 := hs1.extBut _ _ (lT k hlt) kT
    refine wpAny_bind (wpAny_seqItems (s := { s with heap := h1, toks := tk1 }) kT1 rfl ?_)
    dsimp only
    refine wpAny_bind (updTup (s := { s with heap := h1, toks := tk1 }) kT1 (by rw [zsz]; exact hn) fun h2 kT2 hs2 => ?_)
    replace hs2 : Heap.SameBut (b + xs.length + 1) h1 h2 := hs2
    refine wpAny_bind (wpAny_letGo (wpAny_pure ?_))
    refine ⟨rfl, k + 1, h2, tk1, zs.setIfInBounds k (.str ⟨#[c]⟩ u), hlt, rfl, rfl, hs2.extBut _ _ Tz.symm (hs1.extBut _ _ (lz k hlt) kz), hs2.extBut _ _ IT (hs1.extBut _ _ (lI k hlt) kI), by simpa using zsz, kT2, ?_, ?_, ?_, ?_⟩
    · intro j x' t' hj hx'
      by_cases e : j = k
      · subst e
        rw [hxk] at hx'
        cases hx'
        refine ⟨c, u, hc, ?_⟩
        rw [Array.getElem?_setIfInBounds_self, if_pos (by rw [zsz]; exact hlt)]
      · obtain ⟨c', u', h1, h2⟩ := kv j x' t' (by omega) hx'
        refine ⟨c', u', h1, ?_⟩
        rw [Array.getElem?_setIfInBounds_ne (Ne.symm e)]
        exact h2
    · intro j x' t' hx'
      have hjl : j < xs.length := (List.getElem?_eq_some_iff.mp hx').1
      by_cases e : j = k
      · subst e
        rw [hxk] at hx'
        cases hx'
        rw [if_pos (Nat.lt_succ_self _)]
        exact st1.extBut hs2.extBut (lT j hjl).symm
      · have h0 := ki j x' t' hx'
        have e2 : (if j < k + 1 then i + 1 else i) = if j < k then i + 1 else i := by
          by_cases h : j < k
          · rw [if_pos h, if_pos (by omega)]
          · rw [if_neg h, if_neg (by omega)]
        rw [e2]
        exact (h0.extBut hs1.extBut (ne7 b j k e)).extBut hs2.extBut (lT j hjl).symm
    · intro c' o hc' e
      have a1 : c' ≠ b + k := ne8 b xs.length k c' hlt hc'
      have a2 : c' ≠ b + xs.length + 1 := ne9 b xs.length c' hc'
      exact hs2.extBut _ _ a2 (hs1.extBut _ _ a1 (kk c' o hc' e))
    · rw [← ksz, ← hs1.1]
      exact hs2.1
  · rintro bs s1 ⟨rfl, k, hk, tk, zs, kle, hr, rfl, kz, kI, zsz, kT, kv, ki, kk, ksz⟩
    have hkl : k = xs.length := by
      rcases Nat.lt_or_ge k xs.length with h | h
      · have hl : k < (iters b xs.length).zipIdx.length := by rw [List.length_zipIdx]; simp [iters]; exact h
        rw [List.drop_eq_getElem_cons hl] at hr
        cases hr
      · omega
    subst hkl
    dsimp only
    refine wpAny_bind (wpAny_seqItems (s := { s with heap := hk, toks := tk }) kT rfl ?_)
    dsimp only
    refine wpAny_bind (wpAny_newTuple ?_ (hsz := by rw [Array.length_toList, zsz]; exact Nat.le_trans hn (by decide)))
    show wpAny _ _ (Builtin.SmallTypes.ownedTupleHandOut (.ref _) (.ref hk.objs.size) >>= _) _ _ _
    refine wpAny_bind ?_
    unfold Builtin.SmallTypes.ownedTupleHandOut
    have kz1 := Heap.get?_push_of_some { cls := .type "tuple", data := .seq zs.toList.toArray } kz
    have hzlt : b + xs.length + 2 < hk.objs.size := Heap.lt_size kz
    refine wpAny_bind (wpAny_setField_rec kz1 (by simp) fun h7 hz7 hs7 => ?_)
    refine wpAny_setField_rec hz7 (by simp) fun h8 hz8 hs8 => ?_
    have up : ∀ c o, c ≠ b + xs.length + 2 → hk.get? c = some o → h8.get? c = some o := fun c o c1 e => hs8.extBut _ _ c1 (hs7.extBut _ _ c1 (Heap.get?_push_of_some _ e))
    have hT8 : h8.get? hk.objs.size = some { cls := .type "tuple", data := .seq zs.toList.toArray } := hs8.extBut _ _ (Nat.ne_of_gt hzlt) (hs7.extBut _ _ (Nat.ne_of_gt hzlt) (Heap.get?_push_size _ rfl))
    have hz8s : h8.objs.size = hk.objs.size + 1 := by rw [hs8.1, hs7.1, Heap.size_push]
    refine wpAny_pure ⟨_, rfl, ?_⟩
    rw [ksz] at hT8 hz8s ⊢
    refine hQ h8 tk zs.toList _ _ ⟨.inr ⟨_, rfl⟩, _, rfl⟩ ⟨by simpa using zsz, fun j x t hx => ?_⟩ ⟨hz8, up _ _ Iz kI, ⟨zs, zsz, up _ _ Tz kT⟩, fun j x t hx => ?_⟩ hT8 (fun c o hc e => up c o (ne10 b xs.length c hc) (kk c o hc e)) hz8s
    · obtain ⟨c, u, h1, h2⟩ := kv j x t (List.getElem?_eq_some_iff.mp hx).1 hx
      exact ⟨c, u, h1, by simpa using h2⟩
    · have hjl : j < xs.length := (List.getElem?_eq_some_iff.mp hx).1
      have := ki j x t hx
      rw [if_pos hjl] at this
      obtain ⟨o, ho, r⟩ := this
      exact ⟨o, up _ o (lz j hjl).symm ho, r⟩
  · refine ⟨rfl, 0, g0, s.toks, ys, Nat.zero_le _, rfl, rfl, hz0, hs0.extBut _ _ Iz hTI, hys, hs0.extBut _ _ Tz hTO, fun j _ _ h => absurd h (Nat.not_lt_zero _), fun j x t hx => ?_, fun c o hc e => hs0.extBut _ _ (ne10 b xs.length c hc) e, hs0.1⟩
    rw [if_neg (Nat.not_lt_zero _)]
    exact (its j x t hx).extBut hs0.extBut (lz j (List.getElem?_eq_some_iff.mp hx).1).symm
theorem alive_none {a : Addr} {Q : Option Obj → Shared → Prop} (h : s.heap.get? a = none) (hq : Q none s) : wpAny (model prog w) A (loadIfAlive a) Q E s := fun Γ p hΓ => by
  unfold loadIfAlive
  rw [Sem.wp_loadIfAlive, h]
  exact hq
theorem is_free_none {z TI TO : Addr} {f1 : Value} {Q : Bool → Shared → Prop} (hz : s.heap.get? z = some { cls := .type "zip", dict := none, data := .fields #[.none, f1, .bool false, .ref TI, .ref TO], slots := #[] }) (hq : Q true s) :
    wpAny (model prog w) A (Builtin.SmallTypes.ownedTupleIsFree (.ref z)) Q E s := by
  unfold Builtin.SmallTypes.ownedTupleIsFree
  exact wpAny_bind (wpAny_field hz rfl (x := .none) rfl (wpAny_pure hq))
theorem is_free_gone {z TI TO T : Addr} {f1 : Value} {Q : Bool → Shared → Prop} (hz : s.heap.get? z = some { cls := .type "zip", dict := none, data := .fields #[rawInt T, f1, .bool false, .ref TI, .ref TO], slots := #[] }) (hT : s.heap.get? T = none) (hq : Q true s) :
    wpAny (model prog w) A (Builtin.SmallTypes.ownedTupleIsFree (.ref z)) Q E s := by
  unfold Builtin.SmallTypes.ownedTupleIsFree
  refine wpAny_bind (wpAny_field hz rfl (x := rawInt T) rfl ?_)
  show wpAny _ _ (loadIfAlive ((T : Int).toNat) >>= _) _ _ _
  rw [Int.toNat_natCast]
  refine wpAny_bind (alive_none hT ?_)
  exact wpAny_pure hq
theorem is_held {z TI TO T : Addr} {f : Bool} {oT : Obj} {Q : Bool → Shared → Prop} (hz : s.heap.get? z = some { cls := .type "zip", dict := none, data := .fields #[rawInt T, .bool f, .bool false, .ref TI, .ref TO], slots := #[] }) (hT : s.heap.get? T = some oT)
    (h : ∀ h', h'.get? z = some { cls := .type "zip", dict := none, data := .fields #[rawInt T, .bool true, .bool false, .ref TI, .ref TO], slots := #[] } → Heap.SameBut z s.heap h' → Q false { s with heap := h' }) :
    wpAny (model prog w) A (Builtin.SmallTypes.ownedTupleIsFree (.ref z)) Q E s := wpAny_tupleHeld_zip hz hT h
theorem next_held {b T : Addr} {oT : Obj} {f : Bool} {xs : List (Str × Tok)} {i : Nat} {Q : Value → Shared → Prop} (hh : A.handled = none) (hne : xs ≠ []) (hn : xs.length ≤ 1000) (hi : ∀ p ∈ xs, i < p.1.cps.size)
    (S : ZSt s.heap b xs i (rawInt T) (.bool f)) (hT : s.heap.get? T = some oT)
    (hQ : ∀ h' tk vs f0' f1', F01 f0' f1' → Vals1 xs i vs → ZSt h' b xs (i + 1) f0' f1' → h'.get? s.heap.objs.size = some { cls := .type "tuple", data := .seq vs.toArray } →
      (∀ c o, (c < b ∨ b + xs.length + 2 < c) → s.heap.get? c = some o → h'.get? c = some o) → h'.objs.size = s.heap.objs.size + 1 → Q (.ref s.heap.objs.size) { s with heap := h', toks := tk }) :
    wpAny (model prog w) A (Builtin.«zip.__next__» ⟨[.ref (b + xs.length + 2)], []⟩) (fun fin s' => ∃ v, fin = .done (.ret v) ∧ Q v s') E s := by
  obtain ⟨hz, hTI, ⟨ys, hys, hTO⟩, its⟩ := S
  show wpAny _ _ (field (.ref _) 2 >>= _) _ _ _
  refine wpAny_bind (wpAny_field hz rfl (x := .bool false) rfl ?_)
  show wpAny _ _ (field (.ref _) 3 >>= _) _ _ _
  refine wpAny_bind (wpAny_field hz rfl (x := .ref _) rfl ?_)
  refine wpAny_bind (wpAny_seqItems hTI rfl ?_)
  have hem : (iters b xs.length).toArray.isEmpty = false := by
    cases xs with
    | nil => exact absurd rfl hne
    | cons x r => simp [iters]
  simp only [hem]
  show wpAny _ _ (Builtin.SmallTypes.ownedTupleIsFree (.ref _) >>= _) _ _ _
  refine wpAny_bind (is_held hz hT fun g0 hz0 hs0 => ?_)
  simp only [Bool.false_eq_true, if_false]
  refine wpAny_bind ?_
  rw [← Array.forIn_toList]
  have lz : ∀ j : Nat, j < xs.length → b + xs.length + 2 ≠ b + j := fun j hj => ne1 b xs.length j hj
  have lT : ∀ j : Nat, j < xs.length → b + xs.length + 1 ≠ b + j := fun j hj => ne2 b xs.length j hj
  have lI : ∀ j : Nat, j < xs.length → b + xs.length ≠ b + j := fun j hj => ne3 b xs.length j hj
  have Tz : b + xs.length + 1 ≠ b + xs.length + 2 := ne4 b xs.length
  have Iz : b + xs.length ≠ b + xs.length + 2 := ne5 b xs.length
  refine wpAny_forIn_list _ (fun rest bs s1 => ∃ (k : Nat) (hk : Heap) (tk : Nat) (zs : Array Value), bs = (none, zs) ∧ k ≤ xs.length ∧ rest = (iters b xs.length).toArray.toList.drop k ∧ s1 = { s with heap := hk, toks := tk } ∧
      hk.get? (b + xs.length + 2) = some { cls := .type "zip", dict := none, data := .fields #[rawInt T, .bool true, .bool false, .ref (b + xs.length), .ref (b + xs.length + 1)], slots := #[] } ∧
      hk.get? (b + xs.length) = some { cls := .type "tuple", data := .seq (iters b xs.length).toArray } ∧
      zs.size = k ∧ hk.get? (b + xs.length + 1) = some { cls := .type "tuple", data := .seq ys } ∧
      (∀ (j : Nat) (x : Str) (t : Tok), j < k → xs[j]? = some (x, t) → ∃ c u, x.cps[i]? = some c ∧ zs[j]? = some (.str ⟨#[c]⟩ u)) ∧
      (∀ (j : Nat) (x : Str) (t : Tok), xs[j]? = some (x, t) → hk.IsStrIter (b + j) (strIterType x) x t (if j < k then i + 1 else i)) ∧
      (∀ c o, (c < b ∨ b + xs.length + 2 < c) → s.heap.get? c = some o → hk.get? c = some o) ∧ hk.objs.size = s.heap.objs.size) _ ?_ ?_ _ _ ?_
  · rintro x rest bs s1 ⟨k, hk, tk, zs, rfl, kle, hr, rfl, kz, kI, zsz, kT, kv, ki, kk, ksz⟩
    have hlen : (iters b xs.length).toArray.toList.length = xs.length := by simp [iters]
    have hlt : k < xs.length := by
      rcases Nat.lt_or_ge k xs.length with h | h
      · exact h
      · rw [List.drop_eq_nil_of_le (by rw [hlen]; exact h)] at hr
        cases hr
    have hk0 : (iters b xs.length).toArray.toList[k]? = some (Value.ref (b + k)) := by simp [iters, hlt]
    obtain ⟨hx, hrest⟩ : x = Value.ref (b + k) ∧ rest = (iters b xs.length).toArray.toList.drop (k + 1) := by
      have hl : k < (iters b xs.length).toArray.toList.length := (List.getElem?_eq_some_iff.mp hk0).1
      rw [List.drop_eq_getElem_cons hl] at hr
      obtain ⟨h1, h2⟩ := List.cons.inj hr
      refine ⟨?_, h2⟩
      rw [h1]
      exact (List.getElem?_eq_some_iff.mp hk0).2
    subst hx hrest
    obtain ⟨⟨x, t⟩, hxk⟩ : ∃ p, xs[k]? = some p := ⟨_, List.getElem?_eq_getElem hlt⟩
    have hmem : (x, t) ∈ xs := List.mem_of_getElem? hxk
    have hil : i < x.cps.size := hi _ hmem
    have kik := ki k x t hxk
    rw [if_neg (Nat.lt_irrefl k)] at kik
    refine wpAny_bind (wpAny_holding ?_)
    show wpAny _ _ (Builtin.SmallTypes.nextOf (.ref (b + k)) >>= _) _ _ _
    refine wpAny_bind ((Draws.text hh (b + k) x t).item i _ _ _ hil kik fun v h1 tk1 pv st1 hs1 => wpAny_pure ?_)
    obtain ⟨c, u, hc, rfl⟩ := pv
    replace hs1 : Heap.SameBut (b + k) hk h1 := hs1
    dsimp only
    refine wpAny_pure ?_
    refine ⟨k + 1, h1, tk1, zs.push (.str ⟨#[c]⟩ u), rfl, hlt, rfl, rfl, hs1.extBut _ _ (lz k hlt) kz, hs1.extBut _ _ (lI k hlt) kI, by rw [Array.size_push, zsz], hs1.extBut _ _ (lT k hlt) kT, ?_, ?_, ?_, ?_⟩
    · intro j x' t' hj hx'
      by_cases e : j = k
      · subst e
        rw [hxk] at hx'
        cases hx'
        refine ⟨c, u, hc, ?_⟩
        rw [← zsz, Array.getElem?_push_size]
      · obtain ⟨c', u', h1, h2⟩ := kv j x' t' (by omega) hx'
        refine ⟨c', u', h1, ?_⟩
        have hlt' : j < zs.size := by omega
        rw [Array.getElem?_push_lt hlt']
        rw [Array.getElem?_eq_getElem hlt'] at h2
        exact h2
    · intro j x' t' hx'
      by_cases e : j = k
      · subst e
        rw [hxk] at hx'
        cases hx'
        rw [if_pos (Nat.lt_succ_self _)]
        exact st1
      · have h0 := ki j x' t' hx'
        have e2 : (if j < k + 1 then i + 1 else i) = if j < k then i + 1 else i := by
          by_cases h : j < k
          · rw [if_pos h, if_pos (by omega)]
          · rw [if_neg h, if_neg (by omega)]
        rw [e2]
        exact h0.extBut hs1.extBut (ne7 b j k e)
    · intro c' o hc' e
      exact hs1.extBut _ _ (ne8 b xs.length k c' hlt hc') (kk c' o hc' e)
    · rw [← ksz]
      exact hs1.1
  · rintro bs s1 ⟨k, hk, tk, zs, rfl, kle, hr, rfl, kz, kI, zsz, kT, kv, ki, kk, ksz⟩
    have hlen : (iters b xs.length).toArray.toList.length = xs.length := by simp [iters]
    have hkl : k = xs.length := by
      rcases Nat.lt_or_ge k xs.length with h | h
      · have hl : k < (iters b xs.length).toArray.toList.length := by rw [hlen]; exact h
        rw [List.drop_eq_getElem_cons hl] at hr
        cases hr
      · omega
    subst hkl
    dsimp only
    refine wpAny_bind (wpAny_newTuple ?_ (hsz := by rw [Array.length_toList, zsz]; exact Nat.le_trans hn (by decide)))
    refine wpAny_pure ⟨_, rfl, ?_⟩
    have up : ∀ c o, hk.get? c = some o → (hk.push { cls := .type "tuple", data := .seq zs.toList.toArray }).get? c = some o := fun c o e => Heap.get?_push_of_some _ e
    have hT8 : (hk.push { cls := .type "tuple", data := .seq zs.toList.toArray }).get? hk.objs.size = some { cls := .type "tuple", data := .seq zs.toList.toArray } := Heap.get?_push_size _ rfl
    have hz8s : (hk.push { cls := .type "tuple", data := .seq zs.toList.toArray }).objs.size = hk.objs.size + 1 := Heap.size_push ..
    show Q (Value.ref hk.objs.size) _
    rw [ksz] at hT8 hz8s ⊢
    refine hQ _ tk zs.toList _ _ ⟨.inr ⟨_, rfl⟩, _, rfl⟩ ⟨by simpa using zsz, fun j x t hx => ?_⟩ ⟨up _ _ kz, up _ _ kI, ⟨ys, hys, up _ _ kT⟩, fun j x t hx => ?_⟩ hT8 (fun c o hc e => up c o (kk c o hc e)) hz8s
    · obtain ⟨c, u, h1, h2⟩ := kv j x t (List.getElem?_eq_some_iff.mp hx).1 hx
      exact ⟨c, u, h1, by simpa using h2⟩
    · have hjl : j < xs.length := (List.getElem?_eq_some_iff.mp hx).1
      have := ki j x t hx
      rw [if_pos hjl] at this
      obtain ⟨o, ho, r⟩ := this
      exact ⟨o, up _ o ho, r⟩
  · refine ⟨0, g0, s.toks, #[], rfl, Nat.zero_le _, rfl, rfl, hz0, hs0.extBut _ _ Iz hTI, rfl, hs0.extBut _ _ Tz hTO, fun j _ _ h => absurd h (Nat.not_lt_zero _), fun j x t hx => ?_, fun c o hc e => hs0.extBut _ _ (ne10 b xs.length c hc) e, hs0.1⟩
    rw [if_neg (Nat.not_lt_zero _)]
    exact (its j x t hx).extBut hs0.extBut (lz j (List.getElem?_eq_some_iff.mp hx).1).symm
theorem next_item {b : Addr} {f0 f1 : Value} {xs : List (Str × Tok)} {i : Nat} {Q : Value → Shared → Prop} (hh : A.handled = none) (hne : xs ≠ []) (hn : xs.length ≤ 1000) (hi : ∀ p ∈ xs, i < p.1.cps.size)
    (S : ZSt s.heap b xs i f0 f1) (hF : F01 f0 f1)
    (hQ : ∀ h' tk vs f0' f1', F01 f0' f1' → Vals1 xs i vs → ZSt h' b xs (i + 1) f0' f1' → h'.get? s.heap.objs.size = some { cls := .type "tuple", data := .seq vs.toArray } →
      (∀ c o, (c < b ∨ b + xs.length + 2 < c) → s.heap.get? c = some o → h'.get? c = some o) → h'.objs.size = s.heap.objs.size + 1 → Q (.ref s.heap.objs.size) { s with heap := h', toks := tk }) :
    wpAny (model prog w) A (Builtin.«zip.__next__» ⟨[.ref (b + xs.length + 2)], []⟩) (fun fin s' => ∃ v, fin = .done (.ret v) ∧ Q v s') E s := by
  obtain ⟨h0, f, rfl⟩ := hF
  rcases h0 with rfl | ⟨T, rfl⟩
  · exact next_free hh hne hn hi S (fun A' Q' q => is_free_none S.hz q) hQ
  · cases hT : s.heap.get? T with
    | none => exact next_free hh hne hn hi S (fun A' Q' q => is_free_gone S.hz hT q) hQ
    | some oT => exact next_held hh hne hn hi S hT hQ
theorem end_free {b : Addr} {x : Str} {t : Tok} {xs : List (Str × Tok)} {f0 f1 : Value} {Q : Fin → Shared → Prop} (hh : A.handled = none)
    (S : ZSt s.heap b ((x, t) :: xs) x.cps.size f0 f1) (hfree : ∀ (A' : Around) (Q' : Bool → Shared → Prop), Q' true s → wpAny (model prog w) A' (Builtin.SmallTypes.ownedTupleIsFree (.ref (b + ((x, t) :: xs).length + 2))) Q' E s)
    (hE : ∀ h' e, (∀ c o, (c < b ∨ b + ((x, t) :: xs).length + 2 < c) → s.heap.get? c = some o → h'.get? c = some o) → (∃ o, h'.get? e = some o ∧ o.cls = .type "StopIteration") → E (.ref e) { s with heap := h' }) :
    wpAny (model prog w) A (Builtin.«zip.__next__» ⟨[.ref (b + ((x, t) :: xs).length + 2)], []⟩) Q E s := by
  obtain ⟨hz, hTI, ⟨ys, hys, hTO⟩, its⟩ := S
  show wpAny _ _ (field (.ref _) 2 >>= _) _ _ _
  refine wpAny_bind (wpAny_field hz rfl (x := .bool false) rfl ?_)
  show wpAny _ _ (field (.ref _) 3 >>= _) _ _ _
  refine wpAny_bind (wpAny_field hz rfl (x := .ref _) rfl ?_)
  refine wpAny_bind (wpAny_seqItems hTI rfl ?_)
  have hem : (iters b ((x, t) :: xs).length).toArray.isEmpty = false := by simp [iters]
  simp only [hem]
  show wpAny _ _ (Builtin.SmallTypes.ownedTupleIsFree (.ref _) >>= _) _ _ _
  refine wpAny_bind (hfree _ _ ?_)
  simp only [if_true]
  refine wpAny_bind (wpAny_rule ?_)
  refine wpAny_bind (wpAny_field hz rfl (x := .ref _) rfl ?_)
  refine wpAny_bind (wpAny_setField_rec hz (by simp) fun g0 hz0 hs0 => ?_)
  refine wpAny_bind ?_
  have hl : ((x, t) :: xs).length = xs.length + 1 := rfl
  have e0 : (iters b ((x, t) :: xs).length).zipIdx = (Value.ref (b + 0), 0) :: (iters b ((x, t) :: xs).length).zipIdx.drop 1 := by
    unfold iters
    rw [hl, List.range_succ_eq_map]
    simp
  rw [e0, List.forIn_cons]
  refine wpAny_bind (wpAny_bind (wpAny_onRaise ?_))
  show wpAny _ _ (Builtin.SmallTypes.nextOf (.ref (b + 0)) >>= _) _ _ _
  have h0 := (its 0 x t rfl).extBut hs0.extBut (ne1 b ((x, t) :: xs).length 0 (Nat.succ_pos _)).symm
  refine wpAny_bind ((Draws.text hh (b + 0) x t).done { s with heap := g0 } _ _ h0 fun q e hq he => ?_)
  replace hq : Heap.ExtBut (b + 0) g0 q := hq
  obtain ⟨oe, hoe, hce⟩ := he
  replace hoe : q.get? e = some oe := hoe
  have hzq := hq _ _ (ne1 b ((x, t) :: xs).length 0 (Nat.succ_pos _)) hz0
  have hez : e ≠ b + ((x, t) :: xs).length + 2 := fun z => by subst z; rw [hzq] at hoe; cases hoe; simp at hce
  refine wpAny_setField_rec (s := { s with heap := q }) hzq (by simp) fun q' _ hq' => ?_
  replace hq' : Heap.SameBut (b + ((x, t) :: xs).length + 2) q q' := hq'
  exact hE q' e (fun c o hc z => hq'.extBut _ _ (ne10 b _ c hc) (hq _ _ (ne8 b ((x, t) :: xs).length 0 c (Nat.succ_pos _) hc) (hs0.extBut _ _ (ne10 b _ c hc) z))) ⟨oe, hq'.extBut _ _ hez hoe, hce⟩
theorem end_held {b T : Addr} {oT : Obj} {f : Bool} {x : Str} {t : Tok} {xs : List (Str × Tok)} {Q : Fin → Shared → Prop} (hh : A.handled = none)
    (S : ZSt s.heap b ((x, t) :: xs) x.cps.size (rawInt T) (.bool f)) (hT : s.heap.get? T = some oT)
    (hE : ∀ h' e, (∀ c o, (c < b ∨ b + ((x, t) :: xs).length + 2 < c) → s.heap.get? c = some o → h'.get? c = some o) → (∃ o, h'.get? e = some o ∧ o.cls = .type "StopIteration") → E (.ref e) { s with heap := h' }) :
    wpAny (model prog w) A (Builtin.«zip.__next__» ⟨[.ref (b + ((x, t) :: xs).length + 2)], []⟩) Q E s := by
  obtain ⟨hz, hTI, ⟨ys, hys, hTO⟩, its⟩ := S
  show wpAny _ _ (field (.ref _) 2 >>= _) _ _ _
  refine wpAny_bind (wpAny_field hz rfl (x := .bool false) rfl ?_)
  show wpAny _ _ (field (.ref _) 3 >>= _) _ _ _
  refine wpAny_bind (wpAny_field hz rfl (x := .ref _) rfl ?_)
  refine wpAny_bind (wpAny_seqItems hTI rfl ?_)
  have hem : (iters b ((x, t) :: xs).length).toArray.isEmpty = false := by simp [iters]
  simp only [hem]
  show wpAny _ _ (Builtin.SmallTypes.ownedTupleIsFree (.ref _) >>= _) _ _ _
  refine wpAny_bind (is_held hz hT fun g0 hz0 hs0 => ?_)
  simp only [Bool.false_eq_true, if_false]
  refine wpAny_bind ?_
  rw [← Array.forIn_toList]
  have hl : ((x, t) :: xs).length = xs.length + 1 := rfl
  have e0 : (iters b ((x, t) :: xs).length).toArray.toList = Value.ref (b + 0) :: (iters b ((x, t) :: xs).length).drop 1 := by
    unfold iters
    rw [hl, List.range_succ_eq_map]
    simp
  rw [e0, List.forIn_cons]
  refine wpAny_bind (wpAny_bind (wpAny_holding ?_))
  show wpAny _ _ (Builtin.SmallTypes.nextOf (.ref (b + 0)) >>= _) _ _ _
  have h0 := (its 0 x t rfl).extBut hs0.extBut (ne1 b ((x, t) :: xs).length 0 (Nat.succ_pos _)).symm
  refine wpAny_bind ((Draws.text hh (b + 0) x t).done { s with heap := g0 } _ _ h0 fun q e hq he => ?_)
  replace hq : Heap.ExtBut (b + 0) g0 q := hq
  exact hE q e (fun c o hc z => hq _ _ (ne8 b ((x, t) :: xs).length 0 c (Nat.succ_pos _) hc) (hs0.extBut _ _ (ne10 b _ c hc) z)) he
theorem next_end {b : Addr} {f0 f1 : Value} {x : Str} {t : Tok} {xs : List (Str × Tok)} {Q : Fin → Shared → Prop} (hh : A.handled = none)
    (S : ZSt s.heap b ((x, t) :: xs) x.cps.size f0 f1) (hF : F01 f0 f1)
    (hE : ∀ h' e, (∀ c o, (c < b ∨ b + ((x, t) :: xs).length + 2 < c) → s.heap.get? c = some o → h'.get? c = some o) → (∃ o, h'.get? e = some o ∧ o.cls = .type "StopIteration") → E (.ref e) { s with heap := h' }) :
    wpAny (model prog w) A (Builtin.«zip.__next__» ⟨[.ref (b + ((x, t) :: xs).length + 2)], []⟩) Q E s := by
  obtain ⟨h0, f, rfl⟩ := hF
  rcases h0 with rfl | ⟨T, rfl⟩
  · exact end_free hh S (fun A' Q' q => is_free_none S.hz q) hE
  · cases hT : s.heap.get? T with
    | none => exact end_free hh S (fun A' Q' q => is_free_gone S.hz hT q) hE
    | some oT => exact end_held hh S hT hE
theorem pyNext_item {b : Addr} {f0 f1 : Value} {xs : List (Str × Tok)} {i : Nat} {Q : Option Value → Shared → Prop} (hh : A.handled = none) (hne : xs ≠ []) (hn : xs.length ≤ 1000) (hi : ∀ p ∈ xs, i < p.1.cps.size)
    (S : ZSt s.heap b xs i f0 f1) (hF : F01 f0 f1)
    (hQ : ∀ h' tk vs f0' f1', F01 f0' f1' → Vals1 xs i vs → ZSt h' b xs (i + 1) f0' f1' → h'.get? s.heap.objs.size = some { cls := .type "tuple", data := .seq vs.toArray } →
      (∀ c o, (c < b ∨ b + xs.length + 2 < c) → s.heap.get? c = some o → h'.get? c = some o) → h'.objs.size = s.heap.objs.size + 1 → Q (some (.ref s.heap.objs.size)) { s with heap := h', toks := tk }) :
    wpAny (model prog w) A (pyNext (.ref (b + xs.length + 2))) Q E s := by
  have hT : s.TypeIs (.ref (b + xs.length + 2)) "zip" := ⟨_, S.hz, rfl⟩
  unfold pyNext
  exact wpAny_bind (wpAny_attempt (wpAny_callSpecial?_slot (name := Str.ofString "__next__") hT F.slot_zip_next
    (wpAny_call_entry F.slot_zip_next hT F.entry_zip_next
      (next_item hh hne hn hi S hF fun h' tk vs f0' f1' a1 a2 a3 a4 a5 a6 => wpAny_pure (hQ h' tk vs f0' f1' a1 a2 a3 a4 a5 a6)) (F.args_zip_next_1 _))))
theorem pyNext_end {b : Addr} {f0 f1 : Value} {x : Str} {t : Tok} {xs : List (Str × Tok)} {Q : Option Value → Shared → Prop} (hh : A.handled = none)
    (S : ZSt s.heap b ((x, t) :: xs) x.cps.size f0 f1) (hF : F01 f0 f1)
    (hQ : ∀ h', (∀ c o, (c < b ∨ b + ((x, t) :: xs).length + 2 < c) → s.heap.get? c = some o → h'.get? c = some o) → Q none { s with heap := h' }) :
    wpAny (model prog w) A (pyNext (.ref (b + ((x, t) :: xs).length + 2))) Q E s := by
  have hT : s.TypeIs (.ref (b + ((x, t) :: xs).length + 2)) "zip" := ⟨_, S.hz, rfl⟩
  unfold pyNext
  refine wpAny_bind (wpAny_attempt (wpAny_callSpecial?_slot (name := Str.ofString "__next__") hT F.slot_zip_next
    (wpAny_call_entry F.slot_zip_next hT F.entry_zip_next (next_end hh S hF fun h' e hk he => ?_) (F.args_zip_next_1 _))))
  obtain ⟨o, ho, hc⟩ := he
  refine wpAny_bind (wpAny_isInstance (T := "StopIteration") (b := true) ⟨o, ho, hc⟩ isSubtype_stop ?_)
  exact wpAny_pure (hQ _ hk)
theorem pyIter_z {z TI TO : Addr} {f0 f1 : Value} {Q : Value → Shared → Prop} (hz : s.heap.get? z = some { cls := .type "zip", dict := none, data := .fields #[f0, f1, .bool false, .ref TI, .ref TO], slots := #[] }) (h : Q (.ref z) s) : wpAny (model prog w) A (pyIter (.ref z)) Q E s := by
  have hT : s.TypeIs (.ref z) "zip" := ⟨_, hz, rfl⟩
  refine wpAny_pyIter_slot hT F.slot_zip_iter (wpAny_call_entry F.slot_zip_iter hT F.entry_zip_iter ?_ (F.args_zip_iter_1 _))
  show wpAny _ _ (ret (.ref z)) _ _ s
  exact wpAny_pure ⟨_, rfl, "zip", _, hT, F.slot_zip_next.lookup, h⟩
def txts (xs : List (Str × Tok)) : List Value := xs.map fun p => Value.str p.1 p.2
theorem iterAll_txts {xs : List (Str × Tok)} {Q : List Value → Shared → Prop}
    (h : ∀ h1, h1.objs.size = s.heap.objs.size + xs.length → (∀ c o, s.heap.get? c = some o → h1.get? c = some o) → (∀ (j : Nat) (x : Str) (t : Tok), xs[j]? = some (x, t) → h1.IsStrIter (s.heap.objs.size + j) (strIterType x) x t 0) → Q (iters s.heap.objs.size xs.length) { s with heap := h1 }) :
    wpAny (model prog w) A (Builtin.SmallTypes.iterAll (txts xs)) Q E s := by
  unfold Builtin.SmallTypes.iterAll
  refine wpAny_bind ?_
  refine wpAny_forIn_list _ (fun rest bs s1 => ∃ (k : Nat) (hk : Heap), k ≤ xs.length ∧ bs = (iters s.heap.objs.size k).toArray ∧ rest = (txts xs).drop k ∧ s1 = { s with heap := hk } ∧ hk.objs.size = s.heap.objs.size + k ∧
    (∀ c o, s.heap.get? c = some o → hk.get? c = some o) ∧ (∀ (j : Nat) (x : Str) (t : Tok), j < k → xs[j]? = some (x, t) → hk.IsStrIter (s.heap.objs.size + j) (strIterType x) x t 0)) _ ?_ ?_ _ _ ?_
  · rintro v rest bs s1 ⟨k, hk, kle, rfl, hr, rfl, ksz, kk, ki⟩
    have hlen : (txts xs).length = xs.length := by simp [txts]
    have hlt : k < xs.length := by
      rcases Nat.lt_or_ge k xs.length with h | h
      · exact h
      · rw [List.drop_eq_nil_of_le (by rw [hlen]; exact h)] at hr
        cases hr
    obtain ⟨⟨x, t⟩, hxk⟩ : ∃ p, xs[k]? = some p := ⟨_, List.getElem?_eq_getElem hlt⟩
    have hl : k < (txts xs).length := by rw [hlen]; exact hlt
    have hv : (txts xs)[k] = Value.str x t := by
      have : (txts xs)[k]? = some (Value.str x t) := by simp [txts, hxk]
      exact (List.getElem?_eq_some_iff.mp this).2
    rw [List.drop_eq_getElem_cons hl, hv] at hr
    obtain ⟨rfl, rfl⟩ := List.cons.inj hr
    refine wpAny_bind (wpAny_holding ((begins_text x t).iter prog w _ _ { s with heap := hk } _ trivial ?_))
    refine wpAny_pure ?_
    have eI : (iters s.heap.objs.size k).toArray.push (Value.ref hk.objs.size) = (iters s.heap.objs.size (k + 1)).toArray := by
      rw [ksz]
      simp [iters, List.range_succ]
    refine ⟨k + 1, _, hlt, eI, rfl, rfl, ?_, ?_, ?_⟩
    · show (hk.push _).objs.size = _
      rw [Heap.size_push, ksz, Nat.add_assoc]
    · intro c o e
      exact Heap.get?_push_of_some _ (kk c o e)
    · intro j x' t' hj hx'
      by_cases e : j = k
      · subst e
        rw [hxk] at hx'
        cases hx'
        rw [← ksz]
        exact ⟨_, Heap.get?_push_size _ rfl, rfl, rfl⟩
      · obtain ⟨o, ho, r⟩ := ki j x' t' (by omega) hx'
        exact ⟨o, Heap.get?_push_of_some _ ho, r⟩
  · rintro bs s1 ⟨k, hk, kle, rfl, hr, rfl, ksz, kk, ki⟩
    have hlen : (txts xs).length = xs.length := by simp [txts]
    have hkl : k = xs.length := by
      rcases Nat.lt_or_ge k xs.length with h | h
      · have hl : k < (txts xs).length := by rw [hlen]; exact h
        rw [List.drop_eq_getElem_cons hl] at hr
        cases hr
      · omega
    subst hkl
    refine wpAny_pure ?_
    exact h hk ksz kk fun j x t hx => ki j x t (List.getElem?_eq_some_iff.mp hx).1 hx
  · exact ⟨0, s.heap, Nat.zero_le _, rfl, rfl, rfl, rfl, fun _ _ e => e, fun j _ _ hj => absurd hj (Nat.not_lt_zero _)⟩
theorem zip_new {xs : List (Str × Tok)} (hn : xs.length ≤ 1000) :
    Meets (Builtin.«zip.__new__» ⟨.type "zip" :: txts xs, []⟩) (fun _ R s => ∀ h', ZSt h' s.heap.objs.size xs 0 .none (.bool false) → (∀ c o, s.heap.get? c = some o → h'.get? c = some o) → R (.ok (.ret (.ref (s.heap.objs.size + xs.length + 2)))) { s with heap := h' }) :=
  .of_wp fun prog w A R s h => by
    obtain ⟨hp, g, d, tk, os⟩ := s
    have hsub := sub_zip
    have hz1 : (iters hp.objs.size xs.length).length = xs.length := by simp [iters]
    have key : ∀ {A' : Around} {E' : Value → Shared → Prop} {Q' : List Value → Shared → Prop}, (∀ h1 : Heap, h1.objs.size = hp.objs.size + xs.length → (∀ c o, hp.get? c = some o → h1.get? c = some o) → (∀ (j : Nat) (x : Str) (t : Tok), xs[j]? = some (x, t) → h1.IsStrIter (hp.objs.size + j) (strIterType x) x t 0) → Q' (iters hp.objs.size xs.length) ⟨h1, g, d, tk, os⟩) →
      wpAny (model prog w) A' (Builtin.SmallTypes.iterAll (txts xs)) Q' E' ⟨hp, g, d, tk, os⟩ := fun q => iterAll_txts (s := ⟨hp, g, d, tk, os⟩) q
    wp_walk using key
    intro h1 ksz kk ki
    refine wpAny_bind (wpAny_newTuple ?_ (hsz := by rw [hz1]; exact Nat.le_trans hn (by decide)))
    refine wpAny_bind (wpAny_newTuple ?_ (hsz := by rw [List.length_map, hz1]; exact Nat.le_trans hn (by decide)))
    have s1 : (h1.push { cls := .type "tuple", data := .seq (iters hp.objs.size xs.length).toArray }).objs.size = hp.objs.size + xs.length + 1 := by rw [Heap.size_push, ksz]
    have s2 : ((h1.push { cls := .type "tuple", data := .seq (iters hp.objs.size xs.length).toArray }).push { cls := .type "tuple", data := .seq (List.map (fun _ => Value.none) (iters hp.objs.size xs.length)).toArray }).objs.size = hp.objs.size + xs.length + 2 := by rw [Heap.size_push, s1]
    show wpAny _ _ (Builtin.SmallTypes.newRecord (Value.type "zip") [.none, .bool false, .bool false, .ref h1.objs.size, .ref (h1.push { cls := .type "tuple", data := .seq (iters hp.objs.size xs.length).toArray }).objs.size] >>= _) _ _ _
    wp_walk
    refine ⟨_, rfl, ?_⟩
    have e2 := h (((h1.push { cls := .type "tuple", data := .seq (iters hp.objs.size xs.length).toArray }).push { cls := .type "tuple", data := .seq (List.map (fun _ => Value.none) (iters hp.objs.size xs.length)).toArray }).push { cls := .type "zip", data := .fields #[.none, .bool false, .bool false, .ref h1.objs.size, .ref (h1.push { cls := .type "tuple", data := .seq (iters hp.objs.size xs.length).toArray }).objs.size] }) ⟨?_, ?_, ⟨(List.map (fun _ => Value.none) (iters hp.objs.size xs.length)).toArray, by simp [iters], ?_⟩, fun j x t hx => ?_⟩ ?_
    · rw [← s2] at e2
      exact e2
    · have := Heap.get?_push_size ((h1.push { cls := .type "tuple", data := .seq (iters hp.objs.size xs.length).toArray }).push { cls := .type "tuple", data := .seq (List.map (fun _ => Value.none) (iters hp.objs.size xs.length)).toArray }) (o := { cls := .type "zip", data := .fields #[.none, .bool false, .bool false, .ref h1.objs.size, .ref (h1.push { cls := .type "tuple", data := .seq (iters hp.objs.size xs.length).toArray }).objs.size] }) rfl
      rw [s2, s1, ksz] at this
      rw [s1, ksz]
      exact this
    · refine Heap.get?_push_of_some _ (Heap.get?_push_of_some _ ?_)
      have := Heap.get?_push_size h1 (o := { cls := .type "tuple", data := .seq (iters hp.objs.size xs.length).toArray }) rfl
      rw [ksz] at this
      exact this
    · refine Heap.get?_push_of_some _ ?_
      have := Heap.get?_push_size (h1.push { cls := .type "tuple", data := .seq (iters hp.objs.size xs.length).toArray }) (o := { cls := .type "tuple", data := .seq (List.map (fun _ => Value.none) (iters hp.objs.size xs.length)).toArray }) rfl
      rw [s1] at this
      exact this
    · obtain ⟨o, ho, r⟩ := ki j x t hx
      exact ⟨o, Heap.get?_push_of_some _ (Heap.get?_push_of_some _ (Heap.get?_push_of_some _ ho)), r⟩
    · intro c o e
      exact Heap.get?_push_of_some _ (Heap.get?_push_of_some _ (Heap.get?_push_of_some _ (kk c o e)))
theorem zip_begins {p0 : Str × Tok} {r0 : List (Str × Tok)} {Q : Value → Shared → Prop} (hn : (p0 :: r0).length ≤ 1000)
    (hQ : ∀ h', ZSt h' s.heap.objs.size (p0 :: r0) 0 .none (.bool false) → (∀ c o, s.heap.get? c = some o → h'.get? c = some o) → Q (.ref (s.heap.objs.size + (p0 :: r0).length + 2)) { s with heap := h' }) :
    wpAny (model prog w) A (call (.type "zip") (txts (p0 :: r0))) Q E s :=
  callType_new F.called_zip (by decide) (typeCall_zip _) (newCall_zip _ _) (fun obj => args_object_init obj _) F.entry_zip_new (zip_new hn) fun h' S k => ⟨⟨_, S.hz, rfl⟩, hQ h' S k⟩
theorem callWith_starType {M : Model} {A : Around} {E : Value → Shared → Prop} {s : Shared} {T : String} {e : Expr} {env : Env} {pos p : Pos} {Q : Value → Shared → Prop}
    (h : wpAny M A (eval e env) (fun v s₁ => PySem.W.StarOf M A E v (fun vs s₂ => wpAny M A (call (.type T) vs) Q E s₂) s₁) E s)
    (he : starEach [.Starred e p] env = [(true, eval e env)] := by rfl) :
    wpAny M A (callWith pos (.type T) [] (backTo pos (starEach [.Starred e p] env)) []) Q E s := by
  rw [he]
  refine PySem.W.ks_call (P := fun _ => True) rfl (fun h _ => ⟨Keeper.machine, .inr (.inl rfl), ?_⟩) (PySem.W.ks_lone (wpAny_mono h (fun v s1 h1 => ?_) fun _ _ x => x))
  · exact .now
  · exact wpAny_mono h1 (fun b s2 ⟨hb, h2⟩ => ⟨hb, wpAny_mono h2 (fun vs s3 h3 => ⟨trivial, h3⟩) fun _ _ x => x⟩) fun _ _ x => x
end
end ZN
end PySem
namespace L2
open PySem PySem.Spec PyProof.Rows PySem.ZN
/-- the i-th signs of the texts -/
def colV (xs : List Str) (i : Nat) : List V := xs.map fun x => V.str ⟨#[x.cps.getD i 0]⟩
def ItzS (xs : List Str) (n : Nat) : It :=
  ⟨fun i _ => i < n, fun i H v H' => ∃ T, v = .ref T ∧ H T = none ∧ H' = upd H T (.tup (colV xs i)), fun i _ => n ≤ i⟩
theorem vals_col {xs : List (Str × Tok)} {i : Nat} {vs : List Value} (h : Vals1 xs i vs) : Vals (colV (xs.map (·.1)) i) vs := by
  obtain ⟨hl, hv⟩ := h
  induction xs generalizing vs with
  | nil =>
    cases vs with
    | nil => exact .nil
    | cons v r => cases hl
  | cons p r ih =>
    cases vs with
    | nil => cases hl
    | cons v vr =>
      obtain ⟨c, u, h1, h2⟩ := hv 0 p.1 p.2 rfl
      obtain rfl : v = _ := Option.some.inj h2
      refine .cons ⟨u, ?_⟩ (ih (Nat.succ.inj hl) fun j x t hx => hv (j + 1) x t hx)
      have e : p.1.cps.getD i 0 = c := by
        rw [Array.getD_eq_getD_getElem?, h1]
        rfl
      show Value.str _ u = Value.str _ u
      rw [e]
def cellsOf (b n : Nat) : List Addr := (List.range (n + 3)).map fun j => b + j
theorem mem_cellsOf {b n c : Nat} : c ∈ cellsOf b n ↔ b ≤ c ∧ c ≤ b + n + 2 := by
  unfold cellsOf
  rw [List.mem_map]
  constructor
  · rintro ⟨j, hj, rfl⟩
    have := List.mem_range.mp hj
    omega
  · rintro ⟨h1, h2⟩
    exact ⟨c - b, List.mem_range.mpr (by omega), by omega⟩
theorem not_cellsOf {b n c : Nat} (h : c ∉ cellsOf b n) : c < b ∨ b + n + 2 < c := by
  rw [mem_cellsOf] at h
  omega
theorem split_cells {b n c : Nat} (h : b ≤ c ∧ c ≤ b + n + 2) : (∃ j, j < n ∧ c = b + j) ∨ c = b + n ∨ c = b + n + 1 ∨ c = b + n + 2 := by
  by_cases h1 : c < b + n
  · exact .inl ⟨c - b, by omega, by omega⟩
  · omega
theorem cell_j {b n j : Nat} (h : j < n) : b ≤ b + j ∧ b + j ≤ b + n + 2 := by omega
theorem cell_I (b n : Nat) : b ≤ b + n ∧ b + n ≤ b + n + 2 := by omega
theorem cell_T (b n : Nat) : b ≤ b + n + 1 ∧ b + n + 1 ≤ b + n + 2 := by omega
theorem cell_z (b n : Nat) : b ≤ b + n + 2 ∧ b + n + 2 ≤ b + n + 2 := by omega
theorem zst_lt {h : Heap} {b : Addr} {xs : List (Str × Tok)} {i : Nat} {f0 f1 : Value} (S : ZSt h b xs i f0 f1) : ∀ c ∈ cellsOf b xs.length, ∃ o, h.get? c = some o ∧ ∀ v, o.data ≠ .cell v := fun c hc => by
  rcases split_cells (mem_cellsOf.mp hc) with ⟨j, hj, rfl⟩ | rfl | rfl | rfl
  · obtain ⟨⟨x, t⟩, hx⟩ : ∃ p, xs[j]? = some p := ⟨_, List.getElem?_eq_getElem hj⟩
    obtain ⟨o, ho, _, hd⟩ := S.its j x t hx
    exact ⟨o, ho, fun v q => by rw [hd] at q; cases q⟩
  · exact ⟨_, S.hTI, fun v q => nomatch q⟩
  · obtain ⟨ys, _, e⟩ := S.hTO
    exact ⟨_, e, fun v q => nomatch q⟩
  · exact ⟨_, S.hz, fun v q => nomatch q⟩
theorem zst_keep {h h' : Heap} {b : Addr} {xs : List (Str × Tok)} {i : Nat} {f0 f1 : Value} (S : ZSt h b xs i f0 f1) (k : ∀ c ∈ cellsOf b xs.length, ∀ o, h.get? c = some o → h'.get? c = some o) : ZSt h' b xs i f0 f1 where
  hz := k _ (mem_cellsOf.mpr (cell_z _ _)) _ S.hz
  hTI := k _ (mem_cellsOf.mpr (cell_I _ _)) _ S.hTI
  hTO := let ⟨ys, e1, e2⟩ := S.hTO; ⟨ys, e1, k _ (mem_cellsOf.mpr (cell_T _ _)) _ e2⟩
  its := fun j x t hx => by
    obtain ⟨o, ho, r⟩ := S.its j x t hx
    exact ⟨o, k _ (mem_cellsOf.mpr (cell_j (List.getElem?_eq_some_iff.mp hx).1)) _ ho, r⟩
theorem turn_zipS {P : Program} {w : World} {K : PySem.W.Frag} {x : Str} {tpos : Pos} {b : Addr} {xs : List (Str × Tok)} {n : Nat} (hne : xs ≠ []) (hn : xs.length ≤ 1000) (hs : ∀ p ∈ xs, p.1.cps.size = n) :
    Turn P w K (.Name x tpos) (ItzS (xs.map (·.1)) n) (cellsOf b xs.length) (b + xs.length + 2) (fun i h => i ≤ n ∧ ∃ f0 f1, F01 f0 f1 ∧ ZSt h b xs i f0 f1) where
  mem := mem_cellsOf.mpr (cell_z _ _)
  obj := fun i h st c hc => by
    obtain ⟨_, f0, f1, _, S⟩ := st
    exact zst_lt S c hc
  keep := fun i h h' st k => by
    obtain ⟨hi, f0, f1, hF, S⟩ := st
    exact ⟨hi, f0, f1, hF, zst_keep S k⟩
  item := by
    intro X hP hw hK hc i pins s σ H E I hf st hg
    subst hP hw hK
    obtain ⟨hi, f0, f1, hF, S⟩ := st
    have hlt : i < n := hg
    refine pyNext_item (I.ok.hd hc) hne hn (fun p hp => by rw [hs p hp]; exact hlt) S hF fun h' tk vs f0' f1' hF' hv S' hT hk hsz => ?_
    refine ⟨_, rfl, ?_⟩
    have rv := vals_col hv
    have new : ObjOk X.prog X.w (upd H s.heap.objs.size (.tup (colV (xs.map (·.1)) i))) h' s.heap.objs.size (.tup (colV (xs.map (·.1)) i)) :=
      ⟨by rw [rv.length, hv.1]; exact Nat.le_trans hn (by decide), vs, rv, ⟨_, hT, rfl, _, rfl⟩⟩
    have I1 : Inv X pins σ (upd H s.heap.objs.size (.tup (colV (xs.map (·.1)) i))) { s with heap := h', toks := tk } :=
      I.turnedNew (t' := tk) (ch := cellsOf b xs.length) (fun c o hb q => hk c o (not_cellsOf hb) q) hf (Nat.le_refl _) new
    show wpAny _ _ (pure ()) _ _ _
    refine wpAny_pure ⟨.ref s.heap.objs.size, _, I1, rfl, ⟨_, rfl, I.hok.fresh (Nat.le_refl _), rfl⟩, ⟨hlt, f0', f1', hF', S'⟩, fun c hcm => ?_⟩
    have hlt' : c < s.heap.objs.size := by
      obtain ⟨o, ho, _⟩ := zst_lt S c hcm
      exact Heap.lt_size ho
    rw [upd_ne (Nat.ne_of_lt hlt')]
    exact (hf c hcm).1
  done := by
    intro X hP hw hK hc i pins s σ H E I hf st hg
    subst hP hw hK
    obtain ⟨hi, f0, f1, hF, S⟩ := st
    have hge : n ≤ i := hg
    have e : i = n := Nat.le_antisymm hi hge
    subst e
    cases xs with
    | nil => exact absurd rfl hne
    | cons p r =>
      obtain ⟨y, t⟩ := p
      have hy : y.cps.size = i := hs (y, t) (List.mem_cons_self ..)
      rw [← hy] at S
      exact pyNext_end (I.ok.hd hc) S hF fun h' hk => ⟨rfl, I.turnedL (t' := s.toks) (ch := cellsOf b ((y, t) :: r).length) (fun c o hb q => hk c o (not_cellsOf hb) q) hf⟩
  self := fun A i s Q E st h => by
    obtain ⟨_, f0, f1, _, S⟩ := st
    exact pyIter_z S.hz h
/-- for x in zip( *texts ) -/
def iZipS (K : PySem.W.Frag) (te : TE) : TI := fun σ H R => te σ H fun v H1 => ∃ (p : Addr) (xs : List Str) (n : Nat), v = .ref p ∧ (SqT K H1 p (xs.map V.str) ∨ SqL K H1 p (xs.map V.str)) ∧ xs ≠ [] ∧ xs.length ≤ 1000 ∧ (∀ x ∈ xs, x.cps.size = n) ∧ R (ItzS xs n) H1
theorem zvals_strs : ∀ {xs : List Str} {us : List Value}, Vals (xs.map V.str) us → ∃ ps : List (Str × Tok), us = txts ps ∧ ps.map (·.1) = xs
  | [], _, .nil => ⟨[], rfl, rfl⟩
  | x :: r, _, .cons h t => by
    obtain ⟨tk, rfl⟩ := h
    obtain ⟨ps, rfl, e⟩ := zvals_strs t
    exact ⟨(x, tk) :: ps, rfl, by rw [List.map_cons, e]⟩
theorem pi_zipS {X : Cx} {e : Expr} {te : TE} {y : Str} {p sp pos tpos : Pos} (hg : Gl X "zip") (hm : X.mg "zip" = none) (he : PE X e te)
    (hst : starEach [.Starred e sp] X.env = [(true, eval e X.env)] := by rfl) :
    PI X (.Name y tpos) (.Call (.Name "zip" p) [.Starred e sp] [] pos) (iZipS X.K te) := by
  refine ⟨fun pins s σ H R I h => ?_⟩
  refine Call_ (ld_blt I hg hm PyProof.Rows.boot_zip (callWith_starType (thn (he.run pins s σ H _ I h) fun v s1 ⟨z, H1, I1, r1, q1⟩ => ?_) hst))
  obtain ⟨a, xs, n, ex, hq, hne, hn, hs, q⟩ := q1
  subst ex
  obtain rfl : v = Value.ref a := r1
  refine StX.star_any I1 hq fun us s2 I2 rv => ?_
  obtain ⟨ps, rfl, e1⟩ := zvals_strs rv
  subst e1
  cases ps with
  | nil => exact absurd rfl hne
  | cons p0 r0 =>
    rw [List.length_map] at hn
    refine zip_begins hn fun h' S k => ?_
    refine pyIter_z (s := { s2 with heap := h' }) S.hz ?_
    have I3 : Inv X pins σ H1 { s2 with heap := h' } := I2.kept (t' := s2.toks) k
    refine ⟨s2.heap.objs.size + (p0 :: r0).length + 2, cellsOf s2.heap.objs.size (p0 :: r0).length, _, _, H1, rfl, I3, turn_zipS (List.cons_ne_nil _ _) hn (fun p hp => hs p.1 (List.mem_map_of_mem hp)), ⟨Nat.zero_le _, _, _, ⟨.inl rfl, _, rfl⟩, S⟩, fun c hcm => ?_, q⟩
    have hle := (mem_cellsOf.mp hcm).1
    exact I2.fpOk hle (I2.hok.fresh hle)
end L2
set_option Elab.async false
set_option linter.all false
set_option maxRecDepth 100000
set_option maxHeartbeats 4000000
set_option autoImplicit false
namespace Z
open PySem PySem.Spec PyProof.Rows L2
open C8 (Cal pe_c Mak pe_mk Met pe_mt pe_mt0 pe_gc)
def clsBody : Stmt → List Stmt
  | .ClassDef _ _ _ b _ _ _ _ _ _ _ => b
  | _ => []
def inC (s : Stmt) (i : Nat) : Stmt := (clsBody s).getD i (.Pass ⟨0, 0, 0, 0⟩)
/-- which word an error of a table bears -/
def dueW (d1 d2 d3 : PyData) : Option Str :=
  if twoD 0 d1 = false then some (Str.ofString "starts") else if twoD 1 d2 = false then some (Str.ofString "periods") else
    match itemsD d1, itemsD d2 with
    | some [.int a0, .int a1], some [.int b0, .int b1] => if rowsD (a0 + b0) (a1 + b1) d3 = false then some (Str.ofString "rows") else none
    | _, _ => none
def Small (d : PyData) : Prop := ∀ ds, itemsD d = some ds → ds.length ≤ 800 ∧ ∀ z, PyData.str z ∈ ds → z.length ≤ 800 ∧ PyData.strOk z = true
theorem Small.fine {d : PyData} (h : Small d) : Fine d := fun ds e => by
  obtain ⟨a, b⟩ := h ds e
  exact ⟨by omega, fun z hz => Nat.le_trans (b z hz).1 (by rw [sizeLine_eq]; decide)⟩
theorem two_ints {lo : Int} {d : PyData} (h : twoD lo d = true) : ∃ a b : Int, itemsD d = some [.int a, .int b] ∧ lo ≤ a ∧ lo ≤ b := by
  unfold twoD at h
  cases e : itemsD d with
  | none =>
    rw [e] at h
    cases h
  | some ds =>
    rw [e] at h
    have h' : decide (ds.length = 2) = true ∧ ds.all (geD lo) = true := Bool.and_eq_true_iff.mp h
    match ds, of_decide_eq_true h'.1, h'.2 with
    | [x, y], _, h2 =>
      have h3 : geD lo x = true ∧ geD lo y = true := by simpa using h2
      have key : ∀ x, geD lo x = true → ∃ i, x = .int i ∧ lo ≤ i := fun x hx => by
        cases x with
        | int i => exact ⟨i, rfl, of_decide_eq_true hx⟩
        | none => cases hx
        | bool _ => cases hx
        | str _ => cases hx
        | list _ => cases hx
        | tuple _ => cases hx
        | dict _ => cases hx
      obtain ⟨i, rfl, hi⟩ := key x h3.1
      obtain ⟨j, rfl, hj⟩ := key y h3.2
      exact ⟨i, j, rfl, hi, hj⟩
theorem rows_strs {h n : Int} {d : PyData} (e : rowsD h n d = true) : ∃ zs : List Str, itemsD d = some (zs.map PyData.str) ∧ (zs.length : Int) = h ∧ ∀ z ∈ zs, rowB n z = true := by
  unfold rowsD at e
  cases q : itemsD d with
  | none =>
    rw [q] at e
    cases e
  | some ds =>
    rw [q] at e
    obtain ⟨e1, e2⟩ : decide ((ds.length : Int) = h) = true ∧ ds.all (rowD n) = true := Bool.and_eq_true_iff.mp e
    have key : ∀ ds : List PyData, ds.all (rowD n) = true → ∃ zs : List Str, ds = zs.map PyData.str ∧ ∀ z ∈ zs, rowB n z = true := fun ds => by
      induction ds with
      | nil => exact fun _ => ⟨[], rfl, fun _ h => nomatch h⟩
      | cons x ds ih =>
        intro hh
        rw [List.all_cons] at hh
        obtain ⟨h1, h2⟩ := Bool.and_eq_true_iff.mp hh
        obtain ⟨zs, rfl, hz⟩ := ih h2
        cases x with
        | str z =>
          refine ⟨z :: zs, rfl, fun y hy => ?_⟩
          rcases List.mem_cons.mp hy with q | q
          · rw [q]
            exact h1
          · exact hz y q
        | int _ => cases h1
        | none => cases h1
        | bool _ => cases h1
        | list _ => cases h1
        | tuple _ => cases h1
        | dict _ => cases h1
    obtain ⟨zs, rfl, hz⟩ := key ds e2
    exact ⟨zs, rfl, by rw [List.length_map] at e1; exact of_decide_eq_true e1, hz⟩
theorem rowB_isrow {n : Nat} {z : Str} (h : rowB (n : Int) z = true) : IsRow n z := by
  obtain ⟨h1, h2⟩ : decide ((z.length : Int) = (n : Int)) = true ∧ (z.cps.toList.all fun c => decide (c = 43 ∨ c = 45)) = true := Bool.and_eq_true_iff.mp h
  have := of_decide_eq_true h1
  exact ⟨by omega, fun c hc => of_decide_eq_true (List.all_eq_true.mp h2 c hc)⟩
theorem isrow_ok {n : Nat} {z : Str} (h : IsRow n z) : PyData.strOk z = true := by
  show z.cps.all (fun c => decide (c < 0x110000)) = true
  rw [← Array.all_toList, List.all_eq_true]
  intro c hc
  rcases h.2 c hc with rfl | rfl <;> decide
theorem dpAll_strV {K : PySem.W.Frag} {H : Hp} : ∀ {zs : List Str} {vs : List V}, DpAll K H vs (zs.map PyData.str) → vs = zs.map V.str
  | [], _, .nil => rfl
  | z :: zs, _, .cons (.str _) t => by rw [dpAll_strV t]; rfl
theorem dp_two {K : PySem.W.Frag} {H : Hp} {v : V} {d : PyData} {a b : Int} (h : Dp K H v d) (e : itemsD d = some [.int a, .int b]) :
    ∃ (k : Kd) (p : Addr), v = .ref p ∧ sqK k K H p [.int a, .int b] := by
  obtain ⟨p, xs, rfl, ha, hs⟩ := dp_items h e
  have hx : xs = [.int a, .int b] := by
    cases ha with
    | cons h1 t =>
      cases t with
      | cons h2 t2 =>
        cases t2
        cases h1
        cases h2
        rfl
  subst hx
  rcases hs with ⟨_, hs⟩ | ⟨_, hs⟩
  · exact ⟨.l, p, rfl, hs⟩
  · exact ⟨.t, p, rfl, hs⟩
theorem dp_strs {K : PySem.W.Frag} {H : Hp} {v : V} {d : PyData} {zs : List Str} (h : Dp K H v d) (e : itemsD d = some (zs.map PyData.str)) :
    ∃ (k : Kd) (p : Addr), v = .ref p ∧ sqK k K H p (zs.map V.str) := by
  obtain ⟨p, xs, rfl, ha, hs⟩ := dp_items h e
  have hx := dpAll_strV ha
  subst hx
  rcases hs with ⟨_, hs⟩ | ⟨_, hs⟩
  · exact ⟨.l, p, rfl, hs⟩
  · exact ⟨.t, p, rfl, hs⟩
theorem ixV {k : Kd} {K : PySem.W.Frag} {H : Hp} {a : Addr} {xs : List V} {i : Int} {j : Nat} {x : V} {Q : VK} (h : sqK k K H a xs) (e : i = (j : Int)) (hx : xs[j]? = some x) (q : Q x H) :
    rIx K (.ref a) (.int i) H Q := by
  cases k with
  | l => exact .inl ⟨a, _, i, _, rfl, rfl, h, at_of (j := j) e hx, q⟩
  | t => exact .inr (.inl ⟨a, _, i, _, rfl, rfl, h, at_of (j := j) e hx, q⟩)
theorem cut_start (xs : List Str) (j : Nat) (hj : j ≤ xs.length) : cutV (xs.map V.str) none (some (j : Int)) = (xs.take j).map V.str := by
  unfold cutV
  rw [HT.sIx_nat, HT.sIx_none, List.length_map, Nat.min_eq_left hj, List.drop_zero, Nat.sub_zero, List.map_take]
/-- the columns of some rows -/
def colS (xs : List Str) (i : Nat) : List Str := xs.map fun x => ⟨#[x.cps.getD i 0]⟩
theorem colV_S (xs : List Str) (i : Nat) : colV xs i = (colS xs i).map V.str := by
  unfold colV colS
  rw [List.map_map]
  rfl
def colT (xs : List Str) (i : Nat) : Str := Txt.join ⟨#[]⟩ (colS xs i)
theorem col_sign {xs : List Str} {n i : Nat} (h : ∀ x ∈ xs, IsRow n x) (hi : i < n) : ∀ y ∈ colS xs i, IsSign y := fun y hy => by
  obtain ⟨x, hx, rfl⟩ := List.mem_map.mp hy
  obtain ⟨l, a⟩ := h x hx
  have l2 : i < x.cps.size := by
    have : x.cps.size = n := l
    omega
  have m : x.cps.getD i 0 ∈ x.cps.toList := by
    rw [Array.getD_eq_getD_getElem?, Array.getElem?_eq_getElem l2]
    simp
  rcases a _ m with e | e
  · rw [e]
    exact .inl rfl
  · rw [e]
    exact .inr rfl
theorem walk_zipS {xs : List Str} {n : Nat} : Walk (ItzS xs n) n (fun _ => True) (fun i H v H' => ∃ T, v = .ref T ∧ H T = none ∧ H' = upd H T (.tup (colV xs i))) :=
  ⟨fun i H h _ => h, fun H _ => Nat.le_refl _, fun i H x H' _ _ y => y⟩
/-- the error that tells what is wrong of a table -/
structure Bad (P : Program) (w : World) (K : PySem.W.Frag) (mg : Str → Option Value) (base : Heap) (CI : Addr) : Prop where
  T : OexC K CI
  gC : mg "InvalidCrowds" = some (.ref CI)
  ini : ∃ (fI : Addr) (fd : FuncData), PySem.W.findIn K (.ref CI) "__init__" = some (some (.ref fI)) ∧ PySem.W.typeIn K (.ref fI) = some (.type "function") ∧
    FnOk P w K mg base CX0 1 fI fd ["self", "word"] (spErrInit CI "word") ∧ Binds K fd ["self", "word"] []
/-- the class of sets -/
structure CrC (K : PySem.W.Frag) (C : Addr) : Prop where
  c : Cls K C
  n1 : NoAttr K C "starts"
  n2 : NoAttr K C "periods"
  n3 : NoAttr K C "rows"
theorem raise_end {CI : Addr} {wd : Str} {H : Hp} {E : XK} (h : ∀ d H', Sm H H' → H' d = some (.xd [("word", .str wd)]) → E (.ref CI) (some d) H') (a : Addr) (na : H a = none) :
    spErrInit CI "word" [.ref a, .str wd] (upd H a (exo a CI none))
      (fun v H2 => v = .non ∧ ∃ (d : Addr) (fs : List (Str × V)), H2 a = some (exo a CI (some d)) ∧ H2 d = some (exd d fs) ∧ H d = none ∧ E (.ref CI) (some d) (upd (del H2 a) d (.xd fs))) (fun _ _ _ => False) := by
  refine ⟨a, .str wd, rfl, upd_same, fun dx ndx ne => ⟨rfl, dx, [("word", .str wd)], upd_same, by rw [upd_ne ne]; exact upd_same, ?_, ?_⟩⟩
  · rw [upd_ne ne] at ndx
    exact ndx
  · rw [upd_ne ne] at ndx
    refine h dx _ (fun b o hb => ?_) upd_same
    have n1 : b ≠ a := fun z => by
      rw [z, na] at hb
      cases hb
    have n2 : b ≠ dx := fun z => by
      rw [z, ndx] at hb
      cases hb
    rw [upd_ne n2, del_ne n1, upd_ne n1, upd_ne n2, upd_ne n1]
    exact hb
theorem sqK_upd {k : Kd} {K : PySem.W.Frag} {H : Hp} {a p C dx : Addr} {fs : List (Str × V)} {o : HO} {xs : List V} (h : sqK k K H p xs) (ha : H a = some (.ins C dx fs)) : sqK k K (upd H a o) p xs := by
  cases k with
  | l =>
    rcases h with (h | ⟨u, h⟩) | h
    · exact .inl (.inl (by rw [upd_ne (fun z => by rw [z, ha] at h; cases h)]; exact h))
    · exact .inl (.inr ⟨u, by rw [upd_ne (fun z => by rw [z, ha] at h; cases h)]; exact h⟩)
    · exact .inr h
  | t =>
    rcases h with (h | ⟨u, h⟩) | h
    · exact .inl (.inl (by rw [upd_ne (fun z => by rw [z, ha] at h; cases h)]; exact h))
    · exact .inl (.inr ⟨u, by rw [upd_ne (fun z => by rw [z, ha] at h; cases h)]; exact h⟩)
    · exact .inr h
/-- all but one address is kept -/
def Kp (a : Addr) (H H' : Hp) : Prop := ∀ b o, b ≠ a → H b = some o → H' b = some o
theorem Kp.sm {a : Addr} {H H1 H2 : Hp} (h : Kp a H H1) (e : Sm H1 H2) : Kp a H H2 := fun b o n x => e b o (h b o n x)
theorem Kp.of {a : Addr} {H H1 : Hp} (e : Sm H H1) : Kp a H H1 := fun b o _ x => e b o x
theorem Kp.put {a : Addr} {H H1 : Hp} {o : HO} (h : Kp a H H1) : Kp a H (upd H1 a o) := fun b u n x => by
  rw [upd_ne n]
  exact h b u n x
/-- join inside a comprehension -/
def rJoin (K : PySem.W.Frag) : V → List V → Hp → VK → Prop := fun x xs H Q => ∃ a p, ∃ ys : List Str, x = .str a ∧ xs = [.ref p] ∧ (SqL K H p (ys.map V.str) ∨ SqT K H p (ys.map V.str)) ∧
  (ys.map (·.length)).sum + ys.length * a.length ≤ 16777216 ∧ Q (.str (Txt.join a ys)) H
theorem pe_joinK {X : Cx} (K : PySem.W.Frag) {o e : Expr} {to te : TE} {apos pos : Pos} (ho : PE X o to) (he : PE X e te) (hs : starEach [e] X.env = [(false, eval e X.env)] := by rfl)
    (hbase : attributeBase o "join" X.env (eval o X.env) = eval o X.env := by rfl) (hline : (apos.endLine == pos.line) = true := by rfl) (hK : X.K = K := by rfl) :
    PE X (.Call (.Attribute o "join" apos) [e] [] pos) (tM1 (rJoin K) to te) := by
  subst hK
  exact pe_join ho he hs hbase hline
section
variable {P : Program} {w : World} {K : PySem.W.Frag} {mg : Str → Option Value} {base : Heap} {CI C : Addr}
abbrev s_init : Stmt := inC (topS 15) 0
abbrev n_init : List Str := ["self", "starts", "periods", "rows", "down", "step_down", "kept", "columns", "column", "across", "step_across", "row"]
abbrev p_init : List Str := ["self", "starts", "periods", "rows"]
theorem sc_init : FnScope n_init p_init (defScope s_init) := ⟨rfl, rfl, rfl, by decide +kernel, rfl, by decide +kernel, by decide +kernel⟩
structure Bt4 (mg : Str → Option Value) : Prop extends Bt3 mg where
  n_zip : mg "zip" = none
def spInitC (K : PySem.W.Frag) (CI C : Addr) : Sp := fun vs H Q E => ∃ (a dx : Addr) (v1 v2 v3 : V) (d1 d2 d3 : PyData), vs = [.ref a, v1, v2, v3] ∧ H a = some (.ins C dx []) ∧
  Dp K H v1 d1 ∧ Dp K H v2 d2 ∧ Dp K H v3 d3 ∧ Small d1 ∧ Small d2 ∧ Small d3 ∧
  (∀ wd, dueW d1 d2 d3 = some wd → ∀ d H', Sm H H' → H' d = some (.xd [("word", .str wd)]) → E (.ref CI) (some d) H') ∧
  (dueW d1 d2 d3 = none → ∀ H', (∀ b o, b ≠ a → H b = some o → H' b = some o) → Q .non H')
theorem ok_init {f : Addr} {fd : FuncData} (F : Fun K "__init__" "Crowds.__init__" s_init f fd) (T : Bt4 mg) (B : Bad P w K mg base CI) (CC : CrC K C)
    (C2 : Cal P w K mg base 3 "_are_two_from" (spTwo K) []) (Cr : Cal P w K mg base 3 "_are_rows" (spRows K) []) (Cl : Cal P w K mg base 1 "_least_round" (spLR K) []) :
    FnOk P w K mg base (L2.CX P w) 4 f fd p_init (spInitC K CI C) := by
  obtain ⟨fI, fdI, i1, i2, FI, bI⟩ := B.ini
  refine F.okX sc_init (fun vs H Q E h => ?_) (fun cdv A outer s H vs Q E hr h => ?_)
  · obtain ⟨a, dx, v1, v2, v3, d1, d2, d3, rfl, _⟩ := h
    rfl
  · obtain ⟨a, dx, v1, v2, v3, d1, d2, d3, rfl, ha, h1, h2, h3, f1, f2, f3, qE, qN⟩ := h
    have hr2 : Room 2 _ := hr.mono (by decide)
    refine ⟨_, (pss_cons (ps_if (pt_not (pt_val (pe_c C2 hr (by decide) (by rfl) (pa_cons pe_int (pa_cons (pv 1) pa_nil)))))
        (pss_one (ps_raise rfl (takes_of rfl rfl rfl rfl) (pmk_oex B.T i1 i2 FI hr2 bI .nil pass0 (by rfl) B.gC (pa_cons pe_str pa_nil))))
        pss_nil)
      (pss_cons (ps_if (pt_not (pt_val (pe_c C2 hr (by decide) (by rfl) (pa_cons pe_int (pa_cons (pv 2) pa_nil)))))
        (pss_one (ps_raise rfl (takes_of rfl rfl rfl rfl) (pmk_oex B.T i1 i2 FI hr2 bI .nil pass0 (by rfl) B.gC (pa_cons pe_str pa_nil))))
        pss_nil)
      (pss_cons (ps_if (pt_not (pt_val (pe_c Cr hr (by decide) (by rfl) (pa_cons (pv 3) (pa_cons (pe_op op_add (pe_ix ix_seq (pv 1) pe_int (fun _ _ => rfl)) (pe_ix ix_seq (pv 2) pe_int (fun _ _ => rfl))) (pa_cons (pe_op op_add (pe_ix ix_seq (pv 1) pe_int (fun _ _ => rfl)) (pe_ix ix_seq (pv 2) pe_int (fun _ _ => rfl))) pa_nil))))))
        (pss_one (ps_raise rfl (takes_of rfl rfl rfl rfl) (pmk_oex B.T i1 i2 FI hr2 bI .nil pass0 (by rfl) B.gC (pa_cons pe_str pa_nil))))
        pss_nil)
      (pss_cons (ps_asg (pe_c Cl hr (by decide) (by rfl) (pa_cons (pv 3) (pa_cons (pe_ix ix_seq (pv 1) pe_int (fun _ _ => rfl)) pa_nil))) (pg_tup rfl (pgs_cons (pg_name (i := 4) sc_init.nd rfl (Or.inl rfl)) (pgs_cons (pg_name (i := 5) sc_init.nd rfl (Or.inl rfl)) pgs_nil))))
      (pss_cons (ps_set (i := 6) sc_init.nd rfl (Or.inl rfl) (pe_slice (sl_or sl_list sl_tupA) (pv 3) po_none (po_some (pe_op op_add (pv 4) (pv 5)))))
      (pss_cons (ps_setLc (i := 7) (own := [("column", 8)]) (tt := tYes) (by rfl) sc_init.nd rfl rfl (sw_true rfl rfl rfl (by decide +kernel)) (pi_zipS (by rfl) T.n_zip (pv 6)) (blkOk_by (N := n_init) (sc := defScope s_init) (own := [("column", 8)]) (by decide +kernel)) (fun _ _ _ _ _ => pg_name (i := 8) sc_init.nd rfl (Or.inl rfl)) (fun _ _ _ _ _ => pts_nil) (fun _ _ _ _ _ => (pe_joinK K pe_str (pv 8))))
      (pss_cons (ps_asg (pe_c Cl hr (by decide) (by rfl) (pa_cons (pv 7) (pa_cons (pe_ix ix_seq (pv 1) pe_int (fun _ _ => rfl)) pa_nil))) (pg_tup rfl (pgs_cons (pg_name (i := 9) sc_init.nd rfl (Or.inr rfl)) (pgs_cons (pg_name (i := 10) sc_init.nd rfl (Or.inr rfl)) pgs_nil))))
      (pss_cons (ps_fld (pv 0) (pe_tup (pa_cons (pv 4) (pa_cons (pv 9) pa_nil))) rfl)
      (pss_cons (ps_fld (pv 0) (pe_tup (pa_cons (pv 5) (pa_cons (pv 10) pa_nil))) rfl)
      (pss_one (ps_fld (pv 0) (pe_callTy call_tuple_of (by rfl) T.n_tuple (by decide +kernel) (pa_cons (pe_lc (own := [("row", 11)]) (tt := tYes) (by rfl) sc_init.nd (pi_or (pi_list (pv 6)) (pi_tup (pv 6))) (blkOk_by (N := n_init) (sc := defScope s_init) (own := [("row", 11)]) (by decide +kernel)) (fun _ _ _ _ _ => pg_name (i := 11) sc_init.nd rfl (Or.inl rfl)) (fun _ _ _ _ _ => pts_nil) (fun _ _ _ _ _ => (pe_slice sl_str (pv 11) po_none (po_some (pe_op op_add (pv 9) (pv 10)))))) pa_nil)) rfl))))))))))), ?_⟩
    refine ⟨_, rfl, 0, v1, d1, rfl, h1, fun ds e => Nat.le_trans (f1 ds e).1 (by decide), fun H1 s1 => ⟨_, rfl, iteB (fun hb => ?_) (fun hb => ?_)⟩⟩
    · have e : dueW d1 d2 d3 = some (Str.ofString "starts") := by
        unfold dueW
        rw [if_pos (by simpa using hb)]
      exact ⟨(by show 1 ≤ 1000; decide), fun a' na => raise_end (fun d H' s' e' => qE _ e d H' (s1.trans s') e') a' na⟩
    have t1 : twoD 0 d1 = true := by simpa using hb
    refine ⟨_, rfl, 1, v2, d2, rfl, dp_mono s1 h2, fun ds e => Nat.le_trans (f2 ds e).1 (by decide), fun H2 s2 => ⟨_, rfl, iteB (fun hb => ?_) (fun hb => ?_)⟩⟩
    · have e : dueW d1 d2 d3 = some (Str.ofString "periods") := by
        unfold dueW
        rw [if_neg (by rw [t1]; decide), if_pos (by simpa using hb)]
      exact ⟨(by show 1 ≤ 1000; decide), fun a' na => raise_end (fun d H' s' e' => qE _ e d H' ((s1.trans s2).trans s') e') a' na⟩
    have t2 : twoD 1 d2 = true := by simpa using hb
    have s12 := s1.trans s2
    obtain ⟨a0, a1, i1e, l0, l1⟩ := two_ints t1
    obtain ⟨b0, b1, i2e, m0, m1⟩ := two_ints t2
    obtain ⟨k1, p1, rfl, q1⟩ := dp_two h1 i1e
    obtain ⟨k2, p2, rfl, q2⟩ := dp_two h2 i2e
    refine ⟨_, rfl, _, rfl, ixV (sqK_sm s12 q1) (j := 0) rfl rfl ⟨_, rfl, ixV (sqK_sm s12 q2) (j := 0) rfl rfl ⟨_, _, rfl, rfl, _, rfl, ixV (sqK_sm s12 q1) (j := 1) rfl rfl ⟨_, rfl, ixV (sqK_sm s12 q2) (j := 1) rfl rfl ⟨_, _, rfl, rfl,
      a0 + b0, a1 + b1, v3, d3, rfl, dp_mono s12 h3, f3.fine, fun H3 s3 => ⟨_, rfl, iteB (fun hb => ?_) (fun hb => ?_)⟩⟩⟩⟩⟩⟩
    · have e : dueW d1 d2 d3 = some (Str.ofString "rows") := by
        unfold dueW
        rw [if_neg (by rw [t1]; decide), if_neg (by rw [t2]; decide), i1e, i2e]
        exact if_pos (by simpa using hb)
      exact ⟨(by show 1 ≤ 1000; decide), fun a' na => raise_end (fun d H' s' e' => qE _ e d H' ((s12.trans s3).trans s') e') a' na⟩
    have t3 : rowsD (a0 + b0) (a1 + b1) d3 = true := by simpa using hb
    have eN : dueW d1 d2 d3 = none := by
      unfold dueW
      rw [if_neg (by rw [t1]; decide), if_neg (by rw [t2]; decide), i1e, i2e]
      exact if_neg (by rw [t3]; decide)
    obtain ⟨zs, i3e, zl, zr⟩ := rows_strs t3
    obtain ⟨k3, p3, rfl, q3⟩ := dp_strs h3 i3e
    obtain ⟨n0, rfl⟩ := Int.eq_ofNat_of_zero_le l0
    obtain ⟨n1, rfl⟩ := Int.eq_ofNat_of_zero_le l1
    obtain ⟨c0, rfl⟩ := Int.eq_ofNat_of_zero_le (show 0 ≤ b0 by omega)
    obtain ⟨c1, rfl⟩ := Int.eq_ofNat_of_zero_le (show 0 ≤ b1 by omega)
    have zlen : zs.length = n0 + c0 := by omega
    have z800 : zs.length ≤ 800 := by
      have := (f3 _ i3e).1
      rw [List.length_map] at this
      exact this
    have zrow : ∀ z ∈ zs, IsRow (n1 + c1) z := fun z hz => rowB_isrow (by
      have := zr z hz
      rw [show ((n1 + c1 : Nat) : Int) = (n1 : Int) + (c1 : Int) by omega]
      exact this)
    have w800 : n1 + c1 ≤ 800 := by
      have hz : 0 < zs.length := by omega
      have mem := List.getElem_mem hz
      have := ((f3 _ i3e).2 zs[0] (List.mem_map.mpr ⟨_, mem, rfl⟩)).1
      rw [(zrow _ mem).1] at this
      exact this
    have s13 := s12.trans s3
    refine ⟨_, rfl, _, rfl, ixV (sqK_sm s13 q1) (j := 0) rfl rfl ⟨k3, p3, zs, n0, rfl, sqK_sm s13 q3, by omega, by omega, fun z hz => isrow_ok (zrow z hz), fun t sA pA H4 R1 s4 e4 => ?_⟩⟩
    refine ⟨t, _, rfl, .inl (.inl e4), rfl, _, _, rfl, _, _, rfl, rfl, ?_⟩
    have s14 := s13.trans s4
    refine ⟨_, rfl, _, rfl, _, rfl, _, _, rfl, rfl, _, rfl, sl_pure (sqK_sm s14 q3) fun pk H5 s5 k5 => ?_⟩
    have hsp : sA + pA ≤ zs.length := by
      have := R1.s1
      have := R1.p2
      omega
    have c5 : sqK k3 K H5 pk ((zs.take (sA + pA)).map V.str) := by
      have e := cut_start zs (sA + pA) hsp
      rw [← e]
      exact k5
    have krow : ∀ z ∈ zs.take (sA + pA), IsRow (n1 + c1) z := fun z hz => zrow z (List.mem_of_mem_take hz)
    have klen : (zs.take (sA + pA)).length = sA + pA := by
      rw [List.length_take]
      omega
    have kpos : 0 < (zs.take (sA + pA)).length := by
      have := R1.p1
      omega
    generalize zs.take (sA + pA) = kept at c5 krow klen kpos
    have s15 := s14.trans s5
    have seqK : ∀ {H' : Hp}, sqK k3 K H' pk (kept.map V.str) → (SqT K H' pk (kept.map V.str) ∨ SqL K H' pk (kept.map V.str)) := fun {H'} e => by
      cases k3 with
      | l => exact .inr e
      | t => exact .inl e
    have k800 : kept.length ≤ 800 := by omega
    -- the columns
    refine ⟨_, rfl, pk, kept, n1 + c1, rfl, seqK c5, fun e => (by rw [e] at kpos; exact absurd kpos (by decide)), by omega, fun x hx => (krow x hx).1, fun D hD => ?_⟩
    refine lc_it walk_zipS (fun i H6 => Sm H5 H6 ∧ H6 D = some (.lst ((List.range i).map fun j => V.str (colT kept j)))) ?_ (fun _ _ _ _ => True.intro) ?_ ?_
    · exact ⟨Sm.new hD, upd_same⟩
    · rintro i x H6 H7 hi ⟨s6, e6⟩ ⟨T', rfl, hT, rfl⟩
      have sg := col_sign krow hi
      have s7 : Sm H6 (upd H6 T' (.tup (colV kept i))) := Sm.new hT
      refine ⟨rfl, ⟨_, rfl⟩, _, rfl, _, T', colS kept i, rfl, rfl, .inr (.inl (.inl (by rw [upd_same, colV_S]))), ?_, _, s7 _ _ e6, small1000 (by rw [List.length_map, List.length_range]; omega), sm_put (s6.trans s7) hD, ?_⟩
      · rw [sum_signs _ sg]
        have l : (colS kept i).length = kept.length := List.length_map _
        show (colS kept i).length + (colS kept i).length * 0 ≤ 16777216
        omega
      · rw [upd_same, List.range_succ, List.map_append]
        rfl
    rintro H6 ⟨s6, e6⟩
    have ecols : (List.range (n1 + c1)).map (fun j => V.str (colT kept j)) = ((List.range (n1 + c1)).map (colT kept)).map V.str := by
      rw [List.map_map]
      rfl
    rw [ecols] at e6
    have clen : ((List.range (n1 + c1)).map (colT kept)).length = n1 + c1 := by
      rw [List.length_map, List.length_range]
    have cgood : Good ((List.range (n1 + c1)).map (colT kept)) := fun z hz => by
      obtain ⟨j, hj, rfl⟩ := List.mem_map.mp hz
      exact isrow_ok (isrow_join _ (col_sign krow (List.mem_range.mp hj)))
    generalize (List.range (n1 + c1)).map (colT kept) = cols at e6 clen cgood
    have s16 := s15.trans s6
    refine ⟨_, rfl, _, rfl, ixV (sqK_sm s16 q1) (j := 1) rfl rfl ⟨.l, D, cols, n1, rfl, .inl (.inl e6), by omega, by omega, cgood, fun tt sB pB H7 R2 s7 e7 => ?_⟩⟩
    refine ⟨tt, _, rfl, .inl (.inl e7), rfl, _, _, rfl, _, _, rfl, rfl, ?_⟩
    have s17 := s16.trans s7
    -- what is kept
    refine ⟨_, rfl, _, rfl, (show 2 ≤ sizeLine by decide), fun o1 ho1 => ⟨_, rfl, a, C, dx, [], rfl, (s17.trans (Sm.new ho1)) _ _ ha, CC.c, CC.n1, (by show 0 < 1000; decide), ?_⟩⟩
    have s18 := s17.trans (Sm.new (o := .tup [.int sA, .int sB]) ho1)
    have k8 : sqK k3 K (upd H7 o1 (.tup [.int sA, .int sB])) pk (kept.map V.str) := sqK_sm ((s6.trans s7).trans (Sm.new ho1)) c5
    have ha8 := s18 _ _ ha
    generalize upd H7 o1 (.tup [.int sA, .int sB]) = H8 at s18 k8 ha8 ⊢
    have k9 := sqK_upd (o := .ins C dx (putF "starts" (.ref o1) [])) k8 ha8
    have kp9 : Kp a H (upd H8 a (.ins C dx (putF "starts" (.ref o1) []))) := (Kp.of s18).put
    have ha9 : upd H8 a (.ins C dx (putF "starts" (.ref o1) [])) a = some (.ins C dx (putF "starts" (.ref o1) [])) := upd_same
    generalize upd H8 a (.ins C dx (putF "starts" (.ref o1) [])) = H9 at k9 kp9 ha9 ⊢
    refine ⟨_, rfl, _, rfl, (show 2 ≤ sizeLine by decide), fun o2 ho2 => ⟨_, rfl, a, C, dx, _, rfl, Sm.new ho2 _ _ ha9, CC.c, CC.n2, (by show 1 < 1000; decide), ?_⟩⟩
    have k10 : sqK k3 K (upd H9 o2 (.tup [.int pA, .int pB])) pk (kept.map V.str) := sqK_sm (Sm.new ho2) k9
    have kp10 : Kp a H (upd H9 o2 (.tup [.int pA, .int pB])) := kp9.sm (Sm.new ho2)
    have ha10 : upd H9 o2 (.tup [.int pA, .int pB]) a = some (.ins C dx (putF "starts" (.ref o1) [])) := Sm.new ho2 _ _ ha9
    generalize upd H9 o2 (.tup [.int pA, .int pB]) = H10 at k10 kp10 ha10 ⊢
    have k11 := sqK_upd (o := .ins C dx (putF "periods" (.ref o2) (putF "starts" (.ref o1) []))) k10 ha10
    have kp11 : Kp a H (upd H10 a (.ins C dx (putF "periods" (.ref o2) (putF "starts" (.ref o1) [])))) := kp10.put
    have ha11 : upd H10 a (.ins C dx (putF "periods" (.ref o2) (putF "starts" (.ref o1) []))) a = some (.ins C dx (putF "periods" (.ref o2) (putF "starts" (.ref o1) []))) := upd_same
    generalize upd H10 a (.ins C dx (putF "periods" (.ref o2) (putF "starts" (.ref o1) []))) = H11 at k11 kp11 ha11 ⊢
    cases k3
    · refine .inl ⟨_, rfl, pk, rfl, ⟨_, k11⟩, fun L hL => lc_list (K := K) (a := pk) (xs := kept.map V.str) (fun i H12 => Sm H11 H12 ∧ H12 L = some (.lst ((kept.take i).map fun z => V.str (cutS z none (some ((sB : Int) + (pB : Int))))))) ?_ ?_ ?_ ?_⟩
      · exact ⟨Sm.new hL, upd_same⟩
      · exact fun i H12 _ h => h.1.seq k11
      · rintro i x H12 hx ⟨s12, e12⟩
        obtain ⟨z, hz, rfl⟩ := List.getElem?_map_some hx
        have zl := (krow z (List.mem_of_getElem? hz)).1
        refine ⟨rfl, _, rfl, _, rfl, _, rfl, _, _, rfl, rfl, _, rfl, z, rfl, by rw [zl, sizeLine_eq]; omega, _, e12, small1000 (by rw [List.length_map, List.length_take]; omega), sm_put s12 hL, ?_⟩
        rw [upd_same, take_snoc (fun z => V.str (cutS z none (some ((sB : Int) + (pB : Int))))) hz]
      · rintro H12 ⟨s12, e12⟩
        refine ⟨L, _, rfl, .inl ⟨.inl (.inl e12), fun l hl => ⟨_, rfl, a, C, dx, _, rfl, Sm.new hl _ _ (s12 _ _ ha11), CC.c, CC.n3, (by show 2 < 1000; decide), qN eN _ ((kp11.sm (s12.trans (Sm.new hl))).put)⟩⟩⟩
    · refine .inr ⟨_, rfl, pk, rfl, ⟨_, k11⟩, fun L hL => lc_tup (K := K) (a := pk) (xs := kept.map V.str) (fun i H12 => Sm H11 H12 ∧ H12 L = some (.lst ((kept.take i).map fun z => V.str (cutS z none (some ((sB : Int) + (pB : Int))))))) ?_ ?_ ?_ ?_⟩
      · exact ⟨Sm.new hL, upd_same⟩
      · exact fun i H12 _ h => h.1.tup k11
      · rintro i x H12 hx ⟨s12, e12⟩
        obtain ⟨z, hz, rfl⟩ := List.getElem?_map_some hx
        have zl := (krow z (List.mem_of_getElem? hz)).1
        refine ⟨rfl, _, rfl, _, rfl, _, rfl, _, _, rfl, rfl, _, rfl, z, rfl, by rw [zl, sizeLine_eq]; omega, _, e12, small1000 (by rw [List.length_map, List.length_take]; omega), sm_put s12 hL, ?_⟩
        rw [upd_same, take_snoc (fun z => V.str (cutS z none (some ((sB : Int) + (pB : Int))))) hz]
      · rintro H12 ⟨s12, e12⟩
        refine ⟨L, _, rfl, .inl ⟨.inl (.inl e12), fun l hl => ⟨_, rfl, a, C, dx, _, rfl, Sm.new hl _ _ (s12 _ _ ha11), CC.c, CC.n3, (by show 2 < 1000; decide), qN eN _ ((kp11.sm (s12.trans (Sm.new hl))).put)⟩⟩⟩
end
end Z
set_option Elab.async false
set_option linter.all false
set_option maxRecDepth 100000
set_option maxHeartbeats 4000000
set_option autoImplicit false
namespace L2
open PySem PySem.Spec PyProof.Rows
/-- C(e, ..), whose __init__ may let out an error, at the slots σ -/
def tMakeS (C : Addr) (sp : Sp) (E : St → XK) (t : TA) : TE := fun σ H Q => t σ H fun vs H1 => ∀ x dx, H1 x = none → H1 dx = none → dx ≠ x →
  sp (.ref x :: vs) (upd (upd H1 dx (.own x)) x (.ins C dx [])) (fun v H2 => v = .non ∧ Q (.ref x) H2) (E σ)
section
variable {X : Cx} {CX : CXT} {k : Nat} {f C : Addr} {fd : FuncData} {ps : List Str} {sp : Sp} {E : St → XK} {x : Str} {p pos : Pos} {e : Expr} {es : List Expr} {t : TA}
theorem pe_makeS (M : Mk X.K C f) (F : FnOk X.prog X.w X.K X.mg X.base CX k f fd ps sp) (hr : Room (k + 1) X.A) (hg : Gl X x) (hm : X.mg x = some (.ref C)) (hb : Binds X.K fd ps []) (hx : ∀ σ, PassesAt CX X σ (E σ))
    (ha : PA X (e :: es) t) (hdb : (x == ("__debug__" : Str)) = false := by decide) (he : starEach (e :: es) X.env = (false, eval e X.env) :: starEach es X.env := by rfl)
    (hpl : (backTo pos (starEach es X.env)).any (·.1) = false := by rfl) : PE X (.Call (.Name x p) (e :: es) [] pos) (tMakeS C sp E t) := by
  refine ⟨fun pins s σ H Q I h => ?_⟩
  refine wpAny_Call_Name_kw (ld_glob I hg hm ?_ hdb)
  refine PySem.W.callWith_K (h₀ := X.base) I.ok.mod.kin M.kp (thn (ha.run pos pins s σ H _ I h) fun us s1 ⟨vs, H1, I1, r, q⟩ => ⟨I1.kIn, ?_⟩) he hpl
  have q' := q (s1.heap.objs.size + 1) s1.heap.objs.size (I1.hok.fresh (Nat.le_succ _)) (I1.hok.fresh (Nat.le_refl _)) (Nat.ne_of_lt (Nat.lt_succ_self _))
  have J := Inv.made (C := C) I1
  have rv : Vals (V.ref (s1.heap.objs.size + 1) :: vs) (Value.ref (s1.heap.objs.size + 1) :: us) := .cons rfl r
  have len : (Value.ref (s1.heap.objs.size + 1) :: us).length = ps.length := by
    rw [← F.len _ _ _ _ q']
    exact rv.length.symm
  have bnd := hb _ (Value.ref (s1.heap.objs.size + 1) :: us) J.kIn (by rw [List.append_nil]; exact len)
  rw [List.append_nil] at bnd
  have run := F.run (X.A.under (.builtin "type.__call__" ⟨.ref C :: us, []⟩)) X.stack _ _ ⟨Value.ref (s1.heap.objs.size + 1) :: us, []⟩ (Value.ref (s1.heap.objs.size + 1) :: us) _ _ (E σ)
    (hr.make C us []) (J.env0.make C us []) bnd rv q'
  refine wpAny_call (make_map (f := f) I1.kIn M.makes M.init (beq_iff_eq.mp M.fn) (codeAny_mono run fun r s' hq => ?_))
  cases r with
  | error er => exact hx σ pins _ _ er s' J hq
  | ok fl =>
    cases fl with
    | ret u =>
      obtain ⟨v, H', I3, ru, ev, q3⟩ := J.after hq
      subst ev
      exact ⟨ru, ⟨V.ref (s1.heap.objs.size + 1), H', I3, rfl, q3⟩⟩
    | next => exact False.elim hq
    | brk => exact False.elim hq
    | cont => exact False.elim hq
end
end L2
namespace Z
open PySem PySem.Spec PyProof.Rows L2
open C8 (Cal pe_c Mak pe_mk Met pe_mt pe_mt0 pe_gc)
section
variable {P : Program} {w : World} {K : PySem.W.Frag} {mg : Str → Option Value} {base : Heap} {CI C : Addr}
/-- what asks for the words takes -/
def spWord (K : PySem.W.Frag) : Sp := fun vs H Q _ => ∃ (v1 v2 v3 : V) (d1 d2 d3 : PyData), vs = [v1, v2, v3] ∧ Dp K H v1 d1 ∧ Dp K H v2 d2 ∧ Dp K H v3 d3 ∧ Small d1 ∧ Small d2 ∧ Small d3 ∧
  ∀ H', Sm H H' → Q (.str ((dueW d1 d2 d3).getD (Str.ofString ""))) H'
abbrev s_told : Stmt := topS 38
abbrev n_told : List Str := ["_law_one", "_law_two", "_law_three", "_law_found", "e"]
abbrev p_told : List Str := ["_law_one", "_law_two", "_law_three"]
theorem sc_told : FnScope n_told p_told (defScope s_told) := ⟨rfl, rfl, rfl, by decide +kernel, rfl, by decide +kernel, by decide +kernel⟩
theorem ok_told {f fI : Addr} {fd fdI : FuncData} (F : Fun K "_law_told" "_law_told" s_told f fd) (gI : mg "InvalidCrowds" = some (.ref CI)) (XI : XfC K CI) (nf : PySem.W.findIn K (.ref CI) "word" = some none)
    (te : PySem.W.exmOne K (.ref CI) (.ref CI) = some true) (gC : mg "Crowds" = some (.ref C)) (M : Mk K C fI) (FI : FnOk P w K mg base (L2.CX P w) 4 fI fdI p_init (spInitC K CI C)) (bI : Binds K fdI p_init []) :
    FnOk P w K mg base CX0 6 f fd p_told (spWord K) := by
  refine F.ok sc_told (fun vs H Q E h => ?_) (fun cdv A outer s H vs Q E hr h => ?_)
  · obtain ⟨v1, v2, v3, d1, d2, d3, rfl, _⟩ := h
    rfl
  · obtain ⟨v1, v2, v3, d1, d2, d3, rfl, h1, h2, h3, f1, f2, f3, q⟩ := h
    refine ⟨_, (pss_cons (ps_set (i := 3) sc_told.nd rfl (Or.inl rfl) pe_str)
      (pss_cons (ps_try_as (i := 4) (tb := fun W => tDrop (tMakeS C (spInitC K CI C) (WE W) (tCons (tVar 0) (tCons (tVar 1) (tCons (tVar 2) tNil)))))
          (ts := fun a cls d => tAsg (tXf a cls d CI "word" (tVar 4)) (gName 3)) (Wout := fun _ _ _ _ => False) rfl rfl sc_told.nd rfl rfl ⟨rfl, by decide, Or.inl gI⟩ takes0
          (fun W pn xe tk _ => pss_one (ps_expr (by exact (pe_makeS M FI hr rfl gC bI (fun σ => passAt tk σ) (by exact (pa_cons (pv 0) (pa_cons (pv 1) (pa_cons (pv 2) pa_nil))))))))
          (fun a oe cls d pn hz hf => pss_one (ps_set (i := 3) sc_told.nd rfl (Or.inl rfl) (by exact (pe_xf XI nf hz hf (pv 4))))))
      (pss_one (ps_ret (pv 3))))), ?_⟩
    refine ⟨_, rfl, _, rfl, _, rfl, fun x dx nx nd ne => ?_⟩
    have sm : Sm H (upd (upd H dx (.own x)) x (.ins C dx [])) := (Sm.new nd).trans (Sm.new (by rw [upd_ne (Ne.symm ne)]; exact nx))
    refine ⟨x, dx, v1, v2, v3, d1, d2, d3, rfl, upd_same, dp_mono sm h1, dp_mono sm h2, dp_mono sm h3, f1, f2, f3, fun wd e d' H' s' e' => ?_, fun eN H' kp => ⟨rfl, ?_⟩⟩
    · have z := q H' (sm.trans s')
      rw [e] at z
      exact ⟨true, te, fun _ a na => ⟨_, rfl, rfl, rfl, d', _, .str wd, rfl, e', by simp [List.lookup], _, rfl, z⟩, fun h => nomatch h⟩
    · have z := q H' (fun b o hb => kp b o (fun y => by rw [y, nx] at hb; cases hb) (sm b o hb))
      rw [eN] at z
      exact ⟨_, rfl, z⟩
end
end Z
set_option Elab.async false
set_option linter.all false
set_option maxRecDepth 100000
set_option maxHeartbeats 4000000
set_option autoImplicit false
namespace Z
open PySem PySem.Spec PyProof.Rows L2
open C8 (Cal pe_c Mak pe_mk Met pe_mt pe_mt0 pe_gc)
section
variable {P : Program} {w : World} {K : PySem.W.Frag} {mg : Str → Option Value} {base : Heap}
def spInts (K : PySem.W.Frag) : Sp := fun vs H Q _ => ∃ (lo : Int) (v : V) (d : PyData), vs = [v, .int lo] ∧ Dp K H v d ∧ (∀ ds, itemsD d = some ds → ds.length ≤ 1000) ∧ ∀ H', Sm H H' → Q (.bl (twoD lo d)) H'
abbrev s_ints : Stmt := topS 36
abbrev n_ints : List Str := ["_law_value", "_law_least", "_law_one"]
abbrev p_ints : List Str := ["_law_value", "_law_least"]
theorem sc_ints : FnScope n_ints p_ints (defScope s_ints) := ⟨rfl, rfl, rfl, by decide +kernel, rfl, by decide +kernel, by decide +kernel⟩
def bcN (t : PyData → Bool) (ds : List PyData) : Nat := (ds.filter fun e => !t e).length
theorem bc_snoc {t : PyData → Bool} {ds : List PyData} {i : Nat} {e : PyData} (h : ds[i]? = some e) : bcN t (ds.take (i + 1)) = bcN t (ds.take i) + (if t e = true then 0 else 1) := by
  unfold bcN
  rw [List.take_add_one, h, Option.toList_some, List.filter_append, List.length_append]
  cases h2 : t e <;> simp [h2]
theorem bc_zero {t : PyData → Bool} : ∀ {ds : List PyData}, ((List.replicate (bcN t ds) (1 : Int)).map PyData.int).isEmpty = ds.all t
  | [] => rfl
  | e :: ds => by
    have ih := bc_zero (t := t) (ds := ds)
    unfold bcN at ih ⊢
    cases h : t e with
    | true => simpa [h] using ih
    | false => simp [h]
theorem eqv_nil {ds : List PyData} : PyData.eqv (.list ds) (.list []) = ds.isEmpty := by
  have h := neq_nil (ds := ds)
  cases h1 : PyData.eqv (.list ds) (.list []) <;> cases h2 : ds.isEmpty <;> rw [h1, h2] at h <;> first | rfl | exact absurd h (by decide)
theorem rep_snoc {α : Type} (n : Nat) (x : α) : List.replicate n x ++ [x] = List.replicate (n + 1) x := by
  rw [List.replicate_succ']
theorem ok_ints {f : Addr} {fd : FuncData} {k : Nat} (F : Fun K "_law_are_integers" "_law_are_integers" s_ints f fd) (T : Bt3 mg) : FnOk P w K mg base CX0 (k + 1) f fd p_ints (spInts K) := by
  refine F.ok sc_ints (fun vs H Q E h => ?_) (fun cdv A outer s H vs Q E hr h => ?_)
  · obtain ⟨lo, v, d, rfl, _⟩ := h
    rfl
  · obtain ⟨lo, v, d, rfl, hd, hlen, q⟩ := h
    have hu64 : A.units + 3 + 64 < cLine := by
      have := hr.un
      show A.units + 3 + 64 < _
      have e : (A.deeper (envOfC "_law_are_integers" (defScope s_ints) s.heap.objs.size f cdv)).units = A.units + 3 := rfl
      omega
    refine ⟨_, (pss_cons (ps_if ((pw_or (pt_not (pt_val (pe_callB call_isiT (by rfl) T.n_isi (by decide +kernel) (pa_cons (pv 0) (pa_cons (pe_tup (pa_cons (pe_bltn (v := .ty "list") (by rfl) T.n_list (by decide +kernel) rfl) (pa_cons (pe_bltn (v := .ty "tuple") (by rfl) T.n_tuple (by decide +kernel) rfl) pa_nil))) pa_nil))))) (pw_or1 (pt_cmpR op_ne (pe_callB call_len_seq (by rfl) T.n_len (by decide +kernel) (pa_cons (pv 0) pa_nil)) pe_int (nomark _))))).pt
        (pss_one (ps_ret pe_bl))
        pss_nil)
      (pss_one (ps_ret (pe_cmpR (op_eqD hu64) (pe_lc (own := [("_law_one", 2)]) (by rfl) sc_ints.nd (pi_or (pi_list (pv 0)) (pi_tup (pv 0))) (blkOk_by (N := n_ints) (sc := defScope s_ints) (own := [("_law_one", 2)]) (by decide +kernel)) (fun _ _ _ _ _ => pg_name (i := 2) sc_ints.nd rfl (Or.inl rfl)) (fun _ _ _ _ _ => (pts_one ((pw_or (pt_val (pe_callB (call_isiK K) (by rfl) T.n_isi (by decide +kernel) (pa_cons (pv 2) (pa_cons (pe_bltn (v := .ty "bool") (by rfl) T.n_bool (by decide +kernel) rfl) pa_nil)))) (pw_or (pt_not (pt_val (pe_callB (call_isiK K) (by rfl) T.n_isi (by decide +kernel) (pa_cons (pv 2) (pa_cons (pe_bltn (v := .ty "int") (by rfl) T.n_int (by decide +kernel) rfl) pa_nil))))) (pw_or1 (pt_cmpR op_lt (pv 2) (pv 1) (nomark _)))))).pt)) (fun _ _ _ _ _ => pe_int)) (pe_lst pa_nil) (nomark _))))), ?_⟩
    refine ⟨_, rfl, (show 2 ≤ sizeLine by decide), fun p hp => ?_⟩
    have s1 : Sm H (upd H p (.tup [.ty "list", .ty "tuple"])) := Sm.new hp
    refine ⟨v, p, _, _, _, _, rfl, upd_same, .cons (.ty _) (.cons (.ty _) .nil), dp_ty (dp_mono s1 hd), kit_seq hd, _, rfl, ?_⟩
    generalize upd H p (.tup [.ty "list", .ty "tuple"]) = H1 at s1 ⊢
    cases eq : itemsD d with
    | none =>
      have z := q H1 s1
      rw [twoD, eq] at z
      exact z
    | some ds =>
      obtain ⟨a, xs, rfl, ha, hs⟩ := dp_items hd eq
      have hs1 : SqL K H1 a xs ∨ SqT K H1 a xs := by
        rcases hs with ⟨_, h⟩ | ⟨_, h⟩
        · exact .inl (s1.seq h)
        · exact .inr (s1.tup h)
      refine ⟨_, rfl, a, xs, rfl, hs1, rfl, _, rfl, iteB (fun hb => ?_) (fun hb => ?_)⟩
      · have z := q H1 s1
        have ne : ¬ ds.length = 2 := fun h => by
          rw [← dpAll_len ha] at h
          rw [h] at hb
          exact absurd hb (by decide)
        rw [twoD, eq] at z
        have z2 : Q (.bl false) H1 := by simpa [ne] using z
        exact z2
      have hb2 : xs.length = 2 := by
        have := of_decide_eq_true (by simpa using hb : decide (V.int (xs.length : Int) = V.int 2) = true)
        rw [V.int.injEq] at this
        omega
      rcases hs with ⟨_, hl⟩ | ⟨_, hl⟩
      · refine .inl ⟨_, rfl, a, rfl, ⟨_, s1.seq hl⟩, fun D hD => lc_list (K := K) (a := a) (xs := xs) (fun i H2 => Sm H H2 ∧ H2 D = some (.lst (List.replicate (bcN (geD lo) (ds.take i)) (.int 1)))) ?_ ?_ ?_ ?_⟩
        · exact ⟨s1.trans (Sm.new hD), upd_same⟩
        · exact fun i H2 _ h => h.1.seq hl
        · rintro i x H2 hx ⟨s2, e2⟩
          obtain ⟨e, he, hde⟩ := dpAll_ix ha hx
          have hdx := dp_mono s2 hde
          have bs := bc_snoc (t := geD lo) he
          have il : i < xs.length := (List.getElem?_eq_some_iff.mp hx).1
          have addF : geD lo e = false → ∃ acc, H2 D = some (.lst acc) ∧ acc.length < sizeLine ∧ Sm H (upd H2 D (.lst (acc ++ [V.int 1]))) ∧ upd H2 D (.lst (acc ++ [V.int 1])) D = some (.lst (List.replicate (bcN (geD lo) (ds.take (i + 1))) (.int 1))) := fun g =>
            ⟨_, e2, small1000 (by
              rw [List.length_replicate]
              have : bcN (geD lo) (ds.take i) ≤ (ds.take i).length := List.length_filter_le _ _
              rw [List.length_take] at this
              omega), sm_put s2 (s1.free hD), by rw [upd_same, bs, g, rep_snoc]; rfl⟩
          have keepF : geD lo e = true → Sm H H2 ∧ H2 D = some (.lst (List.replicate (bcN (geD lo) (ds.take (i + 1))) (.int 1))) := fun g => ⟨s2, by rw [e2, bs, g]; rfl⟩
          refine ⟨rfl, _, rfl, x, _, _, _, isBlD e, rfl, .ty "bool", dp_ty hdx, kit_bool hdx, _, rfl, ?_⟩
          cases e with
          | bool b => exact addF rfl
          | int j =>
            cases hdx
            have hdj : Dp K H2 (.int j) (.int j) := .int j
            refine ⟨_, rfl, _, _, _, _, true, rfl, .ty "int", dp_ty hdj, kit_int hdj, _, rfl, ?_⟩
            refine ⟨_, rfl, _, rfl, j, lo, rfl, rfl, _, rfl, iteB (fun h => ?_) (fun h => ?_)⟩
            · exact addF (decide_eq_false (by have := of_decide_eq_true h; omega))
            · exact keepF (decide_eq_true (by have := of_decide_eq_false h; omega))
          | none => exact ⟨_, rfl, _, _, _, _, false, rfl, .ty "int", dp_ty hdx, kit_int hdx, _, rfl, addF rfl⟩
          | str z => exact ⟨_, rfl, _, _, _, _, false, rfl, .ty "int", dp_ty hdx, kit_int hdx, _, rfl, addF rfl⟩
          | list z => exact ⟨_, rfl, _, _, _, _, false, rfl, .ty "int", dp_ty hdx, kit_int hdx, _, rfl, addF rfl⟩
          | tuple z => exact ⟨_, rfl, _, _, _, _, false, rfl, .ty "int", dp_ty hdx, kit_int hdx, _, rfl, addF rfl⟩
          | dict z => exact (nomatch hdx)
        · rintro H2 ⟨s2, e2⟩
          refine ⟨(show 0 ≤ sizeLine by decide), fun p2 hp2 => ?_⟩
          have z := q _ (s2.trans (Sm.new (o := .lst []) hp2))
          have l2 : ds.length = 2 := by
            rw [← dpAll_len ha]
            exact hb2
          have tl : ds.take xs.length = ds := List.take_of_length_le (by rw [dpAll_len ha]; exact Nat.le_refl _)
          rw [tl] at e2
          have em : List.replicate (bcN (geD lo) ds) (V.int 1) = ((List.replicate (bcN (geD lo) ds) (1 : Int)).map V.int) := by rw [List.map_replicate]
          rw [em] at e2
          refine ⟨_, _, .lst (.inl (.inl (Sm.new hp2 _ _ e2))) (dpAll_ints _), .lst (.inl (.inl upd_same)) .nil, shaped_ints _, shaped_nil, ?_⟩
          rw [eqv_nil, bc_zero]
          have e3 : twoD lo d = ds.all (geD lo) := by
            rw [twoD, eq]
            simp [l2]
          rw [e3] at z
          exact z
      · refine .inr ⟨_, rfl, a, rfl, ⟨_, s1.tup hl⟩, fun D hD => lc_tup (K := K) (a := a) (xs := xs) (fun i H2 => Sm H H2 ∧ H2 D = some (.lst (List.replicate (bcN (geD lo) (ds.take i)) (.int 1)))) ?_ ?_ ?_ ?_⟩
        · exact ⟨s1.trans (Sm.new hD), upd_same⟩
        · exact fun i H2 _ h => h.1.tup hl
        · rintro i x H2 hx ⟨s2, e2⟩
          obtain ⟨e, he, hde⟩ := dpAll_ix ha hx
          have hdx := dp_mono s2 hde
          have bs := bc_snoc (t := geD lo) he
          have il : i < xs.length := (List.getElem?_eq_some_iff.mp hx).1
          have addF : geD lo e = false → ∃ acc, H2 D = some (.lst acc) ∧ acc.length < sizeLine ∧ Sm H (upd H2 D (.lst (acc ++ [V.int 1]))) ∧ upd H2 D (.lst (acc ++ [V.int 1])) D = some (.lst (List.replicate (bcN (geD lo) (ds.take (i + 1))) (.int 1))) := fun g =>
            ⟨_, e2, small1000 (by
              rw [List.length_replicate]
              have : bcN (geD lo) (ds.take i) ≤ (ds.take i).length := List.length_filter_le _ _
              rw [List.length_take] at this
              omega), sm_put s2 (s1.free hD), by rw [upd_same, bs, g, rep_snoc]; rfl⟩
          have keepF : geD lo e = true → Sm H H2 ∧ H2 D = some (.lst (List.replicate (bcN (geD lo) (ds.take (i + 1))) (.int 1))) := fun g => ⟨s2, by rw [e2, bs, g]; rfl⟩
          refine ⟨rfl, _, rfl, x, _, _, _, isBlD e, rfl, .ty "bool", dp_ty hdx, kit_bool hdx, _, rfl, ?_⟩
          cases e with
          | bool b => exact addF rfl
          | int j =>
            cases hdx
            have hdj : Dp K H2 (.int j) (.int j) := .int j
            refine ⟨_, rfl, _, _, _, _, true, rfl, .ty "int", dp_ty hdj, kit_int hdj, _, rfl, ?_⟩
            refine ⟨_, rfl, _, rfl, j, lo, rfl, rfl, _, rfl, iteB (fun h => ?_) (fun h => ?_)⟩
            · exact addF (decide_eq_false (by have := of_decide_eq_true h; omega))
            · exact keepF (decide_eq_true (by have := of_decide_eq_false h; omega))
          | none => exact ⟨_, rfl, _, _, _, _, false, rfl, .ty "int", dp_ty hdx, kit_int hdx, _, rfl, addF rfl⟩
          | str z => exact ⟨_, rfl, _, _, _, _, false, rfl, .ty "int", dp_ty hdx, kit_int hdx, _, rfl, addF rfl⟩
          | list z => exact ⟨_, rfl, _, _, _, _, false, rfl, .ty "int", dp_ty hdx, kit_int hdx, _, rfl, addF rfl⟩
          | tuple z => exact ⟨_, rfl, _, _, _, _, false, rfl, .ty "int", dp_ty hdx, kit_int hdx, _, rfl, addF rfl⟩
          | dict z => exact (nomatch hdx)
        · rintro H2 ⟨s2, e2⟩
          refine ⟨(show 0 ≤ sizeLine by decide), fun p2 hp2 => ?_⟩
          have z := q _ (s2.trans (Sm.new (o := .lst []) hp2))
          have l2 : ds.length = 2 := by
            rw [← dpAll_len ha]
            exact hb2
          have tl : ds.take xs.length = ds := List.take_of_length_le (by rw [dpAll_len ha]; exact Nat.le_refl _)
          rw [tl] at e2
          have em : List.replicate (bcN (geD lo) ds) (V.int 1) = ((List.replicate (bcN (geD lo) ds) (1 : Int)).map V.int) := by rw [List.map_replicate]
          rw [em] at e2
          refine ⟨_, _, .lst (.inl (.inl (Sm.new hp2 _ _ e2))) (dpAll_ints _), .lst (.inl (.inl upd_same)) .nil, shaped_ints _, shaped_nil, ?_⟩
          rw [eqv_nil, bc_zero]
          have e3 : twoD lo d = ds.all (geD lo) := by
            rw [twoD, eq]
            simp [l2]
          rw [e3] at z
          exact z
abbrev s_due : Stmt := topS 37
abbrev n_due : List Str := ["_law_one", "_law_two", "_law_three", "_law_row", "_law_sign"]
abbrev p_due : List Str := ["_law_one", "_law_two", "_law_three"]
theorem sc_due : FnScope n_due p_due (defScope s_due) := ⟨rfl, rfl, rfl, by decide +kernel, rfl, by decide +kernel, by decide +kernel⟩
/-- the signs of a text that are none -/
def sg (c : Nat) : Bool := decide (c = 43 ∨ c = 45)
def oddS (l : List Nat) : List Str := (l.filter fun c => !sg c).map fun c => ⟨#[c]⟩
theorem oddS_snoc {l : List Nat} {i c : Nat} (h : l[i]? = some c) : oddS (l.take (i + 1)) = oddS (l.take i) ++ (if sg c = true then [] else [⟨#[c]⟩]) := by
  unfold oddS
  rw [List.take_add_one, h, Option.toList_some, List.filter_append, List.map_append]
  cases e : sg c <;> simp [e]
theorem oddS_nil : ∀ l : List Nat, (oddS l).isEmpty = l.all sg
  | [] => rfl
  | c :: l => by
    have ih := oddS_nil l
    unfold oddS at ih ⊢
    cases e : sg c with
    | true => simpa [e] using ih
    | false => simp [e]
theorem odd_len (l : List Nat) : (oddS l).length ≤ l.length := by
  unfold oddS
  rw [List.length_map]
  exact List.length_filter_le _ _
theorem odd_good {z : Str} (h : PyData.strOk z = true) : Good (oddS z.cps.toList) := fun y hy => by
  unfold oddS at hy
  obtain ⟨c, hc, rfl⟩ := List.mem_map.mp hy
  have h' : z.cps.all (fun c => decide (c < 0x110000)) = true := h
  rw [← Array.all_toList, List.all_eq_true] at h'
  have := h' c ((List.mem_filter.mp hc).1)
  show (#[c] : Array Nat).all (fun c => decide (c < 0x110000)) = true
  simpa using this
theorem sg_in (c : Nat) : decide (c ∈ (Str.ofString "+-").cps.toList) = sg c := by
  have e : (Str.ofString "+-").cps.toList = [43, 45] := by decide +kernel
  rw [e]
  unfold sg
  simp
theorem rowsD_false {h n : Int} {d : PyData} {ds : List PyData} (eq : itemsD d = some ds) {e : PyData} (he : e ∈ ds) (x : rowD n e = false) : rowsD h n d = false := by
  rw [rowsD, eq]
  have : ds.all (rowD n) = false := by
    rw [List.all_eq_false]
    exact ⟨e, he, by rw [x]; decide⟩
  simp [this]
theorem ok_due {f : Addr} {fd : FuncData} (F : Fun K "_law_due" "_law_due" s_due f fd) (T : Bt3 mg) (Ci : Cal P w K mg base 1 "_law_are_integers" (spInts K) []) : FnOk P w K mg base CX0 3 f fd p_due (spWord K) := by
  refine F.ok sc_due (fun vs H Q E h => ?_) (fun cdv A outer s H vs Q E hr h => ?_)
  · obtain ⟨v1, v2, v3, d1, d2, d3, rfl, _⟩ := h
    rfl
  · obtain ⟨v1, v2, v3, d1, d2, d3, rfl, h1, h2, h3, f1, f2, f3, q⟩ := h
    have hu64 : A.units + 3 + 64 < cLine := by
      have := hr.un
      show A.units + 3 + 64 < _
      have e : (A.deeper (envOfC "_law_due" (defScope s_due) s.heap.objs.size f cdv)).units = A.units + 3 := rfl
      omega
    refine ⟨_, (pss_cons (ps_if (pt_not (pt_val (pe_c Ci hr (by decide) (by rfl) (pa_cons (pv 0) (pa_cons pe_int pa_nil)))))
        (pss_one (ps_ret pe_str))
        pss_nil)
      (pss_cons (ps_if (pt_not (pt_val (pe_c Ci hr (by decide) (by rfl) (pa_cons (pv 1) (pa_cons pe_int pa_nil)))))
        (pss_one (ps_ret pe_str))
        pss_nil)
      (pss_cons (ps_if ((pw_or (pt_not (pt_val (pe_callB call_isiT (by rfl) T.n_isi (by decide +kernel) (pa_cons (pv 2) (pa_cons (pe_tup (pa_cons (pe_bltn (v := .ty "list") (by rfl) T.n_list (by decide +kernel) rfl) (pa_cons (pe_bltn (v := .ty "tuple") (by rfl) T.n_tuple (by decide +kernel) rfl) pa_nil))) pa_nil))))) (pw_or1 (pt_cmpR op_ne (pe_callB call_len_seq (by rfl) T.n_len (by decide +kernel) (pa_cons (pv 2) pa_nil)) (pe_op op_add (pe_ix ix_seq (pv 0) pe_int (fun _ _ => rfl)) (pe_ix ix_seq (pv 1) pe_int (fun _ _ => rfl))) (nomark _))))).pt
        (pss_one (ps_ret pe_str))
        pss_nil)
      (pss_cons (ps_for PassesOwn.never rfl (pi_or (pi_list (pv 2)) (pi_tup (pv 2))) (pg_name (i := 3) sc_due.nd rfl (Or.inl rfl))
        (pss_one (ps_if ((pw_or (pt_not (pt_val (pe_callB call_isi (by rfl) T.n_isi (by decide +kernel) (pa_cons (pv 3) (pa_cons (pe_bltn (v := .ty "str") (by rfl) T.n_str (by decide +kernel) rfl) pa_nil))))) (pw_or (pt_cmpR op_ne (pe_callB call_len_str (by rfl) T.n_len (by decide +kernel) (pa_cons (pv 3) pa_nil)) (pe_op op_add (pe_ix ix_seq (pv 0) pe_int (fun _ _ => rfl)) (pe_ix ix_seq (pv 1) pe_int (fun _ _ => rfl))) (nomark _)) (pw_or1 (pt_cmpR (op_neD hu64) (pe_lc (own := [("_law_sign", 4)]) (by rfl) sc_due.nd (pi_str (pv 3)) (blkOk_by (N := n_due) (sc := defScope s_due) (own := [("_law_sign", 4)]) (by decide +kernel)) (fun _ _ _ _ _ => pg_name (i := 4) sc_due.nd rfl (Or.inl rfl)) (fun _ _ _ _ _ => (pts_one (pt_cmpR op_notInS (pv 4) pe_str rfl))) (fun _ _ _ _ _ => (pv 4))) (pe_lst pa_nil) (nomark _)))))).pt
          (pss_one (ps_ret pe_str))
          pss_nil)))
      (pss_one (ps_ret pe_str)))))), ?_⟩
    refine ⟨_, rfl, 0, v1, d1, rfl, h1, fun ds e => Nat.le_trans (f1 ds e).1 (by decide), fun H1 s1 => ⟨_, rfl, iteB (fun hb => ?_) (fun hb => ?_)⟩⟩
    · have e : dueW d1 d2 d3 = some (Str.ofString "starts") := by
        unfold dueW
        rw [if_pos (by simpa using hb)]
      have z := q H1 s1
      rw [e] at z
      exact z
    have t1 : twoD 0 d1 = true := by simpa using hb
    refine ⟨_, rfl, 1, v2, d2, rfl, dp_mono s1 h2, fun ds e => Nat.le_trans (f2 ds e).1 (by decide), fun H2 s2 => ⟨_, rfl, iteB (fun hb => ?_) (fun hb => ?_)⟩⟩
    · have e : dueW d1 d2 d3 = some (Str.ofString "periods") := by
        unfold dueW
        rw [if_neg (by rw [t1]; decide), if_pos (by simpa using hb)]
      have z := q H2 (s1.trans s2)
      rw [e] at z
      exact z
    have t2 : twoD 1 d2 = true := by simpa using hb
    have s12 := s1.trans s2
    obtain ⟨a0, a1, i1e, l0, l1⟩ := two_ints t1
    obtain ⟨b0, b1, i2e, m0, m1⟩ := two_ints t2
    obtain ⟨k1, p1, rfl, q1⟩ := dp_two h1 i1e
    obtain ⟨k2, p2, rfl, q2⟩ := dp_two h2 i2e
    have eR : rowsD (a0 + b0) (a1 + b1) d3 = false → dueW d1 d2 d3 = some (Str.ofString "rows") := fun x => by
      unfold dueW
      rw [if_neg (by rw [t1]; decide), if_neg (by rw [t2]; decide), i1e, i2e]
      exact if_pos x
    have eN : rowsD (a0 + b0) (a1 + b1) d3 = true → dueW d1 d2 d3 = none := fun x => by
      unfold dueW
      rw [if_neg (by rw [t1]; decide), if_neg (by rw [t2]; decide), i1e, i2e]
      exact if_neg (by rw [x]; decide)
    refine ⟨_, rfl, (show 2 ≤ sizeLine by decide), fun p hp => ?_⟩
    have s3 : Sm H (upd H2 p (.tup [.ty "list", .ty "tuple"])) := s12.trans (Sm.new hp)
    refine ⟨v3, p, _, _, _, _, rfl, upd_same, .cons (.ty _) (.cons (.ty _) .nil), dp_ty (dp_mono s3 h3), kit_seq h3, _, rfl, ?_⟩
    generalize upd H2 p (.tup [.ty "list", .ty "tuple"]) = H3 at s3 ⊢
    cases eq : itemsD d3 with
    | none =>
      have z := q H3 s3
      rw [eR (by rw [rowsD, eq])] at z
      exact z
    | some ds =>
      obtain ⟨a, xs, rfl, ha, hs⟩ := dp_items h3 eq
      have hs1 : SqL K H3 a xs ∨ SqT K H3 a xs := by
        rcases hs with ⟨_, h⟩ | ⟨_, h⟩
        · exact .inl (s3.seq h)
        · exact .inr (s3.tup h)
      refine ⟨_, rfl, a, xs, rfl, hs1, _, rfl, ixV (sqK_sm s3 q1) (j := 0) rfl rfl ⟨_, rfl, ixV (sqK_sm s3 q2) (j := 0) rfl rfl ⟨_, _, rfl, rfl, rfl, _, rfl, iteB (fun hb => ?_) (fun hb => ?_)⟩⟩⟩
      · have hb' : (!decide (V.int (xs.length : Int) = V.int (a0 + b0))) = true := hb
        have ne : ¬ (ds.length : Int) = a0 + b0 := fun h => by
          rw [← dpAll_len ha] at h
          rw [h] at hb'
          exact absurd hb' (by simp)
        have z := q H3 s3
        rw [eR (by rw [rowsD, eq]; simp [ne])] at z
        exact z
      have hl2 : (ds.length : Int) = a0 + b0 := by
        have hb' : (!decide (V.int (xs.length : Int) = V.int (a0 + b0))) = false := hb
        have := of_decide_eq_true (by simpa using hb' : decide (V.int (xs.length : Int) = V.int (a0 + b0)) = true)
        rw [← dpAll_len ha]
        exact V.int.inj this
      have fin : ∀ H', Sm H H' → (∀ e ∈ ds, rowD (a1 + b1) e = true) → Q (.str (Str.ofString "")) H' := fun H' s' all => by
        have z := q H' s'
        have r : rowsD (a0 + b0) (a1 + b1) d3 = true := by
          rw [rowsD, eq]
          simp only [hl2, decide_true, Bool.true_and, List.all_eq_true]
          exact all
        rw [eN r] at z
        exact z
      have bad : ∀ e ∈ ds, rowD (a1 + b1) e = false → ∀ H', Sm H H' → Q (.str (Str.ofString "rows")) H' := fun e he x H' s' => by
        have z := q H' s'
        rw [eR (rowsD_false eq he x)] at z
        exact z
      rcases hs with ⟨_, hl⟩ | ⟨_, hl⟩
      · refine .inl ⟨_, rfl, a, rfl, ⟨_, s3.seq hl⟩, for_list (K := K) (a := a) (xs := xs) (fun i σ H' => (∃ x3, σ = [some (.ref p1), some (.ref p2), some (.ref a), x3, none]) ∧ Sm H H' ∧ ∀ e ∈ ds.take i, rowD (a1 + b1) e = true) ?_ ?_ ?_ ?_⟩
        · exact ⟨⟨none, rfl⟩, s3, fun e he => by simp at he⟩
        · exact fun i σ H' _ h => h.2.1.seq hl
        · rintro i x σ H' hx ⟨⟨x3, rfl⟩, s4, okk⟩
          obtain ⟨e, he, hde⟩ := dpAll_ix ha hx
          have hdx := dp_mono s4 hde
          have mem : e ∈ ds := List.mem_of_getElem? he
          have okE : rowD (a1 + b1) e = true → ∀ e' ∈ ds.take (i + 1), rowD (a1 + b1) e' = true := fun g e' he' => by
            rw [List.take_add_one, he, Option.toList_some] at he'
            rcases List.mem_append.mp he' with h | h
            · exact okk e' h
            · rw [List.mem_singleton.mp h]
              exact g
          refine ⟨_, rfl, x, _, _, _, isStrD e, rfl, .ty "str", dp_ty hdx, kit_str hdx, _, rfl, ?_⟩
          cases e with
          | str z =>
            cases hdx
            have zl := (f3 ds eq).2 z mem
            refine ⟨_, rfl, z, rfl, Nat.le_trans zl.1 (by rw [sizeLine_eq]; decide), _, rfl, ixV (sqK_sm s4 q1) (j := 1) rfl rfl ⟨_, rfl, ixV (sqK_sm s4 q2) (j := 1) rfl rfl ⟨_, _, rfl, rfl, rfl, _, rfl, iteB (fun g => ?_) (fun g => ?_)⟩⟩⟩
            · have g' : (!decide (V.int (z.length : Int) = V.int (a1 + b1))) = true := g
              have ne : ¬ (z.length : Int) = a1 + b1 := fun h => by
                rw [h] at g'
                exact absurd g' (by simp)
              exact bad _ mem (by show rowB (a1 + b1) z = false; simp [rowB, ne]) H' s4
            · have g' : (!decide (V.int (z.length : Int) = V.int (a1 + b1))) = false := g
              have zz : (z.length : Int) = a1 + b1 := V.int.inj (of_decide_eq_true (by simpa using g' : decide (V.int (z.length : Int) = V.int (a1 + b1)) = true))
              have rb : rowD (a1 + b1) (.str z) = z.cps.toList.all sg := by
                show rowB (a1 + b1) z = _
                unfold rowB sg
                rw [decide_eq_true zz, Bool.true_and]
              refine ⟨_, rfl, z, rfl, fun D hD => ?_⟩
              refine lc_it walk_str (fun j H2 => Sm H' H2 ∧ H2 D = some (.lst ((oddS (z.cps.toList.take j)).map V.str))) ?_ (fun _ _ _ _ => True.intro) ?_ ?_
              · exact ⟨Sm.new hD, upd_same⟩
              · rintro j y H2 H2' hj ⟨s5, e5⟩ ⟨rfl, c, hc, rfl⟩
                have hc' : z.cps.toList[j]? = some c := by
                  rw [Array.getElem?_toList]
                  exact hc
                have jl : j < 800 := Nat.lt_of_lt_of_le hj zl.1
                have os := oddS_snoc hc'
                refine ⟨rfl, _, rfl, c, _, rfl, rfl, _, rfl, iteB (fun g => ?_) (fun g => ?_)⟩
                · rw [sg_in] at g
                  have g2 : sg c = false := by simpa using g
                  rw [g2] at os
                  refine ⟨_, rfl, _, e5, small1000 (by
                    rw [List.length_map]
                    have h1 := odd_len (z.cps.toList.take j)
                    rw [List.length_take] at h1
                    omega), sm_put s5 hD, ?_⟩
                  rw [upd_same, os, List.map_append]
                  rfl
                · rw [sg_in] at g
                  have g2 : sg c = true := by simpa using g
                  rw [g2] at os
                  refine ⟨s5, ?_⟩
                  rw [os, e5]
                  simp
              · rintro H2 ⟨s5, e5⟩
                have tk : z.cps.toList.take z.cps.size = z.cps.toList := by
                  rw [← Array.length_toList, List.take_length]
                rw [tk] at e5
                refine ⟨(show 0 ≤ sizeLine by decide), fun p4 hp4 => ⟨_, _, .lst (.inl (.inl (Sm.new hp4 _ _ e5))) (dpAll_strs _), .lst (.inl (.inl upd_same)) .nil, shaped_strs .l (odd_good zl.2), shaped_nil, _, rfl, ?_⟩⟩
                have em : ((oddS z.cps.toList).map PyData.str).isEmpty = z.cps.toList.all sg := by
                  rw [← oddS_nil]
                  cases oddS z.cps.toList <;> rfl
                have s6 := (s4.trans s5).trans (Sm.new (o := .lst []) hp4)
                rw [eqv_nil, em]
                cases hall : z.cps.toList.all sg with
                | true => exact ⟨⟨_, rfl⟩, s6, okE (by rw [rb]; exact hall)⟩
                | false => exact bad _ mem (by rw [rb]; exact hall) _ s6
          | int b => exact bad _ mem rfl H' s4
          | bool b => exact bad _ mem rfl H' s4
          | none => exact bad _ mem rfl H' s4
          | list z => exact bad _ mem rfl H' s4
          | tuple z => exact bad _ mem rfl H' s4
          | dict z => exact (nomatch hdx)
        · rintro σ H' ⟨⟨x3, rfl⟩, s4, okk⟩
          refine fin H' s4 fun e he => okk e ?_
          rw [List.take_of_length_le (by rw [dpAll_len ha]; exact Nat.le_refl _)]
          exact he
      · refine .inr ⟨_, rfl, a, rfl, ⟨_, s3.tup hl⟩, for_tup (K := K) (a := a) (xs := xs) (fun i σ H' => (∃ x3, σ = [some (.ref p1), some (.ref p2), some (.ref a), x3, none]) ∧ Sm H H' ∧ ∀ e ∈ ds.take i, rowD (a1 + b1) e = true) ?_ ?_ ?_ ?_⟩
        · exact ⟨⟨none, rfl⟩, s3, fun e he => by simp at he⟩
        · exact fun i σ H' _ h => h.2.1.tup hl
        · rintro i x σ H' hx ⟨⟨x3, rfl⟩, s4, okk⟩
          obtain ⟨e, he, hde⟩ := dpAll_ix ha hx
          have hdx := dp_mono s4 hde
          have mem : e ∈ ds := List.mem_of_getElem? he
          have okE : rowD (a1 + b1) e = true → ∀ e' ∈ ds.take (i + 1), rowD (a1 + b1) e' = true := fun g e' he' => by
            rw [List.take_add_one, he, Option.toList_some] at he'
            rcases List.mem_append.mp he' with h | h
            · exact okk e' h
            · rw [List.mem_singleton.mp h]
              exact g
          refine ⟨_, rfl, x, _, _, _, isStrD e, rfl, .ty "str", dp_ty hdx, kit_str hdx, _, rfl, ?_⟩
          cases e with
          | str z =>
            cases hdx
            have zl := (f3 ds eq).2 z mem
            refine ⟨_, rfl, z, rfl, Nat.le_trans zl.1 (by rw [sizeLine_eq]; decide), _, rfl, ixV (sqK_sm s4 q1) (j := 1) rfl rfl ⟨_, rfl, ixV (sqK_sm s4 q2) (j := 1) rfl rfl ⟨_, _, rfl, rfl, rfl, _, rfl, iteB (fun g => ?_) (fun g => ?_)⟩⟩⟩
            · have g' : (!decide (V.int (z.length : Int) = V.int (a1 + b1))) = true := g
              have ne : ¬ (z.length : Int) = a1 + b1 := fun h => by
                rw [h] at g'
                exact absurd g' (by simp)
              exact bad _ mem (by show rowB (a1 + b1) z = false; simp [rowB, ne]) H' s4
            · have g' : (!decide (V.int (z.length : Int) = V.int (a1 + b1))) = false := g
              have zz : (z.length : Int) = a1 + b1 := V.int.inj (of_decide_eq_true (by simpa using g' : decide (V.int (z.length : Int) = V.int (a1 + b1)) = true))
              have rb : rowD (a1 + b1) (.str z) = z.cps.toList.all sg := by
                show rowB (a1 + b1) z = _
                unfold rowB sg
                rw [decide_eq_true zz, Bool.true_and]
              refine ⟨_, rfl, z, rfl, fun D hD => ?_⟩
              refine lc_it walk_str (fun j H2 => Sm H' H2 ∧ H2 D = some (.lst ((oddS (z.cps.toList.take j)).map V.str))) ?_ (fun _ _ _ _ => True.intro) ?_ ?_
              · exact ⟨Sm.new hD, upd_same⟩
              · rintro j y H2 H2' hj ⟨s5, e5⟩ ⟨rfl, c, hc, rfl⟩
                have hc' : z.cps.toList[j]? = some c := by
                  rw [Array.getElem?_toList]
                  exact hc
                have jl : j < 800 := Nat.lt_of_lt_of_le hj zl.1
                have os := oddS_snoc hc'
                refine ⟨rfl, _, rfl, c, _, rfl, rfl, _, rfl, iteB (fun g => ?_) (fun g => ?_)⟩
                · rw [sg_in] at g
                  have g2 : sg c = false := by simpa using g
                  rw [g2] at os
                  refine ⟨_, rfl, _, e5, small1000 (by
                    rw [List.length_map]
                    have h1 := odd_len (z.cps.toList.take j)
                    rw [List.length_take] at h1
                    omega), sm_put s5 hD, ?_⟩
                  rw [upd_same, os, List.map_append]
                  rfl
                · rw [sg_in] at g
                  have g2 : sg c = true := by simpa using g
                  rw [g2] at os
                  refine ⟨s5, ?_⟩
                  rw [os, e5]
                  simp
              · rintro H2 ⟨s5, e5⟩
                have tk : z.cps.toList.take z.cps.size = z.cps.toList := by
                  rw [← Array.length_toList, List.take_length]
                rw [tk] at e5
                refine ⟨(show 0 ≤ sizeLine by decide), fun p4 hp4 => ⟨_, _, .lst (.inl (.inl (Sm.new hp4 _ _ e5))) (dpAll_strs _), .lst (.inl (.inl upd_same)) .nil, shaped_strs .l (odd_good zl.2), shaped_nil, _, rfl, ?_⟩⟩
                have em : ((oddS z.cps.toList).map PyData.str).isEmpty = z.cps.toList.all sg := by
                  rw [← oddS_nil]
                  cases oddS z.cps.toList <;> rfl
                have s6 := (s4.trans s5).trans (Sm.new (o := .lst []) hp4)
                rw [eqv_nil, em]
                cases hall : z.cps.toList.all sg with
                | true => exact ⟨⟨_, rfl⟩, s6, okE (by rw [rb]; exact hall)⟩
                | false => exact bad _ mem (by rw [rb]; exact hall) _ s6
          | int b => exact bad _ mem rfl H' s4
          | bool b => exact bad _ mem rfl H' s4
          | none => exact bad _ mem rfl H' s4
          | list z => exact bad _ mem rfl H' s4
          | tuple z => exact bad _ mem rfl H' s4
          | dict z => exact (nomatch hdx)
        · rintro σ H' ⟨⟨x3, rfl⟩, s4, okk⟩
          refine fin H' s4 fun e he => okk e ?_
          rw [List.take_of_length_le (by rw [dpAll_len ha]; exact Nat.le_refl _)]
          exact he
end
end Z
set_option Elab.async false
set_option linter.all false
set_option maxRecDepth 100000
set_option maxHeartbeats 4000000
set_option autoImplicit false
namespace L2
open PySem PySem.Spec PyProof.Rows
def signsV (z : Str) : List V := z.cps.toList.map fun c => V.str ⟨#[c]⟩
theorem signs_vals {z : Str} {acc : Array Value} (h : PySem.ItemsOf (PySem.SignAt z) acc z.cps.size) : Vals (signsV z) acc.toList := by
  obtain ⟨hs, hv⟩ := h
  have key : ∀ (l : List Nat) (us : List Value), l.length = us.length → (∀ (j : Nat) (v : Value), us[j]? = some v → ∃ (c : Nat) (u : Tok), l[j]? = some c ∧ v = Value.str ⟨#[c]⟩ u) → Vals (l.map fun c => V.str ⟨#[c]⟩) us := by
    intro l
    induction l with
    | nil =>
      intro us e _
      cases us with
      | nil => exact .nil
      | cons _ _ => cases e
    | cons c l ih =>
      intro us e q
      cases us with
      | nil => cases e
      | cons u us =>
        obtain ⟨c', t, h1, h2⟩ := q 0 u rfl
        have e1 : c = c' := Option.some.inj h1
        subst e1
        exact .cons ⟨t, h2⟩ (ih us (Nat.succ.inj e) fun j v hj => q (j + 1) v hj)
  refine key _ _ (by rw [Array.length_toList, Array.length_toList, hs]) fun j v hj => ?_
  obtain ⟨c, u, h1, h2⟩ := hv j v (by rw [← Array.getElem?_toList]; exact hj)
  exact ⟨c, u, by rw [Array.getElem?_toList]; exact h1, h2⟩
section
variable {X : Cx}
theorem call_list_text (hc : X.A.handled = none) : CallR X (.type "list") (fun xs H Q => ∃ z, xs = [.str z] ∧ z.cps.size ≤ 1000 ∧ ∀ l, H l = none → Q (.ref l) (upd H l (.lst (signsV z)))) := by
  intro pins s σ H xs us Q I r h
  obtain ⟨z, rfl, hz, q⟩ := h
  obtain ⟨u, rfl, t, rfl⟩ := vals1 r
  refine call_list_str hc z t (fun h' tk acc c' k ho hi => ?_) (Nat.le_trans hz (by rw [sizeLine_eq]; decide))
  have hf : H s.heap.objs.size = none := I.hok.fresh (Nat.le_refl _)
  refine ⟨.ref s.heap.objs.size, upd H s.heap.objs.size (.lst (signsV z)), I.laid (t' := tk) k (Nat.le_refl _) ?_, rfl, q _ hf⟩
  have l : (signsV z).length ≤ sizeLine := by
    unfold signsV
    rw [List.length_map, Array.length_toList, sizeLine_eq]
    omega
  exact ⟨l, acc.toList, c', signs_vals hi, by simpa using ho⟩
theorem call_tuple_text (hc : X.A.handled = none) : CallR X (.type "tuple") (fun xs H Q => ∃ z, xs = [.str z] ∧ z.cps.size ≤ 1000 ∧ ∀ l, H l = none → Q (.ref l) (upd H l (.tup (signsV z)))) := by
  intro pins s σ H xs us Q I r h
  obtain ⟨z, rfl, hz, q⟩ := h
  obtain ⟨u, rfl, t, rfl⟩ := vals1 r
  refine call_tuple_str hc z t (fun h' tk acc k hi => ?_) (Nat.le_trans hz (by rw [sizeLine_eq]; decide))
  have J := I.kept (t' := tk) k
  have hf : H h'.objs.size = none := J.hok.fresh (Nat.le_refl _)
  refine ⟨.ref h'.objs.size, upd H h'.objs.size (.tup (signsV z)), J.laid (t' := tk) (fun b o e => Heap.get?_push_of_some _ e) (Nat.le_refl _) ?_, rfl, q _ hf⟩
  have l : (signsV z).length ≤ sizeLine := by
    unfold signsV
    rw [List.length_map, Array.length_toList, sizeLine_eq]
    omega
  exact ⟨l, acc.toList, signs_vals hi, ⟨_, Heap.get?_push_size _ rfl, rfl, _, by simp; rfl⟩⟩
/-- [e + 'y'] ahead of what wants a token -/
theorem pa_tok {e : Expr} {es : List Expr} {y : Str} {j : Nat} {c0 p1 p2 : Pos} {te : TE} {t : TA} (he : PE X e te) (hr : PAT X es t)
    (hs : starEach (.List [.BinOp e .Add (.Constant (.str y) j c0) p1] p2 :: es) X.env = (false, eval (.List [.BinOp e .Add (.Constant (.str y) j c0) p1] p2) X.env) :: starEach es X.env := by rfl)
    (hs2 : starEach [.BinOp e .Add (.Constant (.str y) j c0) p1] X.env = (false, eval (.BinOp e .Add (.Constant (.str y) j c0) p1) X.env) :: starEach [] X.env := by rfl) :
    PA X (.List [.BinOp e .Add (.Constant (.str y) j c0) p1] p2 :: es) (tCons (tLst (tCons (tOp (fun x y H Q => ∃ i j, x = .str i ∧ y = .str j ∧ i.length + j.length ≤ sizeLine ∧ Q (.str (i ++ j)) H) te (tC (.str y))) tNil)) t) := by
  refine ⟨fun pos pins s σ H Q I h => ?_⟩
  rw [hs]
  show wpAny _ _ (spliced ((false, eval (.List [.BinOp e .Add (.Constant (.str y) j c0) p1] p2) X.env) :: backTo pos (starEach es X.env))) _ _ s
  refine Calls.spliced_cons (wpAny_List_spliced ?_)
  rw [hs2]
  show wpAny _ _ (spliced ((false, eval (.BinOp e .Add (.Constant (.str y) j c0) p1) X.env) :: backTo p2 (starEach [] X.env))) _ _ s
  refine Calls.spliced_cons (wpAny_BinOp (thn (he.run pins s σ H _ I h) fun v s1 ⟨x, H1, I1, r1, q1⟩ => Calls.Constant_str ?_))
  refine wpAny_mono (PySem.wpAny_toks (op_add_str pins { s1 with toks := s1.toks + 1 } σ H1 x (.str y) v (.str y s1.toks) (fun u' H2 => [u'].length ≤ sizeLine ∧ ∀ p, H2 p = none → t σ (upd H2 p (.lst [u'])) fun xs H3 => Q (.ref p :: xs) H3) (I1.tok _) r1 ⟨_, rfl⟩ q1)) (fun u s2 q => ?_) fun _ _ z => z.2
  obtain ⟨hk, u', H2, I2, r2, hz, q2⟩ := q
  have tk : 1 ≤ s2.toks := Nat.le_trans (Nat.le_add_left 1 s1.toks) hk
  refine Calls.spliced_nil ⟨hz, ?_⟩
  have hf : H2 s2.heap.objs.size = none := I2.hok.fresh (Nat.le_refl _)
  have J : Inv X pins σ (upd H2 s2.heap.objs.size (.lst [u'])) { s2 with heap := s2.heap.push { cls := .type "list", data := .seq [u].toArray } } :=
    I2.laid (t' := s2.toks) (fun b o e => Heap.get?_push_of_some _ e) (Nat.le_refl _) ⟨hz, [u], 0, .cons r2 .nil, Heap.get?_push_size _ rfl⟩
  exact thn (hr pos pins _ σ _ _ tk J (q2 _ hf)) fun us s3 ⟨xs, H3, I3, r3, q3⟩ => ⟨.ref s2.heap.objs.size :: xs, H3, I3, .cons rfl r3, q3⟩
end
end L2
namespace Z
open PySem PySem.Spec PyProof.Rows L2
open C8 (Cal pe_c Mak pe_mk Met pe_mt pe_mt0 pe_gc)
def Asc (z : Str) : Prop := ∀ c ∈ z.cps.toList, c < 256
theorem Asc.ok {z : Str} (h : Asc z) : PyData.strOk z = true := by
  show z.cps.all (fun c => decide (c < 0x110000)) = true
  rw [← Array.all_toList, List.all_eq_true]
  intro c hc
  have := h c hc
  exact decide_eq_true (by omega)
theorem Asc.row {n : Nat} {z : Str} (h : IsRow n z) : Asc z := fun c hc => by
  rcases h.2 c hc with rfl | rfl <;> decide
theorem asc_app {x y : Str} (hx : Asc x) (hy : Asc y) : Asc (x ++ y) := fun c hc => by
  have e : (x ++ y).cps = x.cps ++ y.cps := rfl
  rw [e, Array.toList_append] at hc
  rcases List.mem_append.mp hc with h | h
  · exact hx c h
  · exact hy c h
theorem asc_cut {x : Str} {lo hi : Option Int} (hx : Asc x) : Asc (cutS x lo hi) := fun c hc => by
  unfold cutS at hc
  simp only [List.toList_toArray] at hc
  exact hx c (List.mem_of_mem_drop (List.mem_of_mem_take hc))
theorem cutS_len (x : Str) (lo hi : Option Int) : (cutS x lo hi).length ≤ x.length := by
  show (cutS x lo hi).cps.size ≤ x.cps.size
  unfold cutS
  rw [List.size_toArray, List.length_take, List.length_drop, Array.length_toList]
  omega
theorem asc_sub {x : Str} {a b : Nat} (hx : Asc x) : Asc (PySem.Builtin.Str.strSub x a b) := fun c hc => by
  refine hx c ?_
  have h : c ∈ (x.cps.extract a b).toList := hc
  rw [Array.toList_extract] at h
  exact List.mem_of_mem_drop (List.mem_of_mem_take h)
theorem asc_parts {x : Str} (hx : Asc x) (w : Nat) : ∀ (cuts : List Nat) (a : Nat), ∀ p ∈ PySem.StrLaws.partsFrom x w a cuts, Asc p
  | [], a, p, h => by
    rw [PySem.StrLaws.partsFrom, List.mem_singleton] at h
    rw [h]
    exact asc_sub hx
  | c :: r, a, p, h => by
    rw [PySem.StrLaws.partsFrom] at h
    rcases List.mem_cons.mp h with e | e
    · rw [e]
      exact asc_sub hx
    · exact asc_parts hx w r _ p e
theorem asc_glue {z : Str} (hz : Asc z) : ∀ ps : List Str, (∀ p ∈ ps, Asc p) → Asc (Str.join z ps)
  | [], _ => fun c hc => by
    have e : (Str.join z []).cps.toList = [] := rfl
    rw [e] at hc
    cases hc
  | [p], h => h p (by simp)
  | p :: q :: r, h => by
    show Asc (p ++ z ++ Str.join z (q :: r))
    exact asc_app (asc_app (h p (by simp)) hz) (asc_glue hz (q :: r) fun y hy => h y (by simp [hy]))
theorem asc_replace {x y z : Str} (hx : Asc x) (hz : Asc z) : Asc (Txt.replace x y z) := by
  unfold Txt.replace
  split
  · exact hx
  · rw [PySem.StrLaws.glued_eq_join, PySem.StrLaws.partsBetween_eq]
    exact asc_glue hz _ (asc_parts hx _ _ _)
theorem small_list {ds : List PyData} (l : ds.length ≤ 800) (h : ∀ e ∈ ds, ∀ y, e = .str y → y.length ≤ 800 ∧ PyData.strOk y = true) : Small (.list ds) := fun ds' e => by
  cases e
  exact ⟨l, fun z hz => h _ hz z rfl⟩
theorem small_strs {zs : List Str} (l : zs.length ≤ 800) (h : ∀ z ∈ zs, z.length ≤ 800 ∧ Asc z) : Small (.list (zs.map PyData.str)) :=
  small_list (by rw [List.length_map]; exact l) fun e he y ey => by
    obtain ⟨z, hz, rfl⟩ := List.mem_map.mp he
    cases ey
    exact ⟨(h _ hz).1, (h _ hz).2.ok⟩
theorem at_msk {H : Hp} {a c p : Addr} {o : HO} (hD : DealAt H a c) {H' : Hp} (n : H p = none) (h : H' p = some o) : msk a c H' p = some o := by
  rw [msk_ne (hD.newNe n).1 (hD.newNe n).2]
  exact h
section
variable {P : Program} {w : World} {K : PySem.W.Frag} {mg : Str → Option Value} {base : Heap}
abbrev s_spo : Stmt := topS 39
abbrev n_spo : List Str := ["_law_deal_here", "_law_rows", "_law_at", "_law_form", "_law_row", "_law_some"]
abbrev p_spo : List Str := ["_law_deal_here", "_law_rows"]
theorem sc_spo : FnScope n_spo p_spo (defScope s_spo) := ⟨rfl, rfl, rfl, by decide +kernel, rfl, by decide +kernel, by decide +kernel⟩
def spSpo (K : PySem.W.Frag) : Sp := fun vs H Q _ => ∃ (a c l n : Nat) (zs : List Str), vs = [.ref a, .ref l] ∧ DealAt H a c ∧ msk a c H l = some (.lst (zs.map V.str)) ∧ 0 < zs.length ∧ zs.length ≤ 200 ∧ n ≤ 200 ∧ (∀ z ∈ zs, IsRow n z) ∧
  ∀ (p : Addr) (d : PyData) H', Dp K (msk a c H') (.ref p) d → Small d → DealAt H' a c → Sm (msk a c H) (msk a c H') → Q (.ref p) H'
theorem ok_spo {f : Addr} {fd : FuncData} (F : Fun K "_law_spoilt" "_law_spoilt" s_spo f fd) (T : Bt3 mg) (Cd : Cal P w K mg base 2 "_law_draw" spDraw []) : FnOk P w K mg base CX0 3 f fd p_spo (spSpo K) := by
  refine F.ok sc_spo (fun vs H Q E h => ?_) (fun cdv A outer s H vs Q E hr h => ?_)
  · obtain ⟨a, c, l, n, zs, rfl, _⟩ := h
    rfl
  · obtain ⟨a, c, l, n, zs, rfl, hD, hl, z0, z1, hn, hz, q⟩ := h
    refine ⟨_, (pss_cons (ps_par (i := 2) (j := 3) rfl sc_spo.nd rfl rfl (by decide) rfl rfl (pa_cons (pe_c Cd hr (by decide) (by rfl) (pa_cons (pv 0) (pa_cons (pe_callB call_len_seq (by rfl) T.n_len (by decide +kernel) (pa_cons (pv 1) pa_nil)) pa_nil))) (pa_cons (pe_c Cd hr (by decide) (by rfl) (pa_cons (pv 0) (pa_cons pe_int pa_nil))) pa_nil)) (by rfl))
      (pss_cons (ps_set (i := 4) sc_spo.nd rfl (Or.inl rfl) (pe_ix ix_list (pv 1) (pv 2) (fun _ _ => rfl)))
      (pss_cons (ps_if (pt_cmpR op_eq (pv 3) pe_int (nomark _))
        (pss_one (ps_ret (pe_op op_cat (pv 1) (pe_lst (pa_cons (pv 4) pa_nil)))))
        pss_nil)
      (pss_cons (ps_set (i := 5) sc_spo.nd rfl (Or.inl rfl) (pe_lst (pa_cons (pe_slice sl_list (pv 1) po_none (po_some (pv 2))) (pa_cons (pe_lst (pa_cons (pe_slice sl_str (pv 4) po_none (po_some (pe_un un_neg pe_int))) pa_nil)) (pa_tok (pv 4)
          (pat_cons (CwR.PET.of (pe_lst (pa_cons (pe_op op_add_str (pe_slice sl_str (pv 4) po_none (po_some (pe_un un_neg pe_int))) pe_str) pa_nil)))
          (pat_cons (CwR.PET.of (pe_lst (pa_cons (pe_callTy (call_list_text hr.hd) (by rfl) T.n_list (by decide +kernel) (pa_cons (pv 4) pa_nil)) pa_nil)))
          (pat_cons (pet_lst (pat_cons (CwR.pet_replC (pv 4)) pat_nil))
          (pat_cons (CwR.PET.of (pe_lst (pa_cons (pe_callTy (call_tuple_text hr.hd) (by rfl) T.n_tuple (by decide +kernel) (pa_cons (pv 4) pa_nil)) pa_nil)))
          pat_nil)))))))))
      (pss_cons (ps_if (pt_cmpR op_eq (pv 3) pe_int (nomark _))
        (pss_one (ps_ret (pe_op op_cat (pe_slice sl_list (pv 1) po_none (po_some (pv 2))) (pe_slice sl_list (pv 1) (po_some (pe_op op_add (pv 2) pe_int)) po_none))))
        pss_nil)
      (pss_one (ps_ret (pe_op op_cat (pe_op op_cat (pe_slice sl_list (pv 1) po_none (po_some (pv 2))) (pe_ix ix_list (pv 5) (pe_op op_sub (pv 3) pe_int) (fun _ _ => rfl))) (pe_slice sl_list (pv 1) (po_some (pe_op op_add (pv 2) pe_int)) po_none))))))))), ?_⟩
    obtain ⟨hlH, nla, nlc⟩ := msk_some hl
    have lz : (zs.map V.str).length = zs.length := List.length_map _
    refine ⟨_, rfl, _, rfl, l, _, rfl, .inl (.inl (.inl hlH)), a, c, _, rfl, hD, by rw [lz]; omega, by rw [lz]; omega, fun r1 H1 r10 r11 hD1 e1 => ?_⟩
    refine ⟨_, rfl, a, c, 8, rfl, hD1, by decide, by decide, fun r2 H2 r20 r21 hD2 e2 => ⟨_, _, rfl, ?_⟩⟩
    rw [lz] at r11
    obtain ⟨j, rfl⟩ := Int.eq_ofNat_of_zero_le r10
    have jl : j < zs.length := by omega
    have e12 := e1.trans e2
    have hl2 : H2 l = some (.lst (zs.map V.str)) := msk_le _ _ (e12 _ _ hl)
    obtain ⟨z, zj⟩ : ∃ z, zs[j]? = some z := ⟨_, List.getElem?_eq_getElem jl⟩
    have zmem : z ∈ zs := List.mem_of_getElem? zj
    have zrow := hz z zmem
    have zlen : z.length = n := zrow.1
    have zsz : z.length ≤ sizeLine := by rw [zlen, sizeLine_eq]; omega
    have zsz2 : z.cps.size ≤ 1000 := by
      have : z.cps.size = n := zlen
      omega
    have gV : (zs.map V.str)[j]? = some (V.str z) := by rw [List.getElem?_map, zj]; rfl
    have allz : ∀ y ∈ zs, y.length ≤ 800 ∧ Asc y := fun y hy => ⟨by rw [(hz y hy).1]; omega, Asc.row (hz y hy)⟩
    refine ⟨_, rfl, _, rfl, l, _, _, _, rfl, rfl, .inl (.inl hl2), at_of (j := j) rfl gV, ?_⟩
    refine ⟨_, rfl, rfl, _, rfl, iteB (fun hb => ?_) (fun hb => ?_)⟩
    · refine ⟨_, rfl, _, rfl, (show 1 ≤ sizeLine by decide), fun p h => ⟨l, p, _, _, rfl, rfl, Sm.new h _ _ hl2, upd_same, by rw [lz, sizeLine_eq]; show zs.length + 1 ≤ _; omega, fun p2 h2 => ?_⟩⟩
      have s3 : Sm H2 (upd H2 p (.lst [V.str z])) := Sm.new h
      have n2 := s3.free h2
      have e : zs.map V.str ++ [V.str z] = (zs ++ [z]).map V.str := by rw [List.map_append]; rfl
      rw [e]
      refine q p2 (.list ((zs ++ [z]).map PyData.str)) _ (.lst (.inl (.inl (at_msk hD2 n2 upd_same))) (dpAll_strs _)) (small_strs (by rw [List.length_append]; show zs.length + 1 ≤ 800; omega) fun y hy => ?_) ((hD2.sm s3).sm (Sm.new h2)) (e12.trans ((msk_new h).trans (msk_new h2)))
      rcases List.mem_append.mp hy with h | h
      · exact allz y h
      · rw [List.mem_singleton.mp h]
        exact allz z zmem
    have f0 : r2 ≠ 0 := fun e => by
      have : decide (V.int r2 = V.int 0) = false := hb
      rw [e] at this
      exact absurd this (by decide)
    refine ⟨_, rfl, _, rfl, _, rfl, l, _, rfl, .inl (.inl hl2), fun i0 h0 => ?_⟩
    have s0 : Sm H2 (upd H2 i0 (.lst (cutV (zs.map V.str) none (some (j : Int))))) := Sm.new h0
    generalize upd H2 i0 (.lst (cutV (zs.map V.str) none (some (j : Int)))) = G0 at s0 ⊢
    refine ⟨_, rfl, 1, rfl, _, rfl, z, rfl, zsz, ⟨(show 1 ≤ sizeLine by decide), fun i1 h1 => ?_⟩⟩
    have c1 : upd G0 i1 (.lst [V.str (cutS z none (some (-1)))]) i1 = some (.lst [V.str (cutS z none (some (-1)))]) := upd_same
    have s1 : Sm G0 (upd G0 i1 (.lst [V.str (cutS z none (some (-1)))])) := Sm.new h1
    generalize upd G0 i1 (.lst [V.str (cutS z none (some (-1)))]) = G1 at s1 c1 ⊢
    have zl1 : z.length + 1 ≤ sizeLine := by rw [zlen, sizeLine_eq]; omega
    have cl1 : (cutS z none (some (-1))).length + 1 ≤ sizeLine := by
      have := cutS_len z none (some (-1))
      rw [sizeLine_eq]
      omega
    refine ⟨_, rfl, z, _, rfl, rfl, zl1, ⟨(show 1 ≤ sizeLine by decide), fun i2 h2 => ?_⟩⟩
    have c2 : upd G1 i2 (.lst [V.str (z ++ Str.ofString "-")]) i2 = some (.lst [V.str (z ++ Str.ofString "-")]) := upd_same
    have s2 : Sm G1 (upd G1 i2 (.lst [V.str (z ++ Str.ofString "-")])) := Sm.new h2
    generalize upd G1 i2 (.lst [V.str (z ++ Str.ofString "-")]) = G2 at s2 c2 ⊢
    refine ⟨_, rfl, 1, rfl, _, rfl, z, rfl, zsz, _, _, rfl, rfl, cl1, ⟨(show 1 ≤ sizeLine by decide), fun i3 h3 => ?_⟩⟩
    have c3 : upd G2 i3 (.lst [V.str (cutS z none (some (-1)) ++ Str.ofString " ")]) i3 = some (.lst [V.str (cutS z none (some (-1)) ++ Str.ofString " ")]) := upd_same
    have s3 : Sm G2 (upd G2 i3 (.lst [V.str (cutS z none (some (-1)) ++ Str.ofString " ")])) := Sm.new h3
    generalize upd G2 i3 (.lst [V.str (cutS z none (some (-1)) ++ Str.ofString " ")]) = G3 at s3 c3 ⊢
    refine ⟨_, rfl, z, rfl, zsz2, fun y4 hy4 => ⟨(show 1 ≤ sizeLine by decide), fun i4 h4 => ?_⟩⟩
    have sy4 : Sm G3 (upd G3 y4 (.lst (signsV z))) := Sm.new hy4
    have ny4 := ((s0.trans s1).trans (s2.trans s3)).free hy4
    have d4 : upd (upd G3 y4 (.lst (signsV z))) i4 (.lst [V.ref y4]) y4 = some (.lst (signsV z)) := Sm.new h4 _ _ upd_same
    have c4 : upd (upd G3 y4 (.lst (signsV z))) i4 (.lst [V.ref y4]) i4 = some (.lst [V.ref y4]) := upd_same
    have s4 : Sm G3 (upd (upd G3 y4 (.lst (signsV z))) i4 (.lst [V.ref y4])) := sy4.trans (Sm.new h4)
    generalize upd (upd G3 y4 (.lst (signsV z))) i4 (.lst [V.ref y4]) = G4 at s4 c4 d4 ⊢
    refine ⟨_, rfl, z, rfl, by show z.length + (z.length + 1) * 1 ≤ 16777216; omega, ⟨(show 1 ≤ sizeLine by decide), fun i5 h5 => ?_⟩⟩
    have c5 : upd G4 i5 (.lst [V.str (Txt.replace z (Str.ofString "-") (Str.ofString "0"))]) i5 = some (.lst [V.str (Txt.replace z (Str.ofString "-") (Str.ofString "0"))]) := upd_same
    have s5 : Sm G4 (upd G4 i5 (.lst [V.str (Txt.replace z (Str.ofString "-") (Str.ofString "0"))])) := Sm.new h5
    generalize upd G4 i5 (.lst [V.str (Txt.replace z (Str.ofString "-") (Str.ofString "0"))]) = G5 at s5 c5 ⊢
    refine ⟨_, rfl, z, rfl, zsz2, fun y6 hy6 => ⟨(show 1 ≤ sizeLine by decide), fun i6 h6 => ?_⟩⟩
    have sy6 : Sm G5 (upd G5 y6 (.tup (signsV z))) := Sm.new hy6
    have ny6 := ((s0.trans s1).trans ((s2.trans s3).trans (s4.trans s5))).free hy6
    have d6 : upd (upd G5 y6 (.tup (signsV z))) i6 (.lst [V.ref y6]) y6 = some (.tup (signsV z)) := Sm.new h6 _ _ upd_same
    have c6 : upd (upd G5 y6 (.tup (signsV z))) i6 (.lst [V.ref y6]) i6 = some (.lst [V.ref y6]) := upd_same
    have s6 : Sm G5 (upd (upd G5 y6 (.tup (signsV z))) i6 (.lst [V.ref y6])) := sy6.trans (Sm.new h6)
    generalize upd (upd G5 y6 (.tup (signsV z))) i6 (.lst [V.ref y6]) = G6 at s6 c6 d6 ⊢
    refine ⟨(show 7 ≤ sizeLine by decide), fun L hL => ?_⟩
    have s7 : Sm G6 (upd G6 L (.lst [V.ref i0, .ref i1, .ref i2, .ref i3, .ref i4, .ref i5, .ref i6])) := Sm.new hL
    have cL : upd G6 L (.lst [V.ref i0, .ref i1, .ref i2, .ref i3, .ref i4, .ref i5, .ref i6]) L = some (.lst [V.ref i0, .ref i1, .ref i2, .ref i3, .ref i4, .ref i5, .ref i6]) := upd_same
    generalize upd G6 L (.lst [V.ref i0, .ref i1, .ref i2, .ref i3, .ref i4, .ref i5, .ref i6]) = G7 at s7 cL ⊢
    have sAll : Sm H2 G7 := ((s0.trans s1).trans ((s2.trans s3).trans (s4.trans s5))).trans (s6.trans s7)
    have mAll : Sm (msk a c H2) (msk a c G7) := sAll.msk
    have D7 := hD2.sm sAll
    have hl7 := sAll _ _ hl2
    have tk : cutV (zs.map V.str) none (some (j : Int)) = (zs.take j).map V.str := cut_start zs j (by omega)
    have dr : cutV (zs.map V.str) (some ((j : Int) + 1)) none = (zs.drop (j + 1)).map V.str := cut_end zs (j + 1) (by omega)
    have tkl : (zs.take j).length ≤ 200 := by rw [List.length_take]; omega
    have drl : (zs.drop (j + 1)).length ≤ 200 := by rw [List.length_drop]; omega
    have dA : ∀ {HH : Hp}, DpAll K HH (cutV (zs.map V.str) none (some (j : Int))) ((zs.take j).map PyData.str) := fun {HH} => by
      rw [tk]
      exact dpAll_strs _
    have dB : ∀ {HH : Hp}, DpAll K HH (cutV (zs.map V.str) (some ((j : Int) + 1)) none) ((zs.drop (j + 1)).map PyData.str) := fun {HH} => by
      rw [dr]
      exact dpAll_strs _
    refine ⟨_, rfl, rfl, _, rfl, iteB (fun hb2 => ?_) (fun hb2 => ?_)⟩
    · refine ⟨_, rfl, _, rfl, _, rfl, l, _, rfl, .inl (.inl hl7), fun q1 hq1 => ?_⟩
      refine ⟨_, rfl, _, rfl, _, _, rfl, rfl, _, rfl, l, _, rfl, .inl (.inl (Sm.new hq1 _ _ hl7)), fun q2 hq2 => ⟨q1, q2, _, _, rfl, rfl, Sm.new hq2 _ _ upd_same, upd_same, ?_, fun q3 hq3 => ?_⟩⟩
      · rw [tk, dr, List.length_map, List.length_map, sizeLine_eq]
        omega
      · have sq := (Sm.new (o := .lst (cutV (zs.map V.str) none (some (j : Int)))) hq1).trans (Sm.new (o := .lst (cutV (zs.map V.str) (some ((j : Int) + 1)) none)) hq2)
        have e : cutV (zs.map V.str) none (some (j : Int)) ++ cutV (zs.map V.str) (some ((j : Int) + 1)) none = (zs.take j ++ zs.drop (j + 1)).map V.str := by rw [tk, dr, List.map_append]
        rw [e]
        refine q q3 (.list ((zs.take j ++ zs.drop (j + 1)).map PyData.str)) _ (.lst (.inl (.inl (at_msk D7 (sq.free hq3) upd_same))) (dpAll_strs _)) (small_strs (by rw [List.length_append]; omega) fun y hy => ?_) ((D7.sm sq).sm (Sm.new hq3)) ((e12.trans mAll).trans ((msk_new hq1).trans ((msk_new hq2).trans (msk_new hq3))))
        rcases List.mem_append.mp hy with h | h
        · exact allz y (List.mem_of_mem_take h)
        · exact allz y (List.mem_of_mem_drop h)
    have f1 : r2 ≠ 1 := fun e => by
      have : decide (V.int r2 = V.int 1) = false := hb2
      rw [e] at this
      exact absurd this (by decide)
    -- the rest: one row is another thing
    have rest : ∀ (jj : Nat) (i : Addr) (x : V) (e : PyData), ([V.ref i0, .ref i1, .ref i2, .ref i3, .ref i4, .ref i5, .ref i6] : List V)[jj]? = some (.ref i) → r2 - 1 = (jj : Int) → G7 i = some (.lst [x]) → Dp K (msk a c G7) x e →
        (∀ y, e = .str y → y.length ≤ 800 ∧ PyData.strOk y = true) →
        (tRet (tOp rCat (tOp rCat (tSl (rSlL K) (tVar 1) tNoPart (tPart (tVar 2))) (tOp (rIxL K) (tVar 5) (tOp (rI0 fun i j => V.int (i - j)) (tVar 3) (tC (V.int 1))))) (tSl (rSlL K) (tVar 1) (tPart (tOp (rI0 fun i j => V.int (i + j)) (tVar 2) (tC (V.int 1)))) tNoPart)))
          { nx := fun _ H' => Q V.non H', rt := Q } [some (.ref a), some (.ref l), some (.int (j : Nat)), some (.int r2), some (.str z), some (.ref L)] G7 := by
      intro jj i x e hi hj he de ok
      refine ⟨_, rfl, _, rfl, _, rfl, l, _, rfl, .inl (.inl hl7), fun q1 hq1 => ?_⟩
      have sq1 : Sm G7 (upd G7 q1 (.lst (cutV (zs.map V.str) none (some (j : Int))))) := Sm.new hq1
      refine ⟨_, rfl, _, rfl, _, _, rfl, rfl, L, _, _, _, rfl, rfl, .inl (.inl (sq1 _ _ cL)), at_of (j := jj) hj hi, q1, i, _, _, rfl, rfl, upd_same, sq1 _ _ he, ?_, fun q2 hq2 => ?_⟩
      · rw [tk, List.length_map, sizeLine_eq]
        show (zs.take j).length + 1 ≤ 16777216
        omega
      have sq2 := sq1.trans (Sm.new (o := .lst (cutV (zs.map V.str) none (some (j : Int)) ++ [x])) hq2)
      refine ⟨_, rfl, _, rfl, _, _, rfl, rfl, _, rfl, l, _, rfl, .inl (.inl (sq2 _ _ hl7)), fun q3 hq3 => ⟨q2, q3, _, _, rfl, rfl, Sm.new hq3 _ _ upd_same, upd_same, ?_, fun q4 hq4 => ?_⟩⟩
      · rw [tk, dr, List.length_append, List.length_map, List.length_map, sizeLine_eq]
        show (zs.take j).length + 1 + (zs.drop (j + 1)).length ≤ 16777216
        omega
      have sq3 := sq2.trans (Sm.new (o := .lst (cutV (zs.map V.str) (some ((j : Int) + 1)) none)) hq3)
      have sq4 := sq3.trans (Sm.new (o := .lst (cutV (zs.map V.str) none (some (j : Int)) ++ [x] ++ cutV (zs.map V.str) (some ((j : Int) + 1)) none)) hq4)
      refine q q4 (.list ((zs.take j).map PyData.str ++ [e] ++ (zs.drop (j + 1)).map PyData.str)) _ (.lst (.inl (.inl (at_msk D7 (sq3.free hq4) upd_same))) ?_) (small_list ?_ ?_) (D7.sm sq4) ((e12.trans mAll).trans sq4.msk)
      · exact dpAll_append (dpAll_append dA (.cons (dp_mono sq4.msk de) .nil)) dB
      · rw [List.length_append, List.length_append, List.length_map, List.length_map]
        show (zs.take j).length + 1 + (zs.drop (j + 1)).length ≤ 800
        omega
      · intro e' he' y ey
        rcases List.mem_append.mp he' with h | h
        · rcases List.mem_append.mp h with h | h
          · obtain ⟨w', hw, rfl⟩ := List.mem_map.mp h
            cases ey
            have := allz _ (List.mem_of_mem_take hw)
            exact ⟨this.1, this.2.ok⟩
          · rw [List.mem_singleton.mp h] at ey
            exact ok y ey
        · obtain ⟨w', hw, rfl⟩ := List.mem_map.mp h
          cases ey
          have := allz _ (List.mem_of_mem_drop hw)
          exact ⟨this.1, this.2.ok⟩
    have zA : Asc z := Asc.row zrow
    have mA : Asc (Str.ofString "-") := fun c hc => by
      have e : (Str.ofString "-").cps.toList = [45] := by decide +kernel
      rw [e, List.mem_singleton] at hc
      omega
    have bA : Asc (Str.ofString " ") := fun c hc => by
      have e : (Str.ofString " ").cps.toList = [32] := by decide +kernel
      rw [e, List.mem_singleton] at hc
      omega
    have oA : Asc (Str.ofString "0") := fun c hc => by
      have e : (Str.ofString "0").cps.toList = [48] := by decide +kernel
      rw [e, List.mem_singleton] at hc
      omega
    have appl : ∀ x y : Str, (x ++ y).length = x.length + y.length := fun x y => by
      show (x.cps ++ y.cps).size = x.cps.size + y.cps.size
      rw [Array.size_append]
    have cl : (cutS z none (some (-1))).length ≤ n := by
      have := cutS_len z none (some (-1))
      omega
    have sgs : ∀ {H' : Hp}, DpAll K H' (signsV z) ((z.cps.toList.map fun c => (⟨#[c]⟩ : Str)).map PyData.str) := fun {H'} => by
      have := dpAll_strs (K := K) (H := H') (z.cps.toList.map fun c => (⟨#[c]⟩ : Str))
      rw [List.map_map] at this
      exact this
    have s27 := s3.trans (s4.trans (s5.trans (s6.trans s7)))
    have cases6 : r2 - 1 = 1 ∨ r2 - 1 = 2 ∨ r2 - 1 = 3 ∨ r2 - 1 = 4 ∨ r2 - 1 = 5 ∨ r2 - 1 = 6 := by omega
    rcases cases6 with h | h | h | h | h | h
    · exact rest 1 i1 _ (.str (cutS z none (some (-1)))) rfl h ((s2.trans s27) _ _ c1) (.str _) fun y e => by
        cases e
        exact ⟨by omega, (asc_cut zA).ok⟩
    · exact rest 2 i2 _ (.str (z ++ Str.ofString "-")) rfl h (s27 _ _ c2) (.str _) fun y e => by
        cases e
        exact ⟨by rw [appl]; show z.length + 1 ≤ 800; omega, (asc_app zA mA).ok⟩
    · exact rest 3 i3 _ (.str (cutS z none (some (-1)) ++ Str.ofString " ")) rfl h ((s4.trans (s5.trans (s6.trans s7))) _ _ c3) (.str _) fun y e => by
        cases e
        exact ⟨by rw [appl]; show (cutS z none (some (-1))).length + 1 ≤ 800; omega, (asc_app (asc_cut zA) bA).ok⟩
    · exact rest 4 i4 _ _ rfl h ((s5.trans (s6.trans s7)) _ _ c4) (.lst (.inl (.inl (at_msk hD2 ny4 ((s5.trans (s6.trans s7)) _ _ d4)))) sgs) fun y e => nomatch e
    · exact rest 5 i5 _ (.str (Txt.replace z (Str.ofString "-") (Str.ofString "0"))) rfl h ((s6.trans s7) _ _ c5) (.str _) fun y e => by
        cases e
        have := TK.replace_len z (Str.ofString "-") (Str.ofString "0")
        have o1 : (Str.ofString "0").length = 1 := rfl
        rw [o1] at this
        exact ⟨by omega, (asc_replace zA oA).ok⟩
    · exact rest 6 i6 _ _ rfl h (s7 _ _ c6) (.tup (.inl (.inl (at_msk hD2 ny6 (s7 _ _ d6)))) sgs) fun y e => nomatch e
end
end Z
set_option Elab.async false
set_option linter.all false
set_option maxRecDepth 100000
set_option maxHeartbeats 4000000
set_option autoImplicit false
namespace Z
open PySem PySem.Spec PyProof.Rows L2
open C8 (Cal pe_c Mak pe_mk Met pe_mt pe_mt0 pe_gc)
theorem pl_str {n W : Nat} {z : Str} (h : Pl n W (.str z)) : z.length ≤ W ∧ PyData.strOk z = true := ⟨h.wt, h.cl⟩
theorem wall_str : ∀ {ds : List PyData} {z : Str}, PyData.str z ∈ ds → z.length + 1 ≤ PyData.weightAll ds
  | [], _, h => nomatch h
  | e :: ds, z, h => by
    show z.length + 1 ≤ e.weight + 1 + PyData.weightAll ds
    rcases List.mem_cons.mp h with q | q
    · rw [← q]
      show z.cps.size + 1 ≤ z.cps.size + 1 + _
      omega
    · have := wall_str q
      omega
theorem wall_len : ∀ ds : List PyData, ds.length ≤ PyData.weightAll ds
  | [] => Nat.zero_le _
  | e :: ds => by
    have := wall_len ds
    show ds.length + 1 ≤ e.weight + 1 + PyData.weightAll ds
    omega
theorem cla_str : ∀ {ds : List PyData} {z : Str}, PyData.canLayAll0 ds = true → PyData.str z ∈ ds → PyData.strOk z = true
  | [], _, _, h => nomatch h
  | e :: ds, z, c, h => by
    have c' : e.canLay0 = true ∧ PyData.canLayAll0 ds = true := by simpa [PyData.canLayAll0] using c
    rcases List.mem_cons.mp h with q | q
    · rw [← q] at c'
      exact c'.1
    · exact cla_str c'.2 q
theorem pl_small {n W : Nat} {d : PyData} (h : Pl n W d) (w : W ≤ 800) : Small d := fun ds e => by
  have wt := h.wt
  have cl := h.cl
  have key : PyData.weightAll ds ≤ W ∧ PyData.canLayAll0 ds = true := by
    cases d with
    | list xs =>
      cases e
      exact ⟨wt, cl⟩
    | tuple xs =>
      cases e
      exact ⟨wt, cl⟩
    | none => cases e
    | bool _ => cases e
    | int _ => cases e
    | str _ => cases e
    | dict _ => cases e
  have := wall_len ds
  exact ⟨by omega, fun z hz => ⟨by have := wall_str hz; omega, cla_str key.2 hz⟩⟩
theorem any_small : ∀ {m : Nat} {d : PyData}, AnyD m d → Small d
  | 0, d, h => pl_small (show Pl 1 70 d from h) (by decide)
  | m + 1, d, h => by
    rcases h with h | ⟨ds, l, a, e⟩
    · exact pl_small h (by decide)
    · have hstr : ∀ z, PyData.str z ∈ ds → z.length ≤ 800 ∧ PyData.strOk z = true := fun z hz => by
        have y := a _ hz
        have p : Pl 1 70 (.str z) := by
          cases m with
          | zero => exact y
          | succ m =>
            rcases y with y | ⟨_, _, _, e | e⟩
            · exact y
            · cases e
            · cases e
        exact ⟨by have := (pl_str p).1; omega, (pl_str p).2⟩
      rcases e with rfl | rfl
      · exact fun ds' e => by
          cases e
          exact ⟨by omega, hstr⟩
      · exact fun ds' e => by
          cases e
          exact ⟨by omega, hstr⟩
/-- some small plain data -/
def Vl (K : PySem.W.Frag) (H : Hp) (v : V) : Prop := ∃ d, Dp K H v d ∧ Small d
theorem Vl.sm {K : PySem.W.Frag} {H H' : Hp} {v : V} (h : Vl K H v) (e : Sm H H') : Vl K H' v :=
  let ⟨d, a, b⟩ := h
  ⟨d, dp_mono e a, b⟩
theorem fre_msk {H H' : Hp} {a c : Addr} (hD : DealAt H a c) : Sm (fre H H') (msk a c H') := fun b o h => by
  obtain ⟨n, h'⟩ := fre_some h
  rw [msk_ne (fun z => hD.some.1 (by rw [← z]; exact n)) (fun z => hD.some.2 (by rw [← z]; exact n))]
  exact h'
theorem fre_le {H H' : Hp} : Sm (fre H H') H' := fun _ _ h => (fre_some h).2
theorem small_ints (a b : Int) : Small (.tuple [.int a, .int b]) := fun ds e => by
  cases e
  exact ⟨(by show 2 ≤ 800; decide), fun z hz => by simp at hz⟩
section
variable {P : Program} {w : World} {K : PySem.W.Frag} {mg : Str → Option Value} {base : Heap}
abbrev s_law : Stmt := topS 40
abbrev n_law : List Str := ["_law_script", "_law_deal_here", "_law_turn", "_law_starts", "_law_periods", "_law_rows", "_law_three", "_law_value", "_law_one", "_law_two", "_law_odd", "_law_lots", "_law_some"]
abbrev p_law : List Str := ["_law_script"]
theorem sc_law : FnScope n_law p_law (defScope s_law) := ⟨rfl, rfl, rfl, by decide +kernel, rfl, by decide +kernel, by decide +kernel⟩
def spLaw (K : PySem.W.Frag) : Sp := fun vs H Q _ => ∃ (a : Addr) (ns : List Int), vs = [.ref a] ∧ SqL K H a (ns.map V.int) ∧ ns.length ≤ 63 ∧ ∀ H', Q (.bl true) H'
theorem ok_law {f : Addr} {fd : FuncData} (F : Fun K "law" "law" s_law f fd) (T : Bt3 mg) (Cdeal : Cal P w K mg base 1 "_law_deal" (spDeal K) []) (Ctab : Cal P w K mg base 4 "_law_table" (spTable K) [])
    (Cspo : Cal P w K mg base 3 "_law_spoilt" (spSpo K) []) (Cany : Cal P w K mg base 8 "_law_any" (spAny K 5) []) (Cpick : Cal P w K mg base 3 "_law_pick" (spPick K) [])
    (Ctold : Cal P w K mg base 6 "_law_told" (spWord K) []) (Cdue : Cal P w K mg base 3 "_law_due" (spWord K) []) : FnOk P w K mg base CX0 9 f fd p_law (spLaw K) := by
  refine F.ok sc_law (fun vs H Q E h => ?_) (fun cdv A outer s H vs Q E hr h => ?_)
  · obtain ⟨a, ns, rfl, _⟩ := h
    rfl
  · obtain ⟨a, ns, rfl, hS, hlen, q⟩ := h
    refine ⟨_, (pss_cons (ps_set (i := 1) sc_law.nd rfl (Or.inl rfl) (pe_c Cdeal hr (by decide) (by rfl) (pa_cons (pv 0) (pa_cons pe_int pa_nil))))
      (pss_cons (ps_for PassesOwn.never rfl (pi_range1 rfl T.n_range (pa_cons pe_int pa_nil)) (pg_name (i := 2) sc_law.nd rfl (Or.inl rfl))
        (pss_cons (ps_asg (pe_c Ctab hr (by decide) (by rfl) (pa_cons (pv 1) (pa_cons pe_int (pa_cons pe_int pa_nil)))) (pg_tup rfl (pgs_cons (pg_name (i := 3) sc_law.nd rfl (Or.inl rfl)) (pgs_cons (pg_name (i := 4) sc_law.nd rfl (Or.inl rfl)) (pgs_cons (pg_name (i := 5) sc_law.nd rfl (Or.inl rfl)) pgs_nil)))))
        (pss_cons (ps_set (i := 6) sc_law.nd rfl (Or.inl rfl) (pe_lst (pa_cons (pv 5) (pa_cons (pe_c Cspo hr (by decide) (by rfl) (pa_cons (pv 1) (pa_cons (pv 5) pa_nil))) (pa_cons (pe_c Cany hr (by decide) (by rfl) (pa_cons (pv 1) (pa_cons pe_int pa_nil))) pa_nil)))))
        (pss_cons (ps_for PassesOwn.never rfl (pi_list (pv 6)) (pg_name (i := 7) sc_law.nd rfl (Or.inl rfl))
          (pss_one (ps_if (pt_cmpR op_ne (pe_c Ctold hr (by decide) (by rfl) (pa_cons (pv 3) (pa_cons (pv 4) (pa_cons (pv 7) pa_nil)))) (pe_c Cdue hr (by decide) (by rfl) (pa_cons (pv 3) (pa_cons (pv 4) (pa_cons (pv 7) pa_nil)))) (nomark _))
            (pss_one (ps_ret pe_bl))
            pss_nil)))
        (pss_cons (ps_par (i := 8) (j := 9) rfl sc_law.nd rfl rfl (by decide) rfl rfl (pa_cons (pe_c Cany hr (by decide) (by rfl) (pa_cons (pv 1) (pa_cons pe_int pa_nil))) (pa_cons (pe_c Cany hr (by decide) (by rfl) (pa_cons (pv 1) (pa_cons pe_int pa_nil))) pa_nil)) (by rfl))
        (pss_cons (ps_set (i := 10) sc_law.nd rfl (Or.inl rfl) (pe_c Cpick hr (by decide) (by rfl) (pa_cons (pv 1) (pa_cons (pe_lst (pa_cons (pe_tup (pa_cons pe_int (pa_cons pe_int pa_nil))) (pa_cons (pe_tup (pa_cons pe_bl (pa_cons pe_int pa_nil))) (pa_cons (pe_tup (pa_cons pe_int (pa_cons (pe_un un_neg pe_int) pa_nil))) (pa_cons (pe_lst (pa_cons pe_int (pa_cons pe_int (pa_cons pe_int pa_nil)))) (pa_cons (pe_tup (pa_cons pe_int pa_nil)) (pa_cons pe_str (pa_cons (pe_tup (pa_cons pe_non (pa_cons pe_int pa_nil))) pa_nil)))))))) pa_nil))))
        (pss_cons (ps_set (i := 11) sc_law.nd rfl (Or.inl rfl) (pe_lst (pa_cons (pe_tup (pa_cons (pv 8) (pa_cons (pv 4) (pa_cons (pv 5) pa_nil)))) (pa_cons (pe_tup (pa_cons (pv 3) (pa_cons (pv 9) (pa_cons (pv 5) pa_nil)))) (pa_cons (pe_tup (pa_cons (pv 8) (pa_cons (pv 9) (pa_cons (pe_ix ix_list (pv 6) pe_int (fun _ _ => rfl)) pa_nil)))) (pa_cons (pe_tup (pa_cons (pv 10) (pa_cons (pv 8) (pa_cons (pv 5) pa_nil)))) (pa_cons (pe_tup (pa_cons (pv 3) (pa_cons (pv 10) (pa_cons pe_non pa_nil)))) pa_nil)))))))
        (pss_one (ps_for PassesOwn.never rfl (pi_list (pv 11)) (pg_name (i := 12) sc_law.nd rfl (Or.inl rfl))
          (pss_one (ps_if (pt_cmpR op_ne (pe_c Ctold hr (by decide) (by rfl) (pa_cons (pe_ix ix_tup (pv 12) pe_int (fun _ _ => rfl)) (pa_cons (pe_ix ix_tup (pv 12) pe_int (fun _ _ => rfl)) (pa_cons (pe_ix ix_tup (pv 12) pe_int (fun _ _ => rfl)) pa_nil)))) (pe_c Cdue hr (by decide) (by rfl) (pa_cons (pe_ix ix_tup (pv 12) pe_int (fun _ _ => rfl)) (pa_cons (pe_ix ix_tup (pv 12) pe_int (fun _ _ => rfl)) (pa_cons (pe_ix ix_tup (pv 12) pe_int (fun _ _ => rfl)) pa_nil)))) (nomark _))
            (pss_one (ps_ret pe_bl))
            pss_nil)))))))))))
      (pss_one (ps_ret pe_bl)))), ?_⟩
    refine ⟨_, rfl, a, ns, 0, rfl, hS, hlen, fun d c H1 t1 n1 n2 D1 => ?_⟩
    refine ⟨12, rfl, by decide, by decide, for_range (lo := 0) (n := 12) (fun i σ H2 => (∃ x2 x3 x4 x5 x6 x7 x8 x9 x10 x11 x12, σ = [some (.ref a), some (.ref d), x2, x3, x4, x5, x6, x7, x8, x9, x10, x11, x12]) ∧ DealAt H2 d c) ?_ ?_ ?_⟩
    · exact ⟨⟨none, none, none, none, none, none, none, none, none, none, none, rfl⟩, D1⟩
    · rintro i' σ H2 hi ⟨⟨x2, x3, x4, x5, x6, x7, x8, x9, x10, x11, x12, rfl⟩, D2⟩
      refine ⟨_, rfl, d, c, 3, 3, rfl, by decide, by decide, by decide, D2, fun t sA pA l s0 s1 p0 p1 rows H3 tb ft fs fp fl D3 e3 => ?_⟩
      refine ⟨t, _, rfl, fre_le.tup ft, rfl, _, _, rfl, _, _, rfl, _, _, rfl, rfl, ?_⟩
      have fm : Sm (fre H2 H3) (msk d c H3) := fre_msk D2
      have vS : Vl K (msk d c H3) (.ref sA) := ⟨.tuple [.int s0, .int s1], .tup (fm.tup fs) (.cons (.int _) (.cons (.int _) .nil)), small_ints _ _⟩
      have vP : Vl K (msk d c H3) (.ref pA) := ⟨.tuple [.int p0, .int p1], .tup (fm.tup fp) (.cons (.int _) (.cons (.int _) .nil)), small_ints _ _⟩
      have hL3 := fm _ _ fl
      have rl : rows.length ≤ 6 := by
        have := tb.len
        have := tb.a0
        have := tb.c0
        omega
      have wl : s1 + p1 ≤ 6 := by
        have := tb.a1
        have := tb.c1
        omega
      have vR : Vl K (msk d c H3) (.ref l) := ⟨.list (rows.map PyData.str), .lst (.inl (.inl hL3)) (dpAll_strs _), small_strs (by omega) fun z hz => ⟨by rw [(tb.row z hz).1]; omega, Asc.row (tb.row z hz)⟩⟩
      refine ⟨_, rfl, _, rfl, _, rfl, d, c, l, s1 + p1, rows, rfl, D3, hL3, by have := tb.len; have := tb.b0; omega, by omega, by omega, tb.row, fun ps dps H4 hps sps D4 e4 => ?_⟩
      refine ⟨_, rfl, d, c, 3, rfl, by decide, D4, fun va da H5 hva ava D5 e5 => ⟨(show 3 ≤ sizeLine by decide), fun qa hqa => ?_⟩⟩
      have vA : Vl K (msk d c H5) va := ⟨da, dp_mono (fre_msk D4) hva, any_small ava⟩
      have vX : Vl K (msk d c H5) (.ref ps) := ⟨dps, dp_mono e5 hps, sps⟩
      have e35 := e4.trans e5
      have m6 := msk_new (a := d) (c := c) (o := .lst [V.ref l, .ref ps, va]) hqa
      have s6 : Sm H5 (upd H5 qa (.lst [V.ref l, .ref ps, va])) := Sm.new hqa
      have l6 : upd H5 qa (.lst [V.ref l, .ref ps, va]) qa = some (.lst [V.ref l, .ref ps, va]) := upd_same
      have D6 := D5.sm s6
      have l6m : msk d c (upd H5 qa (.lst [V.ref l, .ref ps, va])) qa = some (.lst [V.ref l, .ref ps, va]) := at_msk D5 hqa l6
      generalize upd H5 qa (.lst [V.ref l, .ref ps, va]) = H6 at m6 s6 l6 D6 l6m ⊢
      have e36 := e35.trans m6
      have wS := vS.sm e36
      have wP := vP.sm e36
      have wR := vR.sm e36
      have wA := vA.sm m6
      have wX := vX.sm m6
      -- the three
      have all3 : ∀ i x, ([V.ref l, .ref ps, va] : List V)[i]? = some x → Vl K H6 x := fun i x hx => by
        rcases List.mem_cons.mp (List.mem_of_getElem? hx) with h | h
        · rw [h]
          exact wR.sm msk_le
        · rcases List.mem_cons.mp h with h | h
          · rw [h]
            exact wX.sm msk_le
          · rw [List.mem_singleton.mp h]
            exact wA.sm msk_le
      refine ⟨_, rfl, qa, rfl, ⟨_, .inl (.inl l6)⟩, for_list (K := K) (a := qa) (xs := [V.ref l, .ref ps, va])
        (fun i σ H' => (∃ x7, σ = [some (.ref a), some (.ref d), some (.int (0 + (i' : Int))), some (.ref sA), some (.ref pA), some (.ref l), some (.ref qa), x7, x8, x9, x10, x11, x12]) ∧ Sm H6 H') ?_ ?_ ?_ ?_⟩
      · exact ⟨⟨_, rfl⟩, Sm.refl _⟩
      · exact fun i σ H' _ h => .inl (.inl (h.2 _ _ l6))
      · rintro i x σ H' hx ⟨⟨x7, rfl⟩, sm⟩
        obtain ⟨d1, g1, b1⟩ := (wS.sm msk_le).sm sm
        obtain ⟨d2, g2, b2⟩ := (wP.sm msk_le).sm sm
        obtain ⟨d3, g3, b3⟩ := (all3 i x hx).sm sm
        refine ⟨_, rfl, _, rfl, _, rfl, _, _, _, d1, d2, d3, rfl, g1, g2, g3, b1, b2, b3, fun G1 z1 => ⟨_, rfl, _, rfl, _, rfl, _, _, _, d1, d2, d3, rfl, dp_mono z1 g1, dp_mono z1 g2, dp_mono z1 g3, b1, b2, b3, fun G2 z2 => ⟨rfl, _, rfl, ite0 (by simp) ⟨⟨_, rfl⟩, sm.trans (z1.trans z2)⟩⟩⟩⟩
      · rintro σ H7 ⟨⟨x7, rfl⟩, s7⟩
        have D7 := D6.sm s7
        have m7 : Sm (msk d c H6) (msk d c H7) := s7.msk
        refine ⟨_, rfl, d, c, 2, rfl, by decide, D7, fun v1 d1 H8 g1 b1 D8 e8 => ⟨_, rfl, d, c, 2, rfl, by decide, D8, fun v2 d2 H9 g2 b2 D9 e9 => ⟨_, _, rfl, ?_⟩⟩⟩
        have v1m : Vl K (msk d c H9) v1 := ⟨d1, dp_mono ((fre_msk D7).trans e9) g1, any_small b1⟩
        have v2m : Vl K (msk d c H9) v2 := ⟨d2, dp_mono (fre_msk D8) g2, any_small b2⟩
        have e69 := m7.trans (e8.trans e9)
        -- the odd ones
        refine ⟨_, rfl, (show 2 ≤ sizeLine by decide), fun o1 h1 => ⟨(show 2 ≤ sizeLine by decide), fun o2 h2 => ⟨1, rfl, (show 2 ≤ sizeLine by decide), fun o3 h3 => ⟨(show 3 ≤ sizeLine by decide), fun o4 h4 => ⟨(show 1 ≤ sizeLine by decide), fun o5 h5 => ⟨(show 2 ≤ sizeLine by decide), fun o6 h6 => ⟨(show 7 ≤ sizeLine by decide), fun o7 h7 => ?_⟩⟩⟩⟩⟩⟩⟩
        have z0 : Sm H9 H9 := Sm.refl _
        have n1 : H9 o1 = none := z0.free h1
        have c1 : upd H9 o1 (.tup [V.int 1, .int 0]) o1 = some (.tup [V.int 1, .int 0]) := upd_same
        have y1 : Sm H9 (upd H9 o1 (.tup [V.int 1, .int 0])) := Sm.new h1
        have z1 := z0.trans y1
        generalize hG1 : upd H9 o1 (.tup [V.int 1, .int 0]) = G1 at n1 c1 y1 z1 h2 h3 h4 h5 h6 h7 ⊢
        have n2 : H9 o2 = none := z1.free h2
        have c2 : upd G1 o2 (.tup [V.bl true, .int 1]) o2 = some (.tup [V.bl true, .int 1]) := upd_same
        have y2 : Sm G1 (upd G1 o2 (.tup [V.bl true, .int 1])) := Sm.new h2
        have z2 := z1.trans y2
        generalize hG2 : upd G1 o2 (.tup [V.bl true, .int 1]) = G2 at n2 c2 y2 z2 h3 h4 h5 h6 h7 ⊢
        have n3 : H9 o3 = none := z2.free h3
        have c3 : upd G2 o3 (.tup [V.int 0, .int (-1)]) o3 = some (.tup [V.int 0, .int (-1)]) := upd_same
        have y3 : Sm G2 (upd G2 o3 (.tup [V.int 0, .int (-1)])) := Sm.new h3
        have z3 := z2.trans y3
        generalize hG3 : upd G2 o3 (.tup [V.int 0, .int (-1)]) = G3 at n3 c3 y3 z3 h4 h5 h6 h7 ⊢
        have n4 : H9 o4 = none := z3.free h4
        have c4 : upd G3 o4 (.lst [V.int 1, .int 1, .int 1]) o4 = some (.lst [V.int 1, .int 1, .int 1]) := upd_same
        have y4 : Sm G3 (upd G3 o4 (.lst [V.int 1, .int 1, .int 1])) := Sm.new h4
        have z4 := z3.trans y4
        generalize hG4 : upd G3 o4 (.lst [V.int 1, .int 1, .int 1]) = G4 at n4 c4 y4 z4 h5 h6 h7 ⊢
        have n5 : H9 o5 = none := z4.free h5
        have c5 : upd G4 o5 (.tup [V.int 1]) o5 = some (.tup [V.int 1]) := upd_same
        have y5 : Sm G4 (upd G4 o5 (.tup [V.int 1])) := Sm.new h5
        have z5 := z4.trans y5
        generalize hG5 : upd G4 o5 (.tup [V.int 1]) = G5 at n5 c5 y5 z5 h6 h7 ⊢
        have n6 : H9 o6 = none := z5.free h6
        have c6 : upd G5 o6 (.tup [V.non, .int 1]) o6 = some (.tup [V.non, .int 1]) := upd_same
        have y6 : Sm G5 (upd G5 o6 (.tup [V.non, .int 1])) := Sm.new h6
        have z6 := z5.trans y6
        generalize hG6 : upd G5 o6 (.tup [V.non, .int 1]) = G6 at n6 c6 y6 z6 h7 ⊢
        have c7 : upd G6 o7 (.lst [V.ref o1, .ref o2, .ref o3, .ref o4, .ref o5, .str (Str.ofString "11"), .ref o6]) o7 = some (.lst [V.ref o1, .ref o2, .ref o3, .ref o4, .ref o5, .str (Str.ofString "11"), .ref o6]) := upd_same
        have n7 : H9 o7 = none := z6.free h7
        have y7 : Sm G6 (upd G6 o7 (.lst [V.ref o1, .ref o2, .ref o3, .ref o4, .ref o5, .str (Str.ofString "11"), .ref o6])) := Sm.new h7
        have z7 := z6.trans y7
        refine ⟨d, c, o7, _, rfl, D9.sm z7, .inl (.inl (at_msk D9 n7 c7)), (by decide : (0 : Nat) < 7), (by decide : (7 : Nat) ≤ 1000), fun jj vo H16 hjj D16 e16 => ?_⟩
        have z7m : Sm (msk d c H9) (msk d c _) := z7.msk
        have e96 := z7m.trans e16
        have nostr : ∀ {ds : List PyData}, ds.length ≤ 800 → (∀ z, PyData.str z ∉ ds) → Small (.tuple ds) ∧ Small (.list ds) := fun {ds} l h =>
          ⟨fun ds' e => (by cases e; exact ⟨l, fun z hz => absurd hz (h z)⟩), fun ds' e => (by cases e; exact ⟨l, fun z hz => absurd hz (h z)⟩)⟩
        have V1 : Vl K (msk d c H16) (.ref o1) := ⟨(.tuple [.int 1, .int 0]), .tup (.inl (.inl (e16 _ _ (at_msk D9 n1 ((y2.trans (y3.trans (y4.trans (y5.trans (y6.trans y7))))) _ _ c1))))) (.cons (.int _) (.cons (.int _) .nil)), (nostr (by decide) (fun z hz => by simp at hz)).1⟩
        have V2 : Vl K (msk d c H16) (.ref o2) := ⟨(.tuple [.bool true, .int 1]), .tup (.inl (.inl (e16 _ _ (at_msk D9 n2 ((y3.trans (y4.trans (y5.trans (y6.trans y7)))) _ _ c2))))) (.cons (.bl _) (.cons (.int _) .nil)), (nostr (by decide) (fun z hz => by simp at hz)).1⟩
        have V3 : Vl K (msk d c H16) (.ref o3) := ⟨(.tuple [.int 0, .int (-1)]), .tup (.inl (.inl (e16 _ _ (at_msk D9 n3 ((y4.trans (y5.trans (y6.trans y7))) _ _ c3))))) (.cons (.int _) (.cons (.int _) .nil)), (nostr (by decide) (fun z hz => by simp at hz)).1⟩
        have V4 : Vl K (msk d c H16) (.ref o4) := ⟨(.list [.int 1, .int 1, .int 1]), .lst (.inl (.inl (e16 _ _ (at_msk D9 n4 ((y5.trans (y6.trans y7)) _ _ c4))))) (.cons (.int _) (.cons (.int _) (.cons (.int _) .nil))), (nostr (by decide) (fun z hz => by simp at hz)).2⟩
        have V5 : Vl K (msk d c H16) (.ref o5) := ⟨(.tuple [.int 1]), .tup (.inl (.inl (e16 _ _ (at_msk D9 n5 ((y6.trans y7) _ _ c5))))) (.cons (.int _) .nil), (nostr (by decide) (fun z hz => by simp at hz)).1⟩
        have V6 : Vl K (msk d c H16) (.ref o6) := ⟨(.tuple [.none, .int 1]), .tup (.inl (.inl (e16 _ _ (at_msk D9 n6 (y7 _ _ c6))))) (.cons .non (.cons (.int _) .nil)), (nostr (by decide) (fun z hz => by simp at hz)).1⟩
        have V7 : Vl K (msk d c H16) (.str (Str.ofString "11")) := ⟨.str _, .str _, fun ds e => nomatch e⟩
        have VO : Vl K (msk d c H16) vo := by
          have hm := List.mem_of_getElem? hjj
          simp only [List.mem_cons, List.not_mem_nil, or_false] at hm
          rcases hm with h | h | h | h | h | h | h <;> rw [h]
          · exact V1
          · exact V2
          · exact V3
          · exact V4
          · exact V5
          · exact V7
          · exact V6
        have e616 := e69.trans e96
        have uS := (wS.sm e616).sm msk_le
        have uP := (wP.sm e616).sm msk_le
        have uR := (wR.sm e616).sm msk_le
        have uA := (wA.sm e616).sm msk_le
        have uO := VO.sm msk_le
        have u1 := (v1m.sm e96).sm msk_le
        have u2 := (v2m.sm e96).sm msk_le
        have uN : Vl K H16 .non := ⟨.none, .non, fun ds e => nomatch e⟩
        have lq : H16 qa = some (.lst [V.ref l, .ref ps, va]) := msk_le _ _ (e616 _ _ l6m)
        clear V1 V2 V3 V4 V5 V6 V7
        refine ⟨_, rfl, _, rfl, _, rfl, (show 3 ≤ sizeLine by decide), fun w1 hw1 => ⟨_, rfl, _, rfl, _, rfl, (show 3 ≤ sizeLine by decide), fun w2 hw2 => ⟨_, rfl, _, rfl, _, rfl, qa, _, 2, _, rfl, rfl, .inl (.inl (((Sm.new hw1).trans (Sm.new hw2)) _ _ lq)), atI_nat (j := 2) rfl, (show 3 ≤ sizeLine by decide), fun w3 hw3 =>
          ⟨_, rfl, _, rfl, _, rfl, (show 3 ≤ sizeLine by decide), fun w4 hw4 => ⟨_, rfl, _, rfl, (show 3 ≤ sizeLine by decide), fun w5 hw5 => ⟨(show 5 ≤ sizeLine by decide), fun w6 hw6 => ?_⟩⟩⟩⟩⟩⟩
        have r0 : Sm H16 H16 := Sm.refl _
        have k1 : upd H16 w1 (.tup [v1, V.ref pA, .ref l]) w1 = some (.tup [v1, V.ref pA, .ref l]) := upd_same
        have j1 : Sm H16 (upd H16 w1 (.tup [v1, V.ref pA, .ref l])) := Sm.new hw1
        have r1 := r0.trans j1
        generalize upd H16 w1 (.tup [v1, V.ref pA, .ref l]) = F1 at k1 j1 r1 hw2 hw3 hw4 hw5 hw6 ⊢
        have k2 : upd F1 w2 (.tup [V.ref sA, v2, .ref l]) w2 = some (.tup [V.ref sA, v2, .ref l]) := upd_same
        have j2 : Sm F1 (upd F1 w2 (.tup [V.ref sA, v2, .ref l])) := Sm.new hw2
        have r2 := r1.trans j2
        generalize upd F1 w2 (.tup [V.ref sA, v2, .ref l]) = F2 at k2 j2 r2 hw3 hw4 hw5 hw6 ⊢
        have k3 : upd F2 w3 (.tup [v1, v2, va]) w3 = some (.tup [v1, v2, va]) := upd_same
        have j3 : Sm F2 (upd F2 w3 (.tup [v1, v2, va])) := Sm.new hw3
        have r3 := r2.trans j3
        generalize upd F2 w3 (.tup [v1, v2, va]) = F3 at k3 j3 r3 hw4 hw5 hw6 ⊢
        have k4 : upd F3 w4 (.tup [vo, v1, .ref l]) w4 = some (.tup [vo, v1, .ref l]) := upd_same
        have j4 : Sm F3 (upd F3 w4 (.tup [vo, v1, .ref l])) := Sm.new hw4
        have r4 := r3.trans j4
        generalize upd F3 w4 (.tup [vo, v1, .ref l]) = F4 at k4 j4 r4 hw5 hw6 ⊢
        have k5 : upd F4 w5 (.tup [V.ref sA, vo, .non]) w5 = some (.tup [V.ref sA, vo, .non]) := upd_same
        have j5 : Sm F4 (upd F4 w5 (.tup [V.ref sA, vo, .non])) := Sm.new hw5
        have r5 := r4.trans j5
        generalize upd F4 w5 (.tup [V.ref sA, vo, .non]) = F5 at k5 j5 r5 hw6 ⊢
        have k6 : upd F5 w6 (.lst [V.ref w1, .ref w2, .ref w3, .ref w4, .ref w5]) w6 = some (.lst [V.ref w1, .ref w2, .ref w3, .ref w4, .ref w5]) := upd_same
        have j6 : Sm F5 (upd F5 w6 (.lst [V.ref w1, .ref w2, .ref w3, .ref w4, .ref w5])) := Sm.new hw6
        have r6 := r5.trans j6
        generalize upd F5 w6 (.lst [V.ref w1, .ref w2, .ref w3, .ref w4, .ref w5]) = F6 at k6 j6 r6 ⊢
        have all5 : ∀ (i : Nat) (x : V), ([V.ref w1, .ref w2, .ref w3, .ref w4, .ref w5] : List V)[i]? = some x → ∃ (tp : Addr) (y1 y2 y3 : V), x = V.ref tp ∧ F6 tp = some (HO.tup [y1, y2, y3]) ∧ Vl K F6 y1 ∧ Vl K F6 y2 ∧ Vl K F6 y3 := fun i x hx => by
          have hm := List.mem_of_getElem? hx
          simp only [List.mem_cons, List.not_mem_nil, or_false] at hm
          rcases hm with h | h | h | h | h
          · exact ⟨w1, _, _, _, h, (j2.trans (j3.trans (j4.trans (j5.trans j6)))) _ _ k1, u1.sm r6, uP.sm r6, uR.sm r6⟩
          · exact ⟨w2, _, _, _, h, (j3.trans (j4.trans (j5.trans j6))) _ _ k2, uS.sm r6, u2.sm r6, uR.sm r6⟩
          · exact ⟨w3, _, _, _, h, (j4.trans (j5.trans j6)) _ _ k3, u1.sm r6, u2.sm r6, uA.sm r6⟩
          · exact ⟨w4, _, _, _, h, (j5.trans j6) _ _ k4, uO.sm r6, u1.sm r6, uR.sm r6⟩
          · exact ⟨w5, _, _, _, h, j6 _ _ k5, uS.sm r6, uO.sm r6, uN.sm r6⟩
        refine ⟨_, rfl, w6, rfl, ⟨_, .inl (.inl k6)⟩, for_list (K := K) (a := w6) (xs := [V.ref w1, .ref w2, .ref w3, .ref w4, .ref w5])
          (fun i σ H' => (∃ x12, σ = [some (.ref a), some (.ref d), some (.int (0 + (i' : Int))), some (.ref sA), some (.ref pA), some (.ref l), some (.ref qa), x7, some v1, some v2, some vo, some (.ref w6), x12]) ∧ Sm F6 H') ?_ ?_ ?_ ?_⟩
        · exact ⟨⟨_, rfl⟩, Sm.refl _⟩
        · exact fun i σ H' _ h => .inl (.inl (h.2 _ _ k6))
        · rintro i x σ H' hx ⟨⟨x12, rfl⟩, sm⟩
          obtain ⟨tp, y1, y2, y3, rfl, hT, p1', p2', p3'⟩ := all5 i x hx
          obtain ⟨d1', g1', b1'⟩ := p1'.sm sm
          obtain ⟨d2', g2', b2'⟩ := p2'.sm sm
          obtain ⟨d3', g3', b3'⟩ := p3'.sm sm
          have hT' : SqT K H' tp [y1, y2, y3] := .inl (.inl (sm _ _ hT))
          refine ⟨_, rfl, tp, _, 0, _, rfl, rfl, hT', atI_nat (j := 0) rfl, _, rfl, tp, _, 1, _, rfl, rfl, hT', atI_nat (j := 1) rfl, _, rfl, tp, _, 2, _, rfl, rfl, hT', atI_nat (j := 2) rfl, y1, y2, y3, d1', d2', d3', rfl, g1', g2', g3', b1', b2', b3', fun X1 q1 => ?_⟩
          have hT2 := q1.tup hT'
          exact ⟨_, rfl, tp, _, 0, _, rfl, rfl, hT2, atI_nat (j := 0) rfl, _, rfl, tp, _, 1, _, rfl, rfl, hT2, atI_nat (j := 1) rfl, _, rfl, tp, _, 2, _, rfl, rfl, hT2, atI_nat (j := 2) rfl, y1, y2, y3, d1', d2', d3', rfl, dp_mono q1 g1', dp_mono q1 g2', dp_mono q1 g3', b1', b2', b3', fun X2 q2 => ⟨rfl, _, rfl, ite0 (by simp) ⟨⟨_, rfl⟩, sm.trans (q1.trans q2)⟩⟩⟩
        · rintro σ H' ⟨⟨x12, rfl⟩, sm⟩
          exact ⟨⟨_, _, _, _, _, _, _, _, _, _, _, rfl⟩, D16.sm (r6.trans sm)⟩
    · rintro σ H2 ⟨_, D2⟩
      exact q _
end
end Z
set_option Elab.async false
set_option linter.all false
set_option maxRecDepth 100000
set_option maxHeartbeats 8000000
set_option autoImplicit false
namespace Z
open PySem PySem.Spec PyProof.Rows L2
open C8 (Cal pe_c Mak pe_mk Met pe_mt pe_mt0 pe_gc)
abbrev s_ic : Stmt := inC (topS 9) 0
theorem sc_ic : FnScope ["self", "word"] ["self", "word"] (defScope s_ic) := ⟨rfl, rfl, rfl, by decide +kernel, rfl, by decide +kernel, by decide +kernel⟩
theorem ok_ic {P : Program} {w : World} {K : PySem.W.Frag} {mg : Str → Option Value} {base : Heap} {C : Addr} {f : Addr} {fd : FuncData} (F : Fun K "__init__" "InvalidCrowds.__init__" s_ic f fd) (T : ErrC K C) (nf : PySem.W.findIn K (.ref C) "word" = some none) :
    FnOk P w K mg base CX0 1 f fd ["self", "word"] (spErrInit C "word") := by
  refine F.ok sc_ic (fun vs H Q E h => ?_) (fun cdv A outer s H vs Q E hr h => ?_)
  · obtain ⟨a, v, rfl, _⟩ := h
    rfl
  · obtain ⟨a, v, rfl, ea, q⟩ := h
    exact ⟨_, pss_one (ps_errSet (pv 0) (pv 1)), ⟨_, rfl, _, rfl, a, C, rfl, T, nf, ea, fun dx hd ne => q dx hd ne⟩⟩
theorem chain_VE {bm : List Value} (h : PySem.HandSPX.refsVE bm = true) : PySem.ZX.Chain "ValueError" bm :=
  ⟨by rw [PySem.HandSPX.refsVE_contains _ _ h]; decide +kernel, by rw [PySem.HandSPX.refsVE_contains _ _ h]; decide +kernel, by rw [PySem.HandSPX.refsVE_contains _ _ h]; decide +kernel,
    by rw [PySem.HandSPX.refsVE_contains _ _ h]; decide +kernel, fun self => PySem.HandSPX.refsVE_pass self _ h⟩
/-- all that the top has written, put together -/
theorem all_mk {P : Program} {w : World} {K : PySem.W.Frag} {h : Heap} {mg : Str → Option Value} {fa : Addr} (X : K.In h) (G : h.Ns mainGlobals mg) (hfa : mg "law" = some (.ref fa))
    {KE CI C : Addr}
    {nm0 q0 : Str} {N0 : Addr} {bs0 : List Value} {sn0 : List Str} {sub0 : List Value} {ab0 : Bool} {col0 : Option Bool} {dd0 : Option Addr} {v0a v0b v0c v0d v0e : Option Value}
    {fI : Addr} {ocI kVI dcI pmI cdI ctI : Value} {odI anI : Option Addr} {slI : Array (Option Value)}
    {fC : Addr} {ocC kVC dcC pmC cdC ctC : Value} {odC anC : Option Addr} {slC : Array (Option Value)}
    {f_isint : Addr} {oc_isint kV_isint dc_isint pm_isint cd_isint ct_isint : Value} {od_isint an_isint : Option Addr} {sl_isint : Array (Option Value)}
    {f_isseq : Addr} {oc_isseq kV_isseq dc_isseq pm_isseq cd_isseq ct_isseq : Value} {od_isseq an_isseq : Option Addr} {sl_isseq : Array (Option Value)}
    {f_two : Addr} {oc_two kV_two dc_two pm_two cd_two ct_two : Value} {od_two an_two : Option Addr} {sl_two : Array (Option Value)}
    {f_rows : Addr} {oc_rows kV_rows dc_rows pm_rows cd_rows ct_rows : Value} {od_rows an_rows : Option Addr} {sl_rows : Array (Option Value)}
    {f_sgn : Addr} {oc_sgn kV_sgn dc_sgn pm_sgn cd_sgn ct_sgn : Value} {od_sgn an_sgn : Option Addr} {sl_sgn : Array (Option Value)}
    {f_lr : Addr} {oc_lr kV_lr dc_lr pm_lr cd_lr ct_lr : Value} {od_lr an_lr : Option Addr} {sl_lr : Array (Option Value)}
    {f_deal : Addr} {oc_deal kV_deal dc_deal pm_deal cd_deal ct_deal : Value} {od_deal an_deal : Option Addr} {sl_deal : Array (Option Value)}
    {f_draw : Addr} {oc_draw kV_draw dc_draw pm_draw cd_draw ct_draw : Value} {od_draw an_draw : Option Addr} {sl_draw : Array (Option Value)}
    {f_pick : Addr} {oc_pick kV_pick dc_pick pm_pick cd_pick ct_pick : Value} {od_pick an_pick : Option Addr} {sl_pick : Array (Option Value)}
    {f_signs : Addr} {oc_signs kV_signs dc_signs pm_signs cd_signs ct_signs : Value} {od_signs an_signs : Option Addr} {sl_signs : Array (Option Value)}
    {f_table : Addr} {oc_table kV_table dc_table pm_table cd_table ct_table : Value} {od_table an_table : Option Addr} {sl_table : Array (Option Value)}
    {f_any : Addr} {oc_any kV_any dc_any pm_any cd_any ct_any : Value} {od_any an_any : Option Addr} {sl_any : Array (Option Value)}
    {f_ints : Addr} {oc_ints kV_ints dc_ints pm_ints cd_ints ct_ints : Value} {od_ints an_ints : Option Addr} {sl_ints : Array (Option Value)}
    {f_due : Addr} {oc_due kV_due dc_due pm_due cd_due ct_due : Value} {od_due an_due : Option Addr} {sl_due : Array (Option Value)}
    {f_told : Addr} {oc_told kV_told dc_told pm_told cd_told ct_told : Value} {od_told an_told : Option Addr} {sl_told : Array (Option Value)}
    {f_spo : Addr} {oc_spo kV_spo dc_spo pm_spo cd_spo ct_spo : Value} {od_spo an_spo : Option Addr} {sl_spo : Array (Option Value)}
    {f_law : Addr} {oc_law kV_law dc_law pm_law cd_law ct_law : Value} {od_law an_law : Option Addr} {sl_law : Array (Option Value)}
    (aK : PySem.W.nsIn K mainGlobals "KnowError" = some (some (.ref KE)))
    (aI : PySem.W.nsIn K mainGlobals "InvalidCrowds" = some (some (.ref CI)))
    (xI : K.lookup CI = some (excClassObj nm0 q0 CI N0 bs0 (.ref KE :: PySem.HandSPX.veTail) true sn0 sub0 ab0 col0 dd0 v0a v0b v0c v0d v0e "ValueError.__new__"))
    (kI : PySem.W.keepIn K (.ref CI) = true)
    (gaI : PySem.W.findIn K (.ref CI) "__getattribute__" = some (some (.builtin "BaseException.__getattribute__")))
    (ggI : PySem.W.findIn K (.ref CI) "__getattr__" = some none)
    (exI : PySem.W.subIn K (.ref CI) (.type "BaseException") = some true)
    (hdI : PySem.W.hasDictIn K CI = true)
    (saI : PySem.W.findIn K (.ref CI) "__setattr__" = some (some (.builtin "object.__setattr__")))
    (tyI : PySem.W.typeIn K (.ref CI) = some (.type "type"))
    (ssI : PySem.W.subIn K (.ref CI) (.ref CI) = some true)
    (nfI : PySem.W.findIn K (.ref CI) "word" = some none)
    (iiI : PySem.W.findIn K (.ref CI) "__init__" = some (some (.ref fI)))
    (tiI : PySem.W.typeIn K (.ref fI) = some (.type "function"))
    (liI : K.lookup fI = some ⟨ocI, odI, .func (PySem.W.fnOf "__init__" "InvalidCrowds.__init__" (defArgs s_ic) (defBody s_ic) (defScope s_ic) .none kVI dcI pmI anI cdI ctI), slI⟩)
    (ciI : PySem.W.codeIn K cdI "InvalidCrowds.__init__" = true)
    (kiI : PySem.W.keepIn K (.ref fI) = true)
    (aC : PySem.W.nsIn K mainGlobals "Crowds" = some (some (.ref C)))
    (pgC : PySem.W.plainGet K C Str.empty = true)
    (hdC : PySem.W.hasDictIn K C = true)
    (poC : PySem.W.plainOver K C = true)
    (saC : PySem.W.findIn K (.ref C) "__setattr__" = some (some (.builtin "object.__setattr__")))
    (n1C : PySem.W.findIn K (.ref C) "starts" = some none)
    (n2C : PySem.W.findIn K (.ref C) "periods" = some none)
    (n3C : PySem.W.findIn K (.ref C) "rows" = some none)
    (mkC : PySem.W.makesIn K C = true)
    (kcC : PySem.W.keepIn K (.ref C) = true)
    (iiC : PySem.W.findIn K (.ref C) "__init__" = some (some (.ref fC)))
    (fnC : PySem.W.isFn K (.ref fC) = true)
    (liC : K.lookup fC = some ⟨ocC, odC, .func (PySem.W.fnOf "__init__" "Crowds.__init__" (defArgs s_init) (defBody s_init) (defScope s_init) .none kVC dcC pmC anC cdC ctC), slC⟩)
    (ciC : PySem.W.codeIn K cdC "Crowds.__init__" = true)
    (kiC : PySem.W.keepIn K (.ref fC) = true)
    (z_int : PySem.W.nsIn K mainGlobals "int" = some none)
    (z_abs : PySem.W.nsIn K mainGlobals "abs" = some none)
    (z_len : PySem.W.nsIn K mainGlobals "len" = some none)
    (z_range : PySem.W.nsIn K mainGlobals "range" = some none)
    (z_tuple : PySem.W.nsIn K mainGlobals "tuple" = some none)
    (z_isinstance : PySem.W.nsIn K mainGlobals "isinstance" = some none)
    (z_list : PySem.W.nsIn K mainGlobals "list" = some none)
    (z_bool : PySem.W.nsIn K mainGlobals "bool" = some none)
    (z_str : PySem.W.nsIn K mainGlobals "str" = some none)
    (z_all : PySem.W.nsIn K mainGlobals "all" = some none)
    (z_zip : PySem.W.nsIn K mainGlobals "zip" = some none)
    (a_isint : PySem.W.nsIn K mainGlobals "is_integer" = some (some (.ref f_isint)))
    (l_isint : K.lookup f_isint = some ⟨oc_isint, od_isint, .func (PySem.W.fnOf "is_integer" "is_integer" (defArgs s_isint) (defBody s_isint) (defScope s_isint) .none kV_isint dc_isint pm_isint an_isint cd_isint ct_isint), sl_isint⟩)
    (c_isint : PySem.W.codeIn K cd_isint "is_integer" = true)
    (k_isint : PySem.W.keepIn K (.ref f_isint) = true)
    (a_isseq : PySem.W.nsIn K mainGlobals "is_sequence" = some (some (.ref f_isseq)))
    (l_isseq : K.lookup f_isseq = some ⟨oc_isseq, od_isseq, .func (PySem.W.fnOf "is_sequence" "is_sequence" (defArgs s_isseq) (defBody s_isseq) (defScope s_isseq) .none kV_isseq dc_isseq pm_isseq an_isseq cd_isseq ct_isseq), sl_isseq⟩)
    (c_isseq : PySem.W.codeIn K cd_isseq "is_sequence" = true)
    (k_isseq : PySem.W.keepIn K (.ref f_isseq) = true)
    (a_two : PySem.W.nsIn K mainGlobals "_are_two_from" = some (some (.ref f_two)))
    (l_two : K.lookup f_two = some ⟨oc_two, od_two, .func (PySem.W.fnOf "_are_two_from" "_are_two_from" (defArgs s_two) (defBody s_two) (defScope s_two) .none kV_two dc_two pm_two an_two cd_two ct_two), sl_two⟩)
    (c_two : PySem.W.codeIn K cd_two "_are_two_from" = true)
    (k_two : PySem.W.keepIn K (.ref f_two) = true)
    (a_rows : PySem.W.nsIn K mainGlobals "_are_rows" = some (some (.ref f_rows)))
    (l_rows : K.lookup f_rows = some ⟨oc_rows, od_rows, .func (PySem.W.fnOf "_are_rows" "_are_rows" (defArgs s_rows) (defBody s_rows) (defScope s_rows) .none kV_rows dc_rows pm_rows an_rows cd_rows ct_rows), sl_rows⟩)
    (c_rows : PySem.W.codeIn K cd_rows "_are_rows" = true)
    (k_rows : PySem.W.keepIn K (.ref f_rows) = true)
    (a_sgn : PySem.W.nsIn K mainGlobals "_are_signs" = some (some (.ref f_sgn)))
    (l_sgn : K.lookup f_sgn = some ⟨oc_sgn, od_sgn, .func (PySem.W.fnOf "_are_signs" "_are_signs" (defArgs s_sgn) (defBody s_sgn) (defScope s_sgn) .none kV_sgn dc_sgn pm_sgn an_sgn cd_sgn ct_sgn), sl_sgn⟩)
    (c_sgn : PySem.W.codeIn K cd_sgn "_are_signs" = true)
    (k_sgn : PySem.W.keepIn K (.ref f_sgn) = true)
    (a_lr : PySem.W.nsIn K mainGlobals "_least_round" = some (some (.ref f_lr)))
    (l_lr : K.lookup f_lr = some ⟨oc_lr, od_lr, .func (PySem.W.fnOf "_least_round" "_least_round" (defArgs s_lr) (defBody s_lr) (defScope s_lr) .none kV_lr dc_lr pm_lr an_lr cd_lr ct_lr), sl_lr⟩)
    (c_lr : PySem.W.codeIn K cd_lr "_least_round" = true)
    (k_lr : PySem.W.keepIn K (.ref f_lr) = true)
    (a_deal : PySem.W.nsIn K mainGlobals "_law_deal" = some (some (.ref f_deal)))
    (l_deal : K.lookup f_deal = some ⟨oc_deal, od_deal, .func (PySem.W.fnOf "_law_deal" "_law_deal" (defArgs s_deal) (defBody s_deal) (defScope s_deal) .none kV_deal dc_deal pm_deal an_deal cd_deal ct_deal), sl_deal⟩)
    (c_deal : PySem.W.codeIn K cd_deal "_law_deal" = true)
    (k_deal : PySem.W.keepIn K (.ref f_deal) = true)
    (a_draw : PySem.W.nsIn K mainGlobals "_law_draw" = some (some (.ref f_draw)))
    (l_draw : K.lookup f_draw = some ⟨oc_draw, od_draw, .func (PySem.W.fnOf "_law_draw" "_law_draw" (defArgs s_draw) (defBody s_draw) (defScope s_draw) .none kV_draw dc_draw pm_draw an_draw cd_draw ct_draw), sl_draw⟩)
    (c_draw : PySem.W.codeIn K cd_draw "_law_draw" = true)
    (k_draw : PySem.W.keepIn K (.ref f_draw) = true)
    (a_pick : PySem.W.nsIn K mainGlobals "_law_pick" = some (some (.ref f_pick)))
    (l_pick : K.lookup f_pick = some ⟨oc_pick, od_pick, .func (PySem.W.fnOf "_law_pick" "_law_pick" (defArgs s_pick) (defBody s_pick) (defScope s_pick) .none kV_pick dc_pick pm_pick an_pick cd_pick ct_pick), sl_pick⟩)
    (c_pick : PySem.W.codeIn K cd_pick "_law_pick" = true)
    (k_pick : PySem.W.keepIn K (.ref f_pick) = true)
    (a_signs : PySem.W.nsIn K mainGlobals "_law_signs" = some (some (.ref f_signs)))
    (l_signs : K.lookup f_signs = some ⟨oc_signs, od_signs, .func (PySem.W.fnOf "_law_signs" "_law_signs" (defArgs s_signs) (defBody s_signs) (defScope s_signs) .none kV_signs dc_signs pm_signs an_signs cd_signs ct_signs), sl_signs⟩)
    (c_signs : PySem.W.codeIn K cd_signs "_law_signs" = true)
    (k_signs : PySem.W.keepIn K (.ref f_signs) = true)
    (a_table : PySem.W.nsIn K mainGlobals "_law_table" = some (some (.ref f_table)))
    (l_table : K.lookup f_table = some ⟨oc_table, od_table, .func (PySem.W.fnOf "_law_table" "_law_table" (defArgs s_table) (defBody s_table) (defScope s_table) .none kV_table dc_table pm_table an_table cd_table ct_table), sl_table⟩)
    (c_table : PySem.W.codeIn K cd_table "_law_table" = true)
    (k_table : PySem.W.keepIn K (.ref f_table) = true)
    (a_any : PySem.W.nsIn K mainGlobals "_law_any" = some (some (.ref f_any)))
    (l_any : K.lookup f_any = some ⟨oc_any, od_any, .func (PySem.W.fnOf "_law_any" "_law_any" (defArgs s_any) (defBody s_any) (defScope s_any) .none kV_any dc_any pm_any an_any cd_any ct_any), sl_any⟩)
    (c_any : PySem.W.codeIn K cd_any "_law_any" = true)
    (k_any : PySem.W.keepIn K (.ref f_any) = true)
    (a_ints : PySem.W.nsIn K mainGlobals "_law_are_integers" = some (some (.ref f_ints)))
    (l_ints : K.lookup f_ints = some ⟨oc_ints, od_ints, .func (PySem.W.fnOf "_law_are_integers" "_law_are_integers" (defArgs s_ints) (defBody s_ints) (defScope s_ints) .none kV_ints dc_ints pm_ints an_ints cd_ints ct_ints), sl_ints⟩)
    (c_ints : PySem.W.codeIn K cd_ints "_law_are_integers" = true)
    (k_ints : PySem.W.keepIn K (.ref f_ints) = true)
    (a_due : PySem.W.nsIn K mainGlobals "_law_due" = some (some (.ref f_due)))
    (l_due : K.lookup f_due = some ⟨oc_due, od_due, .func (PySem.W.fnOf "_law_due" "_law_due" (defArgs s_due) (defBody s_due) (defScope s_due) .none kV_due dc_due pm_due an_due cd_due ct_due), sl_due⟩)
    (c_due : PySem.W.codeIn K cd_due "_law_due" = true)
    (k_due : PySem.W.keepIn K (.ref f_due) = true)
    (a_told : PySem.W.nsIn K mainGlobals "_law_told" = some (some (.ref f_told)))
    (l_told : K.lookup f_told = some ⟨oc_told, od_told, .func (PySem.W.fnOf "_law_told" "_law_told" (defArgs s_told) (defBody s_told) (defScope s_told) .none kV_told dc_told pm_told an_told cd_told ct_told), sl_told⟩)
    (c_told : PySem.W.codeIn K cd_told "_law_told" = true)
    (k_told : PySem.W.keepIn K (.ref f_told) = true)
    (a_spo : PySem.W.nsIn K mainGlobals "_law_spoilt" = some (some (.ref f_spo)))
    (l_spo : K.lookup f_spo = some ⟨oc_spo, od_spo, .func (PySem.W.fnOf "_law_spoilt" "_law_spoilt" (defArgs s_spo) (defBody s_spo) (defScope s_spo) .none kV_spo dc_spo pm_spo an_spo cd_spo ct_spo), sl_spo⟩)
    (c_spo : PySem.W.codeIn K cd_spo "_law_spoilt" = true)
    (k_spo : PySem.W.keepIn K (.ref f_spo) = true)
    (a_law : PySem.W.nsIn K mainGlobals "law" = some (some (.ref f_law)))
    (l_law : K.lookup f_law = some ⟨oc_law, od_law, .func (PySem.W.fnOf "law" "law" (defArgs s_law) (defBody s_law) (defScope s_law) .none kV_law dc_law pm_law an_law cd_law ct_law), sl_law⟩)
    (c_law : PySem.W.codeIn K cd_law "law" = true)
    (k_law : PySem.W.keepIn K (.ref f_law) = true) :
    ∃ fd : FuncData, (∀ (s : Shared) (u : Value), BindsTo s fd ⟨[u], []⟩ [("_law_script", u)]) ∧ ∀ base : Heap, K.In base → base.Ns mainGlobals mg → FnOk P w K mg base CX0 9 fa fd p_law (spLaw K) := by
  have e := hfa.symm.trans (PySem.W.mg_of X G a_law)
  cases e
  have F_isint := fun_mk (st := s_isint) l_isint c_isint k_isint
  have b_isint := F_isint.binds (ps := ["value"]) fun _ _ _ _ _ _ us hl => match us, hl with | [_], _ => rfl
  have F_isseq := fun_mk (st := s_isseq) l_isseq c_isseq k_isseq
  have b_isseq := F_isseq.binds (ps := ["value"]) fun _ _ _ _ _ _ us hl => match us, hl with | [_], _ => rfl
  have F_two := fun_mk (st := s_two) l_two c_two k_two
  have b_two := F_two.binds (ps := ["lowest", "values"]) fun _ _ _ _ _ _ us hl => match us, hl with | [_, _], _ => rfl
  have F_rows := fun_mk (st := s_rows) l_rows c_rows k_rows
  have b_rows := F_rows.binds (ps := ["rows", "height", "width"]) fun _ _ _ _ _ _ us hl => match us, hl with | [_, _, _], _ => rfl
  have F_sgn := fun_mk (st := s_sgn) l_sgn c_sgn k_sgn
  have b_sgn := F_sgn.binds (ps := ["row", "width"]) fun _ _ _ _ _ _ us hl => match us, hl with | [_, _], _ => rfl
  have F_lr := fun_mk (st := s_lr) l_lr c_lr k_lr
  have b_lr := F_lr.binds (ps := ["parts", "start"]) fun _ _ _ _ _ _ us hl => match us, hl with | [_, _], _ => rfl
  have F_deal := fun_mk (st := s_deal) l_deal c_deal k_deal
  have b_deal := F_deal.binds (ps := p_deal) fun _ _ _ _ _ _ us hl => match us, hl with | [_, _], _ => rfl
  have F_draw := fun_mk (st := s_draw) l_draw c_draw k_draw
  have b_draw := F_draw.binds (ps := ["_law_deal_here", "_law_many"]) fun _ _ _ _ _ _ us hl => match us, hl with | [_, _], _ => rfl
  have F_pick := fun_mk (st := s_pick) l_pick c_pick k_pick
  have b_pick := F_pick.binds (ps := ["_law_deal_here", "_law_some"]) fun _ _ _ _ _ _ us hl => match us, hl with | [_, _], _ => rfl
  have F_signs := fun_mk (st := s_signs) l_signs c_signs k_signs
  have b_signs := F_signs.binds (ps := p_signs) fun _ _ _ _ _ _ us hl => match us, hl with | [_, _], _ => rfl
  have F_table := fun_mk (st := s_table) l_table c_table k_table
  have b_table := F_table.binds (ps := p_table) fun _ _ _ _ _ _ us hl => match us, hl with | [_, _, _], _ => rfl
  have F_any := fun_mk (st := s_any) l_any c_any k_any
  have b_any := F_any.binds (ps := p_any) fun _ _ _ _ _ _ us hl => match us, hl with | [_, _], _ => rfl
  have F_ints := fun_mk (st := s_ints) l_ints c_ints k_ints
  have b_ints := F_ints.binds (ps := p_ints) fun _ _ _ _ _ _ us hl => match us, hl with | [_, _], _ => rfl
  have F_due := fun_mk (st := s_due) l_due c_due k_due
  have b_due := F_due.binds (ps := p_due) fun _ _ _ _ _ _ us hl => match us, hl with | [_, _, _], _ => rfl
  have F_told := fun_mk (st := s_told) l_told c_told k_told
  have b_told := F_told.binds (ps := p_told) fun _ _ _ _ _ _ us hl => match us, hl with | [_, _, _], _ => rfl
  have F_spo := fun_mk (st := s_spo) l_spo c_spo k_spo
  have b_spo := F_spo.binds (ps := p_spo) fun _ _ _ _ _ _ us hl => match us, hl with | [_, _], _ => rfl
  have F_law := fun_mk (st := s_law) l_law c_law k_law
  have F_C := fun_mk (st := s_init) liC ciC kiC
  have b_C := F_C.binds (ps := p_init) fun _ _ _ _ _ _ us hl => match us, hl with | [_, _, _, _], _ => rfl
  have F_I := fun_mk (st := s_ic) liI ciI kiI
  have b_I := F_I.binds (ps := ["self", "word"]) fun _ _ _ _ _ _ us hl => match us, hl with | [_, _], _ => rfl
  have EI : ErrC K CI := ⟨⟨_, _, _, _, _, _, _, _, _, _, _, _, _, _, _, _, _, _, _, PySem.F.excBase_ValueError, (chain_VE (bm := .ref KE :: PySem.HandSPX.veTail) rfl), xI⟩, saI, gaI, ggI, exI, kI, hdI⟩
  have OI : OexC K CI := ⟨⟨nm0, q0, N0, bs0, _, sn0, sub0, ab0, col0, dd0, v0a, v0b, v0c, v0d, v0e, xI, rfl⟩, saI, exI, tyI, kI⟩
  have XI : XfC K CI := ⟨gaI, ggI, exI, hdI⟩
  have CC : CrC K C := ⟨⟨pgC, hdC, poC, saC⟩, n1C, n2C, n3C⟩
  have T : Bt4 mg := ⟨⟨⟨PySem.W.mg_none_of X G z_int, PySem.W.mg_none_of X G z_abs, PySem.W.mg_none_of X G z_len, PySem.W.mg_none_of X G z_range, PySem.W.mg_none_of X G z_tuple⟩, PySem.W.mg_none_of X G z_isinstance, PySem.W.mg_none_of X G z_list, PySem.W.mg_none_of X G z_bool, PySem.W.mg_none_of X G z_str, PySem.W.mg_none_of X G z_all⟩, PySem.W.mg_none_of X G z_zip⟩
  have T3 := T.toBt3
  have T0 := T3.toBt
  refine ⟨PySem.W.fnOf "law" "law" (defArgs s_law) (defBody s_law) (defScope s_law) .none kV_law dc_law pm_law an_law cd_law ct_law, fun s u => .of_eq rfl, fun base _ _ => ?_⟩
  have B : Bad P w K mg base CI := ⟨OI, PySem.W.mg_of X G aI, _, _, iiI, tiI, ok_ic F_I EI nfI, b_I⟩
  have Cseq : Cal P w K mg base 1 "is_sequence" (spAsk K fun d => (itemsD d).isSome) [] := ⟨⟨_, _, _, [], ok_isseq F_isseq T3, PySem.W.mg_of X G a_isseq, k_isseq, b_isseq, .nil⟩⟩
  have Cint : Cal P w K mg base 1 "is_integer" (spAsk K isIntD) [] := ⟨⟨_, _, _, [], ok_isint F_isint T3, PySem.W.mg_of X G a_isint, k_isint, b_isint, .nil⟩⟩
  have Csgn : Cal P w K mg base 1 "_are_signs" spSignsOk [] := ⟨⟨_, _, _, [], ok_sgn F_sgn T3, PySem.W.mg_of X G a_sgn, k_sgn, b_sgn, .nil⟩⟩
  have Ctwo : Cal P w K mg base 3 "_are_two_from" (spTwo K) [] := ⟨⟨_, _, _, [], ok_two F_two T3 Cseq Cint, PySem.W.mg_of X G a_two, k_two, b_two, .nil⟩⟩
  have Crows : Cal P w K mg base 3 "_are_rows" (spRows K) [] := ⟨⟨_, _, _, [], ok_rows F_rows T3 Cseq Csgn, PySem.W.mg_of X G a_rows, k_rows, b_rows, .nil⟩⟩
  have Clr : Cal P w K mg base 1 "_least_round" (spLR K) [] := ⟨⟨_, _, _, [], ok_lr F_lr T3, PySem.W.mg_of X G a_lr, k_lr, b_lr, .nil⟩⟩
  have FI := ok_init (P := P) (w := w) (base := base) F_C T B CC Ctwo Crows Clr
  have M : Mk K C fC := ⟨mkC, iiC, fnC, kcC⟩
  have te := PySem.W.exm_ref (cls := .ref CI) exI hdI tyI ssI
  have Ctold : Cal P w K mg base 6 "_law_told" (spWord K) [] := ⟨⟨_, _, _, [], ok_told F_told (PySem.W.mg_of X G aI) XI nfI te (PySem.W.mg_of X G aC) M FI b_C, PySem.W.mg_of X G a_told, k_told, b_told, .nil⟩⟩
  have Cints : Cal P w K mg base 1 "_law_are_integers" (spInts K) [] := ⟨⟨_, _, _, [], ok_ints F_ints T3, PySem.W.mg_of X G a_ints, k_ints, b_ints, .nil⟩⟩
  have Cdue : Cal P w K mg base 3 "_law_due" (spWord K) [] := ⟨⟨_, _, _, [], ok_due F_due T3 Cints, PySem.W.mg_of X G a_due, k_due, b_due, .nil⟩⟩
  have Cdeal : Cal P w K mg base 1 "_law_deal" (spDeal K) [] := ⟨⟨_, _, _, [], ok_deal F_deal T0, PySem.W.mg_of X G a_deal, k_deal, b_deal, .nil⟩⟩
  have Cdraw : Cal P w K mg base 2 "_law_draw" spDraw [] := ⟨⟨_, _, _, [], ok_draw F_draw T0, PySem.W.mg_of X G a_draw, k_draw, b_draw, .nil⟩⟩
  have Cpick : Cal P w K mg base 3 "_law_pick" (spPick K) [] := ⟨⟨_, _, _, [], ok_pick F_pick T0 Cdraw, PySem.W.mg_of X G a_pick, k_pick, b_pick, .nil⟩⟩
  have Cany : Cal P w K mg base 8 "_law_any" (spAny K 5) [] := ⟨⟨_, _, _, [], any_ok F_any T0 Cdraw Cpick (PySem.W.mg_of X G a_any) b_any 5, PySem.W.mg_of X G a_any, k_any, b_any, .nil⟩⟩
  have Csigns : Cal P w K mg base 3 "_law_signs" spSigns [] := ⟨⟨_, _, _, [], ok_signs F_signs T0 Cdraw, PySem.W.mg_of X G a_signs, k_signs, b_signs, .nil⟩⟩
  have Ctab : Cal P w K mg base 4 "_law_table" (spTable K) [] := ⟨⟨_, _, _, [], ok_table F_table T0 Cdraw Csigns Cpick, PySem.W.mg_of X G a_table, k_table, b_table, .nil⟩⟩
  have Cspo : Cal P w K mg base 3 "_law_spoilt" (spSpo K) [] := ⟨⟨_, _, _, [], ok_spo F_spo T3 Cdraw, PySem.W.mg_of X G a_spo, k_spo, b_spo, .nil⟩⟩
  exact ok_law F_law T3 Cdeal Ctab Cspo Cany Cpick Ctold Cdue
theorem walk_law {l : PySem.W.OpenLaw} {q : Program} {loose : List Str} {XP : (Str → Option Value) → Heap → Prop} {YP : World → Heap → Prop} {d : DefRec} {K : Params → PySem.W.Frag} (hn : l.most = some 63) (hdf : d.params.defaults = [])
    (hY : ∀ (w : World) (h : Heap), YP w h → (K w.params).In h)
    (F : ∀ (w : World) (mg : Str → Option Value) (fa : Addr) (h : Heap), (K w.params).In h → h.Ns mainGlobals mg → mg d.name = some (.ref fa) →
      ∃ fd : FuncData, (∀ (s : Shared) (u : Value), BindsTo s fd ⟨[u], []⟩ [("_law_script", u)]) ∧ ∀ base : Heap, (K w.params).In base → base.Ns mainGlobals mg → FnOk l.prog w (K w.params) mg base CX0 9 fa fd p_law (spLaw (K w.params))) :
    PySem.W.WalkO q loose XP YP l.row.toRowW d [] (fun f vs => PySem.call f vs) :=
  L2.walk_ofK (n := 63) (k := 9) (CX := CX0) (x := "_law_script") (sp := fun K => spLaw K) hn (by decide) hdf ⟨rfl, by decide, by decide⟩ hY F (fun _ _ a ns hl _ hS => ⟨a, ns, rfl, hS, hl, fun _ => rfl⟩) fun _ _ _ _ z => z
end Z
set_option Elab.async false
set_option linter.all false
open PySem PySem.W PyProof.Rows
set_option maxRecDepth 100000 in
set_option maxHeartbeats 16000000 in
theorem PySem.Challenge.cw_foreheads_k03_tables_refused_holds : PySem.Challenge.rw_foreheads_k03_tables_refused.Holds := by
  w_on; o_law; k_head; (case hw => w_witness2)
  k_fill
  refine Z.walk_law (l := PySem.Challenge.rw_foreheads_k03_tables_refused) rfl rfl (fun w h Y => PySem.W.kIn_of Y) ?F
  case F =>
    intro w mg fa h KX G hmg
    refine' Z.all_mk KX G hmg ?aK ?aI ?xI ?kI ?gaI ?ggI ?exI ?hdI ?saI ?tyI ?ssI ?nfI ?iiI ?tiI ?liI ?ciI ?kiI ?aC ?pgC ?hdC ?poC ?saC ?n1C ?n2C ?n3C ?mkC ?kcC ?iiC ?fnC ?liC ?ciC ?kiC ?z_int ?z_abs ?z_len ?z_range ?z_tuple ?z_isinstance ?z_list ?z_bool ?z_str ?z_all ?z_zip ?a_isint ?l_isint ?c_isint ?k_isint ?a_isseq ?l_isseq ?c_isseq ?k_isseq ?a_two ?l_two ?c_two ?k_two ?a_rows ?l_rows ?c_rows ?k_rows ?a_sgn ?l_sgn ?c_sgn ?k_sgn ?a_lr ?l_lr ?c_lr ?k_lr ?a_deal ?l_deal ?c_deal ?k_deal ?a_draw ?l_draw ?c_draw ?k_draw ?a_pick ?l_pick ?c_pick ?k_pick ?a_signs ?l_signs ?c_signs ?k_signs ?a_table ?l_table ?c_table ?k_table ?a_any ?l_any ?c_any ?k_any ?a_ints ?l_ints ?c_ints ?k_ints ?a_due ?l_due ?c_due ?k_due ?a_told ?l_told ?c_told ?k_told ?a_spo ?l_spo ?c_spo ?k_spo ?a_law ?l_law ?c_law ?k_law
    (case aK => k_is)
    (case aI => k_is)
    (case xI => k_is)
    (case kI => k_is)
    (case gaI => k_is)
    (case ggI => k_is)
    (case exI => k_is)
    (case hdI => k_is)
    (case saI => k_is)
    (case tyI => k_is)
    (case ssI => first | rfl | k_is)
    (case nfI => k_is)
    (case iiI => k_is)
    (case tiI => k_is)
    (case liI => k_is)
    (case ciI => k_is)
    (case kiI => k_is)
    (case aC => k_is)
    (case pgC => k_is)
    (case hdC => k_is)
    (case poC => k_is)
    (case saC => k_is)
    (case n1C => k_is)
    (case n2C => k_is)
    (case n3C => k_is)
    (case mkC => k_is)
    (case kcC => k_is)
    (case iiC => k_is)
    (case fnC => k_is)
    (case liC => k_is)
    (case ciC => k_is)
    (case kiC => k_is)
    (case z_int => k_is)
    (case z_abs => k_is)
    (case z_len => k_is)
    (case z_range => k_is)
    (case z_tuple => k_is)
    (case z_isinstance => k_is)
    (case z_list => k_is)
    (case z_bool => k_is)
    (case z_str => k_is)
    (case z_all => k_is)
    (case z_zip => k_is)
    (case a_isint => k_is)
    (case l_isint => k_is)
    (case c_isint => k_is)
    (case k_isint => k_is)
    (case a_isseq => k_is)
    (case l_isseq => k_is)
    (case c_isseq => k_is)
    (case k_isseq => k_is)
    (case a_two => k_is)
    (case l_two => k_is)
    (case c_two => k_is)
    (case k_two => k_is)
    (case a_rows => k_is)
    (case l_rows => k_is)
    (case c_rows => k_is)
    (case k_rows => k_is)
    (case a_sgn => k_is)
    (case l_sgn => k_is)
    (case c_sgn => k_is)
    (case k_sgn => k_is)
    (case a_lr => k_is)
    (case l_lr => k_is)
    (case c_lr => k_is)
    (case k_lr => k_is)
    (case a_deal => k_is)
    (case l_deal => k_is)
    (case c_deal => k_is)
    (case k_deal => k_is)
    (case a_draw => k_is)
    (case l_draw => k_is)
    (case c_draw => k_is)
    (case k_draw => k_is)
    (case a_pick => k_is)
    (case l_pick => k_is)
    (case c_pick => k_is)
    (case k_pick => k_is)
    (case a_signs => k_is)
    (case l_signs => k_is)
    (case c_signs => k_is)
    (case k_signs => k_is)
    (case a_table => k_is)
    (case l_table => k_is)
    (case c_table => k_is)
    (case k_table => k_is)
    (case a_any => k_is)
    (case l_any => k_is)
    (case c_any => k_is)
    (case k_any => k_is)
    (case a_ints => k_is)
    (case l_ints => k_is)
    (case c_ints => k_is)
    (case k_ints => k_is)
    (case a_due => k_is)
    (case l_due => k_is)
    (case c_due => k_is)
    (case k_due => k_is)
    (case a_told => k_is)
    (case l_told => k_is)
    (case c_told => k_is)
    (case k_told => k_is)
    (case a_spo => k_is)
    (case l_spo => k_is)
    (case c_spo => k_is)
    (case k_spo => k_is)
    (case a_law => k_is)
    (case l_law => k_is)
    (case c_law => k_is)
    (case k_law => k_is)
