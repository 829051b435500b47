import PyProof.Rows.All
import Wide.All
import OpenK.AllK
import Wide.FinOn
import HandS.Base
import HandS.Call
import HandS.List
import HandS.Comp
import HandS.Ends
import HandS.Iter
import HandS.Text
import HandS.Wide
import HandS.Codes
import HandS.Style
import HandS.Words
import HandS.WordsList
import HandS.IsInst
import PyProof.InstEq
import HandS.OwnEq
import HandS.SetFor
import HandS.Strs
import HandS.Conv
import PyProof.EqAt
import PyProof.EqKinds
import PyProof.TupleCall
import KE.KFromBytes
import KE.KExcInit
import HandS.Exc
import HandS.ExcInit
import HandS.ExcIs
import HandS.ExcOwn
import HandS.ExcField
import HandS.MakeKwOnly
import KE.KExcIs
import PyProof.ExcBaseAll.IndexError
import PyProof.ExcBaseAll.LookupError
import HandS.WideBits
import HandS.Walk
import HandS.WordsExc
import HandS.Defaults
import HandS.RaiseMore
import PyProof.ReprRoads
import PyProof.ReprLen
import PyProof.CallFns
import HandS.Keys
import PySem.Challenge.RW_foreheads_k30_lines_made_and_refused
set_option Elab.async false
set_option linter.all false
set_option maxRecDepth 100000
set_option maxHeartbeats 4000000
namespace Z
open PySem PySem.Spec PyProof.Rows L2
def Sm (H H' : Hp) : Prop := ∀ b o, H b = some o → H' b = some o
theorem Sm.refl (H : Hp) : Sm H H := fun _ _ h => h
theorem Sm.trans {H H1 H2 : Hp} (a : Sm H H1) (b : Sm H1 H2) : Sm H H2 := fun c o h => b c o (a c o h)
theorem Sm.new {H : Hp} {p : Addr} {o : HO} (h : H p = none) : Sm H (upd H p o) := fun b u e => by
  rw [upd_ne (ne_of_none e h)]; exact e
theorem Sm.rd {H H' : Hp} {a : Addr} {u : HO} (e : Sm H H') (h : Rd H a u) : Rd H' a u := by
  rcases h with h | ⟨o, h⟩
  · exact .inl (e a _ h)
  · exact .inr ⟨o, e a _ h⟩
theorem Sm.seq {K : PySem.W.Frag} {H H' : Hp} {a : Addr} {xs : List V} (e : Sm H H') (h : SqL K H a xs) : SqL K H' a xs := by
  rcases h with h | h
  · exact .inl (e.rd h)
  · exact .inr h
theorem Sm.tup {K : PySem.W.Frag} {H H' : Hp} {a : Addr} {xs : List V} (e : Sm H H') (h : SqT K H a xs) : SqT K H' a xs := by
  rcases h with h | h
  · exact .inl (e.rd h)
  · exact .inr h
theorem Sm.free {H H' : Hp} (e : Sm H H') {l : Addr} (h : H' l = none) : H l = none := by
  cases q : H l with
  | none => rfl
  | some o => rw [e l o q] at h; cases h
mutual
theorem dp_mono {K : PySem.W.Frag} {H H' : Hp} (e : Sm H H') : ∀ {v : V} {d : PyData}, Dp K H v d → Dp K H' v d
  | _, _, .non => .non
  | _, _, .bl b => .bl b
  | _, _, .int i => .int i
  | _, _, .str x => .str x
  | _, _, .lst s a => .lst (e.seq s) (dpAll_mono e a)
  | _, _, .tup s a => .tup (e.tup s) (dpAll_mono e a)
theorem dpAll_mono {K : PySem.W.Frag} {H H' : Hp} (e : Sm H H') : ∀ {vs : List V} {ds : List PyData}, DpAll K H vs ds → DpAll K H' vs ds
  | _, _, .nil => .nil
  | _, _, .cons h t => .cons (dp_mono e h) (dpAll_mono e t)
end
theorem dpAll_ints {K : PySem.W.Frag} {H : Hp} : ∀ l : List Int, DpAll K H (l.map V.int) (l.map PyData.int)
  | [] => .nil
  | x :: l => .cons (.int x) (dpAll_ints l)
theorem dpAll_strs {K : PySem.W.Frag} {H : Hp} : ∀ l : List Str, DpAll K H (l.map V.str) (l.map PyData.str)
  | [] => .nil
  | x :: l => .cons (.str x) (dpAll_strs l)
theorem dpAll_bools {K : PySem.W.Frag} {H : Hp} : ∀ l : List Bool, DpAll K H (l.map V.bl) (l.map PyData.bool)
  | [] => .nil
  | x :: l => .cons (.bl x) (dpAll_bools l)
theorem dpAll_len {K : PySem.W.Frag} {H : Hp} : ∀ {vs : List V} {ds : List PyData}, DpAll K H vs ds → vs.length = ds.length
  | _, _, .nil => rfl
  | _, _, .cons _ t => by rw [List.length_cons, List.length_cons, dpAll_len t]
theorem dpAll_get {K : PySem.W.Frag} {H : Hp} : ∀ {vs : List V} {ds : List PyData} {i : Nat} {d : PyData}, DpAll K H vs ds → ds[i]? = some d → ∃ v, vs[i]? = some v ∧ Dp K H v d
  | _, _, _, _, .nil, e => by simp at e
  | _, _, 0, _, .cons h t, e => by
    have e' : _ = _ := Option.some.inj e
    subst e'
    exact ⟨_, rfl, h⟩
  | _, _, i + 1, d, .cons h t, e => dpAll_get (i := i) t e
theorem dpAll_append {K : PySem.W.Frag} {H : Hp} : ∀ {vs ws : List V} {ds es : List PyData}, DpAll K H vs ds → DpAll K H ws es → DpAll K H (vs ++ ws) (ds ++ es)
  | _, _, _, _, .nil, h => h
  | _, _, _, _, .cons h t, k => .cons h (dpAll_append t k)
/-! the heap without two addresses -/
def msk (a c : Addr) (H : Hp) : Hp := fun b => if b = a ∨ b = c then none else H b
theorem msk_ne {a c b : Addr} {H : Hp} (h1 : b ≠ a) (h2 : b ≠ c) : msk a c H b = H b := by
  unfold msk; rw [if_neg (fun h => h.elim h1 h2)]
theorem msk_some {a c b : Addr} {H : Hp} {o : HO} (h : msk a c H b = some o) : H b = some o ∧ b ≠ a ∧ b ≠ c := by
  unfold msk at h
  split at h
  · cases h
  · rename_i n
    exact ⟨h, fun e => n (.inl e), fun e => n (.inr e)⟩
theorem msk_le {a c : Addr} {H : Hp} : Sm (msk a c H) H := fun _ _ h => (msk_some h).1
theorem msk_new {a c p : Addr} {H : Hp} {o : HO} (h : H p = none) : Sm (msk a c H) (msk a c (upd H p o)) := fun b u e => by
  obtain ⟨e1, n1, n2⟩ := msk_some e
  rw [msk_ne n1 n2, upd_ne (ne_of_none e1 h)]; exact e1
theorem msk_in {a c p : Addr} {H : Hp} {o : HO} (h : p = a ∨ p = c) : msk a c (upd H p o) = msk a c H := by
  funext b
  unfold msk
  by_cases hb : b = a ∨ b = c
  · rw [if_pos hb, if_pos hb]
  · rw [if_neg hb, if_neg hb, upd_ne]
    intro e
    subst e
    exact hb h
theorem msk_at {a c p : Addr} {H : Hp} {o : HO} (h1 : p ≠ a) (h2 : p ≠ c) : msk a c (upd H p o) p = some o := by
  rw [msk_ne h1 h2, upd_same]
theorem Sm.msk {a c : Addr} {H H' : Hp} (h : Sm H H') : Sm (msk a c H) (msk a c H') := fun b o e => by
  obtain ⟨e1, n1, n2⟩ := msk_some e
  rw [msk_ne n1 n2]; exact h b o e1
/-! the source of draws: a list of a list of numbers and a number -/
structure DealS (H : Hp) (a c : Addr) (cells : List Int) (m : Int) : Prop where
  ha : H a = some (.lst [.ref c, .int m])
  hc : H c = some (.lst (cells.map V.int))
  pos : ∀ x ∈ cells, 0 ≤ x
  len : cells.length ≤ 63
  m0 : 0 ≤ m
  m1 : m < 2147483647
theorem DealS.ne {H : Hp} {a c : Addr} {cells : List Int} {m : Int} (h : DealS H a c cells m) : a ≠ c :=
  ne_of h.ha h.hc (by
    intro e
    injection e with e
    cases cells with
    | nil => cases e
    | cons x r => simp at e)
def DealAt (H : Hp) (a c : Addr) : Prop := ∃ cells m, DealS H a c cells m
theorem DealS.sm {H H' : Hp} {a c : Addr} {cells : List Int} {m : Int} (h : DealS H a c cells m) (e : Sm H H') : DealS H' a c cells m :=
  ⟨e _ _ h.ha, e _ _ h.hc, h.pos, h.len, h.m0, h.m1⟩
theorem DealAt.sm {H H' : Hp} {a c : Addr} (h : DealAt H a c) (e : Sm H H') : DealAt H' a c := let ⟨x, y, z⟩ := h; ⟨x, y, z.sm e⟩
theorem DealAt.newNe {H : Hp} {a c p : Addr} (h : DealAt H a c) (n : H p = none) : p ≠ a ∧ p ≠ c := by
  obtain ⟨x, y, z⟩ := h
  exact ⟨fun e => (by rw [e, z.ha] at n; cases n), fun e => (by rw [e, z.hc] at n; cases n)⟩
def spDraw : Sp := fun vs H Q _ => ∃ (a c : Addr) (n : Int), vs = [.ref a, .int n] ∧ DealAt H a c ∧ 0 < n ∧ n < 1073741824 ∧
  ∀ r H', 0 ≤ r → r < n → DealAt H' a c → Sm (msk a c H) (msk a c H') → Q (.int r) H'
theorem shaped_ints (l : List Int) : SeqAt.shaped (.list (l.map PyData.int)) = true := by
  have h1 : ∀ l : List Int, PyData.canLayAll0 (l.map PyData.int) = true := fun l => by
    induction l with
    | nil => simp [PyData.canLayAll0]
    | cons x l ih => simp [PyData.canLayAll0, PyData.canLay0, ih]
  have h2 : ∀ l : List Int, PyData.depthAll (l.map PyData.int) ≤ 1 := fun l => by
    induction l with
    | nil => simp [PyData.depthAll]
    | cons x l ih => simp [PyData.depthAll, PyData.depth] <;> omega
  unfold SeqAt.shaped
  rw [Bool.and_eq_true]
  refine ⟨by simp [PyData.canLay0, h1], decide_eq_true ?_⟩
  have := h2 l
  simp only [PyData.depth]
  omega
end Z
namespace Z
open PySem PySem.Spec PyProof.Rows L2
theorem ite0 {b : Bool} {A B : Prop} (e : b = false) (h : B) : if b = true then A else B := by
  subst e
  exact iteFF h
where iteFF {A B : Prop} (h : B) : if false = true then A else B := by rw [if_neg Bool.false_ne_true]; exact h
theorem ite1 {b : Bool} {A B : Prop} (e : b = true) (h : A) : if b = true then A else B := by
  subst e
  rw [if_pos rfl]; exact h
theorem iteB {b : Bool} {A B : Prop} (h1 : b = true → A) (h0 : b = false → B) : if b = true then A else B := by
  cases b with
  | true => rw [if_pos rfl]; exact h1 rfl
  | false => rw [if_neg Bool.false_ne_true]; exact h0 rfl
theorem snoc_cases {α : Type} (l : List α) : l = [] ∨ ∃ r z, l = r ++ [z] := by
  rcases h : l.reverse with _ | ⟨z, r⟩
  · left
    exact List.reverse_eq_nil_iff.mp h
  · right
    refine ⟨r.reverse, z, ?_⟩
    have := congrArg List.reverse h
    rw [List.reverse_reverse, List.reverse_cons] at this
    exact this
theorem neq_nil0 {ds : List PyData} (h : ds = []) : (!PyData.eqv (.list ds) (.list [])) = false := by
  subst h; simp [PyData.eqv, PyData.eqvAll]
theorem neq_nil1 {ds : List PyData} (h : ds ≠ []) : (!PyData.eqv (.list ds) (.list [])) = true := by
  cases ds with
  | nil => exact absurd rfl h
  | cons x r => simp [PyData.eqv, PyData.eqvAll]
theorem neq_nil {ds : List PyData} : (!PyData.eqv (.list ds) (.list [])) = !ds.isEmpty := by
  cases ds with
  | nil => simp [PyData.eqv, PyData.eqvAll]
  | cons x r => simp [PyData.eqv, PyData.eqvAll]
theorem shaped_nil : SeqAt.shaped (.list []) = true := by decide +kernel
theorem last_get {α : Type} (l : List α) (z : α) : (l ++ [z])[(l ++ [z]).length - 1]? = some z := by
  rw [List.length_append, List.length_singleton, Nat.add_sub_cancel]
  exact List.getElem?_concat_length
end Z

theorem List.getElem?_map_some {α β : Type} {f : α → β} {l : List α} {i : Nat} {x : β} (h : (l.map f)[i]? = some x) : ∃ y, l[i]? = some y ∧ f y = x := by
  rw [List.getElem?_map] at h
  cases e : l[i]? with
  | none => rw [e] at h; cases h
  | some y => rw [e] at h; exact ⟨y, rfl, Option.some.inj h⟩
set_option Elab.async false
set_option linter.all false
set_option maxRecDepth 100000
set_option maxHeartbeats 4000000
/-! The draws of a law by boxes: feed, take, pick. -/
namespace Z
open PySem PySem.Spec PyProof.Rows L2
open C8 (Cal pe_c Mak pe_mk Met pe_mt pe_mt0 pe_gc)
def topS (i : Nat) : Stmt := PySem.Challenge.pw_foreheads_k30_lines_made_and_refused.main.body.getD i (.Pass ⟨0, 0, 0, 0⟩)
theorem log_lt {n : Int} (h : n < 1073741824) : n.natAbs.log2 < 9000 ∨ n < 0 := by
  by_cases h0 : n < 0
  · exact .inr h0
  · left
    have : n.natAbs < 2 ^ 30 := by omega
    by_cases hz : n.natAbs = 0
    · rw [hz]; decide
    · have := (Nat.log2_lt hz).mpr this
      omega
structure Bt (mg : Str → Option Value) : Prop where
  n_int : mg "int" = none
  n_len : mg "len" = none
  n_range : mg "range" = none
  n_tuple : mg "tuple" = none
  n_isinstance : mg "isinstance" = none
  n_list : mg "list" = none
  n_bool : mg "bool" = none
  n_str : mg "str" = none
  n_all : mg "all" = none
  n_set : mg "set" = none
  n_sorted : mg "sorted" = none
  n_max : mg "max" = none
  n_min : mg "min" = none
  n_repr : mg "repr" = none
/-- a box: two numbers that are drawn from -/
structure BoxS (H : Hp) (a : Addr) (c0 c1 : Int) : Prop where
  ha : H a = some (.lst [.int c0, .int c1])
  p0 : 0 ≤ c0
  p1 : 0 ≤ c1
  b1 : c1 < 2147483648
def BoxAt (H : Hp) (a : Addr) : Prop := ∃ c0 c1, BoxS H a c0 c1
theorem BoxAt.sm {H H' : Hp} {a : Addr} (h : BoxAt H a) (e : Sm H H') : BoxAt H' a := let ⟨x, y, z⟩ := h; ⟨x, y, e _ _ z.ha, z.p0, z.p1, z.b1⟩
theorem BoxAt.newNe {H : Hp} {a p : Addr} (h : BoxAt H a) (n : H p = none) : p ≠ a := by
  obtain ⟨x, y, z⟩ := h
  exact fun e => by rw [e, z.ha] at n; cases n
def spTake : Sp := fun vs H Q _ => ∃ (a : Addr) (n : Int), vs = [.ref a, .int n] ∧ BoxAt H a ∧ 0 < n ∧ n < 1073741824 ∧
  ∀ r H', 0 ≤ r → r < n → BoxAt H' a → Sm (msk a a H) (msk a a H') → Q (.int r) H'
theorem msk1 {a : Addr} {H : Hp} {o : HO} : msk a a (upd H a o) = msk a a H := msk_in (.inl rfl)
section
variable {P : Program} {w : World} {K : PySem.W.Frag} {mg : Str → Option Value} {base : Heap}
abbrev s_take : Stmt := topS 17
abbrev n_take : List Str := ["_law_box", "_law_many", "_law_digit", "_law_one"]
abbrev p_take : List Str := ["_law_box", "_law_many"]
theorem sc_take : FnScope n_take p_take (defScope s_take) := ⟨rfl, rfl, rfl, by decide +kernel, rfl, by decide +kernel, by decide +kernel⟩
theorem ok_take {f : Addr} {fd : FuncData} {k : Nat} (F : Fun K "_law_take" "_law_take" s_take f fd) (T : Bt mg) : FnOk P w K mg base CX0 (k + 1) f fd p_take spTake := by
  refine F.ok sc_take (fun vs H Q E h => ?_) (fun cdv A outer s H vs Q E hr h => ?_)
  · obtain ⟨a, n, rfl, _⟩ := h
    rfl
  · obtain ⟨a, n, rfl, ⟨c0, c1, hS⟩, n0, n1, q⟩ := h
    refine ⟨_, (pss_cons (ps_if (pt_cmpR op_gt (pe_ix ix_list (pv 0) pe_int (fun _ _ => rfl)) pe_int (nomark _))
        (pss_cons (ps_set (i := 2) sc_take.nd rfl (Or.inl rfl) (pe_op op_mod (pe_callTy call_int1 (by rfl) T.n_int (by decide +kernel) (pa_cons (pe_ix ix_list (pv 0) pe_int (fun _ _ => rfl)) pa_nil)) (pv 1)))
        (pss_cons (ps_asg (pe_op op_fdivW (pe_ix ix_list (pv 0) pe_int (fun _ _ => rfl)) (pv 1)) (pg_sub (pv 0) pe_int set_list))
        (pss_one (ps_ret (pv 2)))))
        pss_nil)
      (pss_cons (ps_set (i := 3) sc_take.nd rfl (Or.inl rfl) (pe_op op_mod (pe_callTy call_int1 (by rfl) T.n_int (by decide +kernel) (pa_cons (pe_op op_mul (pe_ix ix_list (pv 0) pe_int (fun _ _ => rfl)) pe_int) pa_nil)) pe_int))
      (pss_cons (ps_asg (pe_op op_add (pe_op op_mod (pe_callTy call_int1 (by rfl) T.n_int (by decide +kernel) (pa_cons (pe_op op_add (pe_op op_mul (pv 3) pe_int) pe_int) pa_nil)) pe_int) pe_int) (pg_sub (pv 0) pe_int set_list))
      (pss_one (ps_ret (pe_op op_mod (pe_callTy call_int1 (by rfl) T.n_int (by decide +kernel) (pa_cons (pe_op op_fdivW (pe_op op_add (pe_op op_mul (pv 3) pe_int) (pe_ix ix_list (pv 0) pe_int (fun _ _ => rfl))) pe_int) pa_nil)) (pv 1))))))), ?_⟩
    have hL : SqL K H a [.int c0, .int c1] := .inl (.inl hS.ha)
    refine ⟨_, rfl, a, _, 0, _, rfl, rfl, hL, atI_nat (j := 0) rfl, _, _, rfl, rfl, _, rfl, iteB (fun hb => ?_) (fun hb => ?_)⟩
    · have hc : 0 < c0 := of_decide_eq_true hb
      refine ⟨_, rfl, a, _, 0, _, rfl, rfl, hL, atI_nat (j := 0) rfl, .inl ⟨_, rfl, _, rfl, c0, n, rfl, rfl, n0, ?_⟩⟩
      refine ⟨_, rfl, a, _, 0, _, rfl, rfl, hL, atI_nat (j := 0) rfl, _, rfl, c0, n, rfl, rfl, ⟨n0, (log_lt n1).resolve_right (by omega)⟩, _, rfl, a, _, 0, 0, rfl, rfl, hS.ha, rfl, ?_⟩
      refine ⟨_, rfl, q _ _ (Int.emod_nonneg _ (by omega)) (Int.emod_lt_of_pos _ n0) ⟨c0 / n, c1, upd_same, Int.ediv_nonneg hS.p0 (by omega), hS.p1, hS.b1⟩ ?_⟩
      rw [msk1]
      exact Sm.refl _
    · refine ⟨_, rfl, a, _, 1, _, rfl, rfl, hL, atI_nat (j := 1) rfl, c1, 69623, rfl, rfl, .inr ⟨by decide, by decide⟩, .inl ⟨_, rfl, _, _, rfl, rfl, (show (0 : Int) < 2147483647 by decide), ?_⟩⟩
      have m0 : 0 ≤ c1 * 69623 % 2147483647 := Int.emod_nonneg _ (by decide)
      have m1 : c1 * 69623 % 2147483647 < 2147483647 := Int.emod_lt_of_pos _ (by decide)
      refine ⟨_, rfl, _, 48271, rfl, rfl, .inr ⟨by decide, by decide⟩, _, _, rfl, rfl, .inl ⟨_, rfl, _, 2147483629, rfl, rfl, (show (0 : Int) < 2147483629 by decide), _, _, rfl, rfl, _, rfl, a, _, 1, 1, rfl, rfl, hS.ha, rfl, ?_⟩⟩
      obtain ⟨u, hu⟩ : ∃ u, u = (c1 * 69623 % 2147483647 * 48271 + 30103) % 2147483629 := ⟨_, rfl⟩
      have k0 : 0 ≤ u := by rw [hu]; exact Int.emod_nonneg _ (by decide)
      have k1 : u < 2147483629 := by rw [hu]; exact Int.emod_lt_of_pos _ (by decide)
      have hL2 : SqL K (upd H a (.lst [.int c0, .int (u + 1)])) a [.int c0, .int (u + 1)] := .inl (.inl upd_same)
      rw [hu] at hL2 k0 k1
      refine ⟨_, rfl, _, 2147483647, rfl, rfl, .inr ⟨by decide, by decide⟩, _, rfl, a, _, 1, _, rfl, rfl, hL2, atI_nat (j := 1) rfl, _, _, rfl, rfl, _, _, rfl, rfl, ⟨by decide, by decide⟩, .inl ⟨_, rfl, _, rfl, _, n, rfl, rfl, n0, ?_⟩⟩
      refine q _ _ (Int.emod_nonneg _ (by omega)) (Int.emod_lt_of_pos _ n0) ⟨c0, _, upd_same, hS.p0, by omega, by omega⟩ ?_
      show Sm (msk a a H) (msk a a (upd H a _))
      rw [msk1]
      exact Sm.refl _
/-! feed -/
theorem feed_pow (c : Int) {b : Int} (b0 : 0 ≤ b) (b1 : b < 1000) : (0 : Int) ≤ 5 ∧ (5 : Int) ≤ 1000000 ∧ (c % 2147483629 + 104729 * b + 1).natAbs < 2 ^ 64 := by
  have c0 : 0 ≤ c % 2147483629 := Int.emod_nonneg _ (by decide)
  have c1 : c % 2147483629 < 2147483629 := Int.emod_lt_of_pos _ (by decide)
  exact ⟨by decide, by decide, by omega⟩
theorem feed_ix (c : Int) : atI [V.int 0, .int c] (if decide ((10 : Int) ^ (18 : Int).toNat ≤ c) = true then 1 else 0) = some (.int (if 1000000000000000000 ≤ c then c else 0)) := by
  by_cases h : (1000000000000000000 : Int) ≤ c
  · rw [if_pos h, if_pos (decide_eq_true (p := (10 : Int) ^ (18 : Int).toNat ≤ c) h)]
    exact atI_nat (j := 1) rfl
  · rw [if_neg h, if_neg (fun z => h (of_decide_eq_true (p := (10 : Int) ^ (18 : Int).toNat ≤ c) z))]
    exact atI_nat (j := 0) rfl
abbrev s_feed : Stmt := topS 16
abbrev n_feed : List Str := ["_law_script", "_law_k", "_law_cell", "_law_seed"]
abbrev p_feed : List Str := ["_law_script", "_law_k"]
theorem sc_feed : FnScope n_feed p_feed (defScope s_feed) := ⟨rfl, rfl, rfl, by decide +kernel, rfl, by decide +kernel, by decide +kernel⟩
def spFeed (K : PySem.W.Frag) : Sp := fun vs H Q _ => ∃ (a : Addr) (ns : List Int) (k : Int), vs = [.ref a, .int k] ∧ SqL K H a (ns.map V.int) ∧ 0 ≤ k ∧ k < 1000 ∧
  ∀ d H', Sm H H' → H d = none → BoxAt H' d → Q (.ref d) H'
theorem ok_feed {f : Addr} {fd : FuncData} {k : Nat} (F : Fun K "_law_feed" "_law_feed" s_feed f fd) (T : Bt mg) : FnOk P w K mg base CX0 (k + 1) f fd p_feed (spFeed K) := by
  refine F.ok sc_feed (fun vs H Q E h => ?_) (fun cdv A outer s H vs Q E hr h => ?_)
  · obtain ⟨a, ns, b, rfl, _⟩ := h
    rfl
  · obtain ⟨a, ns, b, rfl, hS, b0, b1, q⟩ := h
    refine ⟨_, (pss_cons (ps_set (i := 2) sc_feed.nd rfl (Or.inl rfl) (pe_op op_add (pe_op op_mul pe_int (pv 1)) pe_int))
      (pss_cons (ps_if (pt_cmpR op_lt (pv 1) (pe_callB call_len_seq (by rfl) T.n_len (by decide +kernel) (pa_cons (pv 0) pa_nil)) (nomark _))
        (pss_one (ps_set (i := 2) sc_feed.nd rfl (Or.inl rfl) (pe_ix ix_list (pv 0) (pv 1) (fun _ _ => rfl))))
        (pss_one (ps_if (pt_cmpR op_gt (pe_callB call_len_seq (by rfl) T.n_len (by decide +kernel) (pa_cons (pv 0) pa_nil)) pe_int (nomark _))
          (pss_one (ps_set (i := 2) sc_feed.nd rfl (Or.inl rfl) (pe_op op_add (pv 2) (pe_op op_mul (pe_op op_mod (pe_callTy call_int1 (by rfl) T.n_int (by decide +kernel) (pa_cons (pe_ix ix_list (pv 0) (pe_op op_mod (pv 1) (pe_callB call_len_seq (by rfl) T.n_len (by decide +kernel) (pa_cons (pv 0) pa_nil))) (fun _ _ => rfl)) pa_nil)) pe_int) pe_int))))
          pss_nil)))
      (pss_cons (ps_set (i := 3) sc_feed.nd rfl (Or.inl rfl) (pe_op op_mod (pe_op op_pow (pe_op op_add (pe_op op_add (pe_op op_mod (pe_callTy call_int1 (by rfl) T.n_int (by decide +kernel) (pa_cons (pv 2) pa_nil)) pe_int) (pe_op op_mul pe_int (pv 1))) pe_int) pe_int) pe_int))
      (pss_one (ps_ret (pe_lst (pa_cons (pe_ix ix_list (pe_lst (pa_cons pe_int (pa_cons (pv 2) pa_nil))) (pe_callTy call_int1 (by rfl) T.n_int (by decide +kernel) (pa_cons (pe_cmpR op_ge (pv 2) (pe_op op_pow pe_int pe_int) (nomark _)) pa_nil)) (fun _ _ => rfl)) (pa_cons (pe_op op_add (pe_op op_mod (pe_callTy call_int1 (by rfl) T.n_int (by decide +kernel) (pa_cons (pv 3) pa_nil)) pe_int) pe_int) pa_nil)))))))), ?_⟩
    refine ⟨_, rfl, 7919, b, rfl, rfl, .inl ⟨by decide, by decide⟩, _, _, rfl, rfl, ?_⟩
    have hlen : (ns.map V.int).length = ns.length := List.length_map ..
    have fin : ∀ (c z : Int) (d : Addr) (H1 : Hp), Sm H H1 → H d = none → 0 ≤ z → z < 2147483647 → Q (.ref d) (upd H1 d (.lst [.int (if 1000000000000000000 ≤ c then c else 0), .int (z % 2147483646 + 1)])) := fun c z d H1 e n z0 z1 => by
      have y0 : 0 ≤ z % 2147483646 := Int.emod_nonneg _ (by decide)
      have y1 : z % 2147483646 < 2147483646 := Int.emod_lt_of_pos _ (by decide)
      refine q d _ (fun b o h => ?_) n ⟨_, _, upd_same, ?_, by omega, by omega⟩
      · rw [upd_ne (ne_of_none h n)]
        exact e b o h
      · split <;> omega
    refine ⟨_, rfl, _, rfl, a, _, rfl, .inl hS, b, _, rfl, rfl, _, rfl, iteB (fun hb => ?_) (fun hb => ?_)⟩
    · have hb' : b.toNat < ns.length := by have := of_decide_eq_true hb; omega
      refine ⟨_, rfl, _, rfl, a, _, b, .int ns[b.toNat], rfl, rfl, hS, at_of (j := b.toNat) (by omega) (by rw [List.getElem?_map, List.getElem?_eq_getElem hb']; rfl), ?_⟩
      refine ⟨_, rfl, .inl ⟨_, rfl, _, 2147483629, rfl, rfl, (show (0 : Int) < 2147483629 by decide), _, rfl, 104729, b, rfl, rfl, .inl ⟨by decide, by decide⟩, _, _, rfl, rfl, _, _, rfl, rfl, _, 5, rfl, rfl, feed_pow _ b0 b1, _, 2147483647, rfl, rfl, (show (0 : Int) < 2147483647 by decide), ?_⟩⟩
      refine ⟨_, rfl, (show 2 ≤ sizeLine by decide), fun p hp => ⟨_, rfl, 10, 18, rfl, rfl, ⟨by decide, by decide, by decide⟩, _, _, rfl, rfl, .inr ⟨_, rfl, p, _, _, _, rfl, rfl, .inl (.inl upd_same), feed_ix _, ?_⟩⟩⟩
      refine ⟨_, rfl, .inl ⟨_, rfl, _, 2147483646, rfl, rfl, (show (0 : Int) < 2147483646 by decide), _, _, rfl, rfl, (show 2 ≤ sizeLine by decide), fun d hd => ?_⟩⟩
      exact fin _ _ d _ (Sm.new hp) ((Sm.new hp).free hd) (Int.emod_nonneg _ (by decide)) (Int.emod_lt_of_pos _ (by decide))
    · refine ⟨_, rfl, a, _, rfl, .inl hS, _, _, rfl, rfl, _, rfl, iteB (fun hb2 => ?_) (fun hb2 => ?_)⟩
      · have hl : 0 < ns.length := by have := of_decide_eq_true hb2; omega
        have hj : (b % (((ns.map V.int).length : Nat) : Int)).toNat < ns.length := by
          have h1 := Int.emod_nonneg b (b := (((ns.map V.int).length : Nat) : Int)) (by omega)
          have h2 := Int.emod_lt_of_pos b (b := (((ns.map V.int).length : Nat) : Int)) (by omega)
          omega
        refine ⟨_, rfl, _, rfl, _, rfl, _, rfl, a, _, rfl, .inl hS, b, _, rfl, rfl, (by show (0 : Int) < _; omega), a, _, _, .int ns[(b % (((ns.map V.int).length : Nat) : Int)).toNat], rfl, rfl, hS, at_of (j := (b % (((ns.map V.int).length : Nat) : Int)).toNat) (by have h1 := Int.emod_nonneg b (b := (((ns.map V.int).length : Nat) : Int)) (by omega); omega) (by rw [List.getElem?_map, List.getElem?_eq_getElem hj]; rfl), ?_⟩
        refine .inl ⟨_, rfl, _, 2147483629, rfl, rfl, (show (0 : Int) < 2147483629 by decide), _, 69623, rfl, rfl, .inr ⟨by decide, by decide⟩, _, _, rfl, rfl, ?_⟩
        refine ⟨_, rfl, .inl ⟨_, rfl, _, 2147483629, rfl, rfl, (show (0 : Int) < 2147483629 by decide), _, rfl, 104729, b, rfl, rfl, .inl ⟨by decide, by decide⟩, _, _, rfl, rfl, _, _, rfl, rfl, _, 5, rfl, rfl, feed_pow _ b0 b1, _, 2147483647, rfl, rfl, (show (0 : Int) < 2147483647 by decide), ?_⟩⟩
        refine ⟨_, rfl, (show 2 ≤ sizeLine by decide), fun p hp => ⟨_, rfl, 10, 18, rfl, rfl, ⟨by decide, by decide, by decide⟩, _, _, rfl, rfl, .inr ⟨_, rfl, p, _, _, _, rfl, rfl, .inl (.inl upd_same), feed_ix _, ?_⟩⟩⟩
        refine ⟨_, rfl, .inl ⟨_, rfl, _, 2147483646, rfl, rfl, (show (0 : Int) < 2147483646 by decide), _, _, rfl, rfl, (show 2 ≤ sizeLine by decide), fun d hd => ?_⟩⟩
        exact fin _ _ d _ (Sm.new hp) ((Sm.new hp).free hd) (Int.emod_nonneg _ (by decide)) (Int.emod_lt_of_pos _ (by decide))
      · refine ⟨_, rfl, .inl ⟨_, rfl, _, 2147483629, rfl, rfl, (show (0 : Int) < 2147483629 by decide), _, rfl, 104729, b, rfl, rfl, .inl ⟨by decide, by decide⟩, _, _, rfl, rfl, _, _, rfl, rfl, _, 5, rfl, rfl, feed_pow _ b0 b1, _, 2147483647, rfl, rfl, (show (0 : Int) < 2147483647 by decide), ?_⟩⟩
        refine ⟨_, rfl, (show 2 ≤ sizeLine by decide), fun p hp => ⟨_, rfl, 10, 18, rfl, rfl, ⟨by decide, by decide, by decide⟩, _, _, rfl, rfl, .inr ⟨_, rfl, p, _, _, _, rfl, rfl, .inl (.inl upd_same), feed_ix _, ?_⟩⟩⟩
        refine ⟨_, rfl, .inl ⟨_, rfl, _, 2147483646, rfl, rfl, (show (0 : Int) < 2147483646 by decide), _, _, rfl, rfl, (show 2 ≤ sizeLine by decide), fun d hd => ?_⟩⟩
        exact fin _ _ d _ (Sm.new hp) ((Sm.new hp).free hd) (Int.emod_nonneg _ (by decide)) (Int.emod_lt_of_pos _ (by decide))
/-! pick -/
abbrev s_pick : Stmt := topS 18
abbrev n_pick : List Str := ["_law_box", "_law_some_here"]
abbrev p_pick : List Str := ["_law_box", "_law_some_here"]
theorem sc_pick : FnScope n_pick p_pick (defScope s_pick) := ⟨rfl, rfl, rfl, by decide +kernel, rfl, by decide +kernel, by decide +kernel⟩
def spPick (K : PySem.W.Frag) : Sp := fun vs H Q _ => ∃ (a l : Addr) (xs : List V), vs = [.ref a, .ref l] ∧ BoxAt H a ∧ SqL K (msk a a H) l xs ∧ 0 < xs.length ∧ xs.length ≤ 1000 ∧
  ∀ (j : Nat) v H', xs[j]? = some v → BoxAt H' a → Sm (msk a a H) (msk a a H') → Q v H'
theorem ok_pick {f : Addr} {fd : FuncData} (F : Fun K "_law_pick" "_law_pick" s_pick f fd) (T : Bt mg) (C : Cal P w K mg base 1 "_law_take" spTake []) : FnOk P w K mg base CX0 2 f fd p_pick (spPick K) := by
  refine F.ok sc_pick (fun vs H Q E h => ?_) (fun cdv A outer s H vs Q E hr h => ?_)
  · obtain ⟨a, l, xs, rfl, _⟩ := h
    rfl
  · obtain ⟨a, l, xs, rfl, hD, hS, h0, h1, q⟩ := h
    refine ⟨_, (pss_one (ps_ret (pe_ix ix_list (pv 1) (pe_c C hr (Nat.le_refl _) (by rfl) (pa_cons (pv 0) (pa_cons (pe_callB call_len_seq (by rfl) T.n_len (by decide +kernel) (pa_cons (pv 1) pa_nil)) pa_nil))) (fun _ _ => rfl)))), ?_⟩
    refine ⟨_, rfl, _, rfl, _, rfl, l, xs, rfl, .inl (msk_le.seq hS), a, (xs.length : Int), rfl, hD, by omega, by omega, fun r H' r0 r1 hD' e' => ?_⟩
    have hS' : SqL K H' l xs := (e'.trans msk_le).seq hS
    have hj : r.toNat < xs.length := by omega
    refine ⟨l, xs, r, xs[r.toNat], rfl, rfl, hS', at_of (j := r.toNat) (by omega) (List.getElem?_eq_getElem hj), ?_⟩
    exact q r.toNat _ H' (List.getElem?_eq_getElem hj) hD' e'
end
end Z
set_option Elab.async false
set_option linter.all false
set_option maxRecDepth 100000
set_option maxHeartbeats 4000000
set_option autoImplicit false
/-! == and != of an instance of an own class (own __eq__, no own __ne__) with any value. -/
namespace Z
open PySem PySem.Spec PyProof.Rows L2
/-- the class at C with its own == at f -/
structure EqC (K : PySem.W.Frag) (C f : Addr) : Prop where
  eq : PySem.W.findIn K (.ref C) "__eq__" = some (some (.ref f))
  fn : PySem.W.isFn K (.ref f) = true
  ne : PySem.W.findIn K (.ref C) "__ne__" = some (some (.builtin "object.__ne__"))
  ob : PySem.W.mroIn K C (.type "object") = some true
/-- the own == is asked, its answer is a truth value -/
def rOwn2 (K : PySem.W.Frag) (C : Addr) (sp : Sp) (g : Bool → Bool) : R2 := fun x y H Q => ∃ (a dx : Addr) (fs : List (Str × V)) (t : Value), x = .ref a ∧ H a = some (.ins C dx fs) ∧ TyX K H y t ∧
  PySem.W.notFirst K C t = true ∧ sp [x, y] H (fun v H' => ∃ b, v = .bl b ∧ Q (.bl (g b)) H') E0
section
variable {X : Cx} {C f : Addr} {fd : FuncData} {ps : List Str} {sp : Sp} {n : Nat}
theorem eq_run (F : FnOk X.prog X.w X.K X.mg X.base CX0 n f fd ps sp) (hb : Binds X.K fd ps []) {A : Around} (hr : Room n A) (hfr : A.frames = X.A.frames)
    {pins : List (Addr × Obj)} {σ : L2.St} {H : Hp} {s : Shared} {x y : V} {u v : Value} {Q : VK} (I : Inv X pins σ H s) (rx : RelV x u) (ry : RelV y v) (h : sp [x, y] H Q E0) :
    wpAny (model X.prog X.w) A (call (.ref f) [u, v]) (EP X pins σ Q) X.xe s := by
  have env : Env0 X.prog X.w X.K X.mg X.base A X.stack s H := by
    have z := I.env0
    exact ⟨hfr.trans z.frames, z.mod, z.bs, z.bsz, z.funs, z.frf, z.hok, z.bare⟩
  have two : Vals [x, y] [u, v] := .cons rx (.cons ry .nil)
  have len := F.len _ _ _ _ h
  have bind : BindsTo s fd ⟨[u, v], []⟩ (ps.zip [u, v]) := by
    have z := hb s [u, v] I.kIn (by simpa using len)
    simpa using z
  refine wpAny_call (codeAny_mono (F.run A X.stack s H ⟨[u, v], []⟩ [u, v] [x, y] Q E0 hr env bind two h) fun r s' hq => ?_)
  cases r with
  | error e => exact hq.elim
  | ok fl =>
    cases fl with
    | ret z => exact I.after hq
    | next => exact False.elim hq
    | brk => exact False.elim hq
    | cont => exact False.elim hq
theorem op_eqO (O : EqC X.K C f) (F : FnOk X.prog X.w X.K X.mg X.base CX0 n f fd ps sp) (hb : Binds X.K fd ps []) (hr : Room n X.A) : OpR X (compareOp .Eq) (rOwn2 X.K C sp id) := by
  intro pins s σ H x y v u Q I rx ry h
  obtain ⟨a, dx, fs, t, rfl, ha, ty, nf, hs⟩ := h
  cases rx
  obtain ⟨mA, J, _⟩ := ins_get I.hok ha
  obtain ⟨od, J, _⟩ := J.look
  obtain ⟨m, hF⟩ := I.fr
  obtain ⟨P, Z, p, _⟩ := kit_of I ry ty
  show wpAny (model X.prog X.w) X.A (richCompare .Eq (.ref a) u) (EP X pins σ Q) X.xe s
  refine PySem.W.cmp_K (op := .Eq) (tb := t) hr.units0 hF I.ok.mod.kin J (Z.ty _ _ I.kIn p) nf O.eq O.fn ?_
  refine wpAny_mono (eq_run F hb hr rfl I (show L2.RelV (V.ref a) (Value.ref a) from rfl) ry hs) (fun r s' z => ?_) (fun _ _ z => z)
  obtain ⟨w, H', I', rw', b, rfl, q⟩ := z
  obtain rfl : r = Value.bool b := rw'
  exact ⟨.bl b, H', I', rfl, q⟩
theorem op_neO (O : EqC X.K C f) (F : FnOk X.prog X.w X.K X.mg X.base CX0 n f fd ps sp) (hb : Binds X.K fd ps []) (hr : Room (n + 1) X.A) : OpR X (compareOp .NotEq) (rOwn2 X.K C sp not) := by
  intro pins s σ H x y v u Q I rx ry h
  obtain ⟨a, dx, fs, t, rfl, ha, ty, nf, hs⟩ := h
  cases rx
  obtain ⟨mA, J, _⟩ := ins_get I.hok ha
  obtain ⟨od, J, _⟩ := J.look
  obtain ⟨P, Z, p, _⟩ := kit_of I ry ty
  have hu := hr.units0
  have hu1 : X.A.in1.units < cLine := hr.in1.units0
  have isO : PySem.W.Looks (model X.prog X.w) s.heap (isInstance (.ref a) (.type "object")) true := J.type.andThen (PySem.W.looks_mroIn I.kIn O.ob)
  have sub : PySem.W.Looks (model X.prog X.w) s.heap (isSubtype t (.ref C)) false ∨ t = .ref C := by
    rcases Bool.or_eq_true_iff.mp nf with e | e
    · exact .inr (beq_iff_eq.mp e)
    · exact .inl (PySem.W.looks_subIn I.kIn (beq_iff_eq.mp e))
  have run := eq_run F hb hr.in1 (A := X.A.in1) rfl I (show L2.RelV (V.ref a) (Value.ref a) from rfl) ry hs
  -- the answer of the own ==, turned
  have inner : wpAny (model X.prog X.w) X.A.in1 (Builtin.«object.__ne__» ⟨[.ref a, u], []⟩)
      (GQ.FinOf X.prog X.w X.A (wants (fun r s' => ∃ b, r = .bool b ∧ EP X pins σ Q (.bool b) s') X.xe)) (fun e s' => wants (fun r s' => ∃ b, r = .bool b ∧ EP X pins σ Q (.bool b) s') X.xe (.error e) s') s := by
    have step := PySem.W.ifBound_K (args := [u]) I.kIn J O.eq O.fn (Q := fun r s' => ∃ b, r = some (.bool b) ∧ EP X pins σ Q (.bool (!b)) s') (E := X.xe) (wpAny_mono run (fun r s' z => by
      obtain ⟨w, H', I', rw', b, rfl, q⟩ := z
      obtain rfl : r = Value.bool b := rw'
      exact ⟨b, rfl, .bl (!b), H', I', rfl, q⟩) (fun _ _ z => z))
    unfold Builtin.«object.__ne__»
    repeat (first
      | with_reducible refine wpAny_cRoomFor hu1 ?_
      | (refine wpAny_bind (m := callSpecialIfBound? (.ref a) (Str.ofString "__eq__") [u]) (wpAny_mono step (fun r s' z => ?_) (fun _ _ z => z)))
      | wp_step)
    obtain ⟨b, rfl, q⟩ := z
    show wpAny _ _ (truthy (Value.bool b) >>= fun x => ret (Value.bool (!x))) _ _ s'
    exact wpAny_bind (wpAny_truthy_bool (wpAny_pure ⟨!b, rfl, q⟩))
  have one : wpAny (model X.prog X.w) X.A (tryCompare (.ref a) "__ne__" u) (fun r s' => ∃ b, r = some (.bool b) ∧ EP X pins σ Q (.bool b) s') X.xe s := by
    have S := PySem.F.cmp_object.ne
    have isl := PySem.W.looks_findIn (M := model X.prog X.w) I.kIn O.ne
    have called : wpAny (model X.prog X.w) X.A (call (.builtin "object.__ne__") [.ref a, u]) (fun r s' => ∃ b, r = .bool b ∧ EP X pins σ Q (.bool b) s') X.xe s :=
      wpAny_call (codeAny_call_builtin S.plain PySem.F.cmpEntry_ne (PySem.W.check_slot PySem.F.cmpKind_ne PySem.F.cmpSplit_ne isO (PySem.F.cmpArgs_ne _ _) inner))
    have bound : wpAny (model X.prog X.w) X.A (callSpecialIfBound? (.ref a) "__ne__" [u]) (fun r s' => ∃ b, r = some (.bool b) ∧ EP X pins σ Q (.bool b) s') X.xe s := by
      have fin : wpAny (model X.prog X.w) X.A (call (.builtin "object.__ne__") ([.ref a] ++ [u]) >>= fun v => pure (some v)) (fun r s' => ∃ b, r = some (.bool b) ∧ EP X pins σ Q (.bool b) s') X.xe s :=
        wpAny_bind (wpAny_mono called (fun r s' ⟨b, e, q⟩ => wpAny_pure ⟨b, by rw [e], q⟩) (fun _ _ z => z))
      simp only [callSpecialIfBound?, bindSpecialIfBound?, S.bind]
      refine wpAny_holding (wpAny_bind (wpAny_bind (wpAny_bind (J.type.here (isl.here (wpAny_bind (wpAny_askSetting (wpAny_ite ?_))))))))
      split
      · exact wpAny_bind (wpAny_pure (wpAny_pure (by exact fin)))
      · exact wpAny_tryCatch (wpAny_bind (wpAny_pure (wpAny_pure (by exact fin))))
    unfold tryCompare
    refine wpAny_bind (wpAny_mono bound (fun r s' z => ?_) (fun _ _ z => z))
    obtain ⟨b, rfl, q⟩ := z
    exact wpAny_pure ⟨b, rfl, q⟩
  show wpAny (model X.prog X.w) X.A (richCompare .NotEq (.ref a) u) (EP X pins σ Q) X.xe s
  unfold richCompare
  simp only [oneThing_ref]
  refine wpAny_holding (wpAny_bind (wpAny_cRoomFor hu ?_))
  refine wpAny_bind (J.type.here (wpAny_bind ((Z.ty _ _ I.kIn p).here ?_)))
  have last : ∀ {g : Option Value → Sem Value}, (∀ v, g (some v) = pure v) → wpAny (model X.prog X.w) X.A (tryCompare (.ref a) "__ne__" u >>= g) (EP X pins σ Q) X.xe s := fun hg =>
    wpAny_bind (wpAny_mono one (fun r s' z => by
      obtain ⟨b, rfl, q⟩ := z
      rw [hg]
      exact wpAny_pure q) (fun _ _ z => z))
  split
  · rename_i h
    have e := sub.resolve_right (fun e => by rw [e] at h; simp at h)
    refine wpAny_bind (e.here ?_)
    simp only [Bool.false_eq_true, if_false]
    exact last fun _ => rfl
  · refine wpAny_bind (wpAny_pure ?_)
    simp only [Bool.false_eq_true, if_false]
    exact last fun _ => rfl
end
end Z
set_option Elab.async false
set_option linter.all false
set_option maxRecDepth 100000
set_option maxHeartbeats 4000000
set_option autoImplicit false
/-! set(l) of a list or a tuple of ints. -/
namespace L2
open PySem PySem.Spec PyProof.Rows
section
variable {P : Program} {w : World} {A : Around} {E : Value → Shared → Prop} {s : Shared}
abbrev emptyS (w : World) : Obj := ⟨.type "set", none, .set #[] 0 (.fresh 0 0 (!w.params.followText "set-order")), #[]⟩
theorem initS_list {l S : Addr} {items : Array Value} (ns : List Int) {R : Result → Shared → Prop} (hh : A.handled = none) (hS : s.heap.get? S = some (emptyS w))
    (hl : s.heap.IsList l items) (hi : IntsAre items.toList ns) (hb : ns.length + 1 < scanBound) (ne : l ≠ S)
    (h : ∀ (h' : Heap) (tk c : Nat), SetR w h' S (fun j => decide (j ∈ ns)) c → c ≤ ns.length → (∀ b o, b ≠ S → s.heap.get? b = some o → h'.get? b = some o) →
      R (.ok (.ret .none)) { s with heap := h', toks := tk }) :
    codeAny (model P w) A (.call (.builtin "set.__init__") ⟨[.ref S, .ref l], []⟩) R s := by
  have len : items.size = ns.length := by
    have z := IntsAre.length hi
    rwa [Array.length_toList] at z
  have tyS : Shared.TypeIs s (.ref S) "set" := ⟨_, hS, rfl⟩
  refine codeAny_call_builtin F.called_set.init.plain F.entry_set_init (check_set_init_1 tyS ?_)
  obtain ⟨⟨oc, od, dt, sl⟩, hol, hcl, nl, hdl⟩ := id hl
  simp only at hcl hdl
  subst hcl hdl
  have z1 := F.sub_list_set
  have z2 := F.sub_list_frozenset
  have z3 : (Value.type "list" == Value.type "dict") = false := rfl
  unfold Builtin.«set.__init__» noKeywords Builtin.Frozenset.updateFrom
  generalize hp : pyIter = it
  wp_walk
  subst hp
  refine wpAny_pyIter_list hl (wpAny_bind (wpAny_runValue ?_))
  have lt : l < s.heap.objs.size := Heap.lt_size hol
  have ltS : S < s.heap.objs.size := Heap.lt_size hS
  have hn : A.in1.in1.handled = none := by simp [hh]
  have vals : ∀ (i : Nat) (v : Value), items[i]? = some v → ∃ k t, ns[i]? = some k ∧ v = .int k t := fun i v e => by
    have lt' : i < ns.length := by
      rw [← len]
      exact (Array.getElem?_eq_some_iff.mp e).1
    obtain ⟨t, q⟩ := IntsAre.int_at hi i v (by rw [Array.getElem?_toList]; exact e)
    exact ⟨ns[i], t, List.getElem?_eq_getElem lt', by rw [q, List.getD_eq_getElem?_getD, List.getElem?_eq_getElem lt'] <;> rfl⟩
  have W := (Walks.list (prog := P) (w := w) hn s.heap.objs.size l (Nat.ne_of_lt lt) items).toS
  refine set_update_ints W S ?_ ns len hb vals (items.size - 0) 0 _ (by omega) (Nat.zero_le _) ⟨⟨_, Heap.get?_push_size _ rfl, rfl, rfl⟩, hl.push _⟩ ?_ ?_
  · intro z
    rcases List.mem_cons.mp z with z | z
    · exact absurd z (Nat.ne_of_lt ltS)
    · exact ne (List.mem_singleton.mp z).symm
  · exact ⟨0, Nat.le_refl 0, setR_new_at (Heap.get?_push_of_some _ hS)⟩
  · intro s' c hm hc hS'
    obtain ⟨h', g2, d', tk', os'⟩ := s'
    obtain rfl : g2 = s.gens := hm.gens
    obtain rfl : d' = s.drawn := hm.drawn
    obtain rfl : os' = s.os := hm.os
    refine wpAny_pure (wpAny_pure ?_)
    rw [len] at hc
    refine h h' tk' c hS' hc fun b o nb e => ?_
    have nI : b ≠ s.heap.objs.size := Nat.ne_of_lt (Heap.lt_size e)
    refine hm.heap b o (fun z => ?_) (Heap.get?_push_of_some _ e)
    rcases List.mem_cons.mp z with z | z
    · exact nb z
    · exact nI (List.mem_singleton.mp z)
/-- set(l), l a list of ints -/
theorem call_set_lstI {l : Addr} {items : Array Value} (ns : List Int) {Q : Value → Shared → Prop} (hh : A.handled = none) (hl : s.heap.IsList l items) (hi : IntsAre items.toList ns)
    (hb : ns.length + 1 < scanBound)
    (h : ∀ (h' : Heap) (tk c : Nat), SetR w h' s.heap.objs.size (fun j => decide (j ∈ ns)) c → c ≤ ns.length → (∀ b o, s.heap.get? b = some o → h'.get? b = some o) →
      Q (.ref s.heap.objs.size) { s with heap := h', toks := tk }) :
    wpAny (model P w) A (call (.type "set") [.ref l]) Q E s := by
  obtain ⟨c, tl, hmro⟩ := F.called_set.mro
  have y1 := F.called_set.made
  have y2 := F.called_set.sub
  have y3 := F.called_set.notType
  have y4 := F.called_set.canCreate
  have y5 := F.typeCall_set_1 (.ref l)
  have lt : l < s.heap.objs.size := let ⟨_, e, _⟩ := hl; Heap.lt_size e
  refine wpAny_call (codeAny_of_tree ?_)
  show wpAny _ _ (callAny (.type "set") _) _ _ _
  refine wpAny_pure ⟨Code.quiet_builtin _ (by decide +kernel), codeAny_builtin F.entry_type_call ?_⟩
  rw [Around.under_plain (weight_type_call_type "set" [.ref l] []) rfl]
  repeat (any_goals (first
    | assumption
    | wp_step))
  refine codeAny_mono (code_set_led1 (.ref l) (E := E) (Q₁ := fun obj s₁ => obj = .ref s.heap.objs.size ∧ s₁ = { s with heap := s.heap.push (emptyS w) }) ⟨rfl, rfl⟩) fun r s₁ hr => ?_
  cases r with
  | error e => exact hr
  | ok fl =>
    cases fl with
    | next => exact hr.elim
    | brk => exact hr.elim
    | cont => exact hr.elim
    | ret obj =>
      obtain ⟨rfl, rfl⟩ := hr
      have at0 : (s.heap.push (emptyS w)).get? s.heap.objs.size = some (emptyS w) := Heap.get?_push_size _ rfl
      have tyS : Shared.TypeIs { s with heap := s.heap.push (emptyS w) } (.ref s.heap.objs.size) "set" := ⟨_, at0, rfl⟩
      have y6 := F.called_set.init.lookup
      have y7 := F.called_set.init.bind (.ref s.heap.objs.size)
      repeat (any_goals (first
        | assumption
        | wp_step))
      refine initS_list ns (by simp [hh]) at0 (hl.push _) hi hb (Nat.ne_of_lt lt) fun h' tk c hR hc hk => ?_
      have fin := h h' tk c hR hc fun b o e => hk b o (Nat.ne_of_lt (Heap.lt_size e)) (Heap.get?_push_of_some _ e)
      dsimp only
      repeat (any_goals (first
        | exact fin
        | assumption
        | wp_step))
end
section
variable {X : Cx}
/-- set(x), x a list or a tuple of fewer than 4000 ints -/
def rSetI (K : PySem.W.Frag) (w : World) : List V → Hp → VK → Prop := fun vs H Q => ∃ (a : Addr) (ns : List Int), vs = [.ref a] ∧ (SqL K H a (ns.map V.int) ∨ SqT K H a (ns.map V.int)) ∧ ns.length < 4000 ∧
  ∀ (p : Addr) (n : Nat), H p = none → n ≤ ns.length → Q (.ref p) (upd H p (SetO w p (fun j => decide (j ∈ ns)) n))
theorem call_setI (hc : X.calm = true) : CallR X (.type "set") (rSetI X.K X.w) := by
  intro pins s σ H vs us Q I r h
  obtain ⟨a, ns, rfl, hS, hb, q⟩ := h
  rw [Vals.ref1 r]
  have hb' : ns.length + 1 < scanBound := by unfold scanBound; omega
  have hn : H s.heap.objs.size = none := I.hok.fresh (Nat.le_refl _)
  have fin : ∀ (h' : Heap) (tk c : Nat), SetR X.w h' s.heap.objs.size (fun j => decide (j ∈ ns)) c → c ≤ ns.length → (∀ b o, s.heap.get? b = some o → h'.get? b = some o) →
      EP X pins σ Q (.ref s.heap.objs.size) { s with heap := h', toks := tk } := fun h' tk c hR hcl hk =>
    ⟨.ref s.heap.objs.size, _, I.laid (t' := tk) hk (Nat.le_refl _) (setO_new hR), rfl, q _ c hn hcl⟩
  rcases hS with hS | hS
  · obtain ⟨its, rv, pl, _⟩ := I.list hS
    exact call_set_lstI ns (I.ok.hd hc) pl.isList (by simpa using rv.ints) hb' fin
  · obtain ⟨its, rv, pl, _⟩ := I.tuple hS
    exact call_set_tupI ns (I.ok.hd hc) pl (by simpa using rv.ints) hb' fin
theorem call_setIW (K : PySem.W.Frag) (w : World) (hc : X.calm = true) (hK : X.K = K := by rfl) (hw : X.w = w := by rfl) : CallR X (.type "set") (rSetI K w) := by
  subst hK hw
  exact call_setI hc
theorem cr_sortedSetW (w : World) (hc : X.calm = true) (hw : X.w = w := by rfl) : CallR X (.builtin "sorted") (rSortedSet w) := by
  subst hw
  exact cr_sortedSet hc
end
end L2
set_option Elab.async false
set_option linter.all false
set_option maxRecDepth 100000
set_option maxHeartbeats 4000000
set_option autoImplicit false
/-! Lines: the mathematics. -/
namespace Z
open PySem PySem.Spec PyProof.Rows L2
theorem srt_ext : ∀ {l m : List Int}, l.Pairwise (· < ·) → m.Pairwise (· < ·) → (∀ k, k ∈ l ↔ k ∈ m) → l = m
  | [], [], _, _, _ => rfl
  | [], y :: m, _, _, h => absurd ((h y).mpr (by simp)) (by simp)
  | x :: l, [], _, _, h => absurd ((h x).mp (by simp)) (by simp)
  | x :: l, y :: m, a, b, h => by
    obtain ⟨a1, a2⟩ := List.pairwise_cons.mp a
    obtain ⟨b1, b2⟩ := List.pairwise_cons.mp b
    have e : x = y := by
      rcases List.mem_cons.mp ((h x).mp (by simp)) with q | q
      · exact q
      · rcases List.mem_cons.mp ((h y).mpr (by simp)) with r | r
        · exact r.symm
        · have := a1 y r
          have := b1 x q
          omega
    subst e
    congr 1
    refine srt_ext a2 b2 fun k => ⟨fun hk => ?_, fun hk => ?_⟩
    · have n := a1 k hk
      rcases List.mem_cons.mp ((h k).mp (by simp [hk])) with q | q
      · omega
      · exact q
    · have n := b1 k hk
      rcases List.mem_cons.mp ((h k).mpr (by simp [hk])) with q | q
      · omega
      · exact q
/-- a, a + 1, .. b -/
def upto (a b : Int) : List Int := (List.range (b + 1 - a).toNat).map fun i => a + (i : Nat)
theorem mem_upto {a b k : Int} : k ∈ upto a b ↔ a ≤ k ∧ k ≤ b := by
  unfold upto
  rw [List.mem_map]
  constructor
  · rintro ⟨i, hi, rfl⟩
    have := List.mem_range.mp hi
    omega
  · rintro ⟨h1, h2⟩
    exact ⟨(k - a).toNat, List.mem_range.mpr (by omega), by omega⟩
theorem srt_upto (a b : Int) : (upto a b).Pairwise (· < ·) := by
  unfold upto
  rw [List.pairwise_map]
  exact List.Pairwise.imp (fun h => by omega) List.pairwise_lt_range
theorem len_upto (a b : Int) : (upto a b).length = (b + 1 - a).toNat := by unfold upto; rw [List.length_map, List.length_range]
theorem rgV_upto (a b : Int) : rgV a b = (upto a (b - 1)).map V.int := by
  unfold rgV upto
  rw [show b - 1 + 1 - a = b - a by omega, List.map_map]
  rfl
def walksI (n : Int) (gs : List Int) : List Int := (upto 0 n).filter fun k => decide (k ∈ gs)
def betwI (n : Int) (ws : List Int) : List Int := (upto 1 n).filter fun k => decide (k ∈ ws) && decide (k - 1 ∈ ws)
theorem mem_walks {n k : Int} {gs : List Int} (h : ∀ g ∈ gs, 0 ≤ g ∧ g ≤ n) : k ∈ walksI n gs ↔ k ∈ gs := by
  unfold walksI
  rw [List.mem_filter, mem_upto, decide_eq_true_iff]
  exact ⟨fun z => z.2, fun z => ⟨h k z, z⟩⟩
theorem srt_walks (n : Int) (gs : List Int) : (walksI n gs).Pairwise (· < ·) := List.Pairwise.filter _ (srt_upto 0 n)
theorem mem_betw {n k : Int} {ws : List Int} (h : ∀ g ∈ ws, 0 ≤ g ∧ g ≤ n) : k ∈ betwI n ws ↔ (k ∈ ws ∧ k - 1 ∈ ws) := by
  unfold betwI
  rw [List.mem_filter, mem_upto, Bool.and_eq_true, decide_eq_true_iff, decide_eq_true_iff]
  refine ⟨fun z => z.2, fun z => ⟨?_, z⟩⟩
  have := h _ z.1
  have := h _ z.2
  omega
theorem srt_betw (n : Int) (ws : List Int) : (betwI n ws).Pairwise (· < ·) := List.Pairwise.filter _ (srt_upto 1 n)
theorem walks_all (n : Int) : walksI n (upto 0 n) = upto 0 n :=
  srt_ext (srt_walks _ _) (srt_upto _ _) fun k => mem_walks fun g hg => mem_upto.mp hg
theorem walks_len (n : Int) (gs : List Int) : (walksI n gs).length ≤ (n + 1).toNat := by
  have := List.length_filter_le (fun k => decide (k ∈ gs)) (upto 0 n)
  rw [len_upto] at this
  unfold walksI
  omega
theorem betw_len (n : Int) (gs : List Int) : (betwI n gs).length ≤ n.toNat := by
  have := List.length_filter_le (fun k => decide (k ∈ gs) && decide (k - 1 ∈ gs)) (upto 1 n)
  rw [len_upto] at this
  unfold betwI
  omega
/-! bits -/
def bitsN (l : List Nat) : Nat := l.foldl (fun b k => b ||| 2 ^ k) 0
theorem bits_fold (k : Nat) : ∀ (l : List Nat) (b : Nat), (l.foldl (fun b k => b ||| 2 ^ k) b).testBit k = (b.testBit k || decide (k ∈ l))
  | [], b => by simp
  | x :: l, b => by
    rw [List.foldl_cons, bits_fold k l, Nat.testBit_or, Nat.testBit_two_pow]
    by_cases h : x = k
    · subst h; simp
    · have h' : ¬ k = x := fun z => h z.symm
      simp [h, h']
theorem bits_test (l : List Nat) (k : Nat) : (bitsN l).testBit k = decide (k ∈ l) := by
  unfold bitsN
  rw [bits_fold]
  simp
theorem bits_fold_lt {N : Nat} : ∀ (l : List Nat) (b : Nat), b < 2 ^ N → (∀ k ∈ l, k < N) → l.foldl (fun b k => b ||| 2 ^ k) b < 2 ^ N
  | [], b, h, _ => h
  | x :: l, b, h, a => by
    rw [List.foldl_cons]
    exact bits_fold_lt l _ (Nat.or_lt_two_pow h (Nat.pow_lt_pow_right (by decide) (a x (by simp)))) fun k hk => a k (by simp [hk])
theorem bits_lt {N : Nat} {l : List Nat} (h : ∀ k ∈ l, k < N) : bitsN l < 2 ^ N := bits_fold_lt l 0 (Nat.two_pow_pos _) h
def numsN (b : Nat) : List Nat := (List.range (Builtin.Int.intBits (b : Int))).filter fun k => b.testBit k
theorem bl_lt (b : Nat) : b < 2 ^ Builtin.Int.intBits (b : Int) := by
  unfold Builtin.Int.intBits
  split
  · rename_i h
    have : (b : Int) = 0 := eq_of_beq h
    have : b = 0 := by omega
    subst this
    decide
  · rw [Int.natAbs_natCast]
    exact Nat.lt_log2_self
theorem mem_nums {b k : Nat} : k ∈ numsN b ↔ b.testBit k = true := by
  unfold numsN
  rw [List.mem_filter, List.mem_range]
  refine ⟨fun h => h.2, fun h => ⟨?_, h⟩⟩
  refine Nat.lt_of_not_le fun z => ?_
  rw [Nat.testBit_lt_two_pow (Nat.lt_of_lt_of_le (bl_lt b) (Nat.pow_le_pow_right (by decide) z))] at h
  cases h
theorem srt_nums (b : Nat) : ((numsN b).map fun k : Nat => (k : Int)).Pairwise (· < ·) := by
  rw [List.pairwise_map]
  exact List.Pairwise.imp (fun h => by omega) (List.Pairwise.filter _ List.pairwise_lt_range)
theorem test_edges (b k : Nat) : (b &&& (b * 2)).testBit k = true ↔ (b.testBit k = true ∧ 1 ≤ k ∧ b.testBit (k - 1) = true) := by
  rw [Nat.testBit_and, Bool.and_eq_true]
  have e : (b * 2).testBit k = (decide (1 ≤ k) && b.testBit (k - 1)) := by
    rw [show b * 2 = b <<< 1 by rw [Nat.shiftLeft_eq], Nat.testBit_shiftLeft]
    try rfl
  rw [e, Bool.and_eq_true, decide_eq_true_iff]
/-- the edges between the crowds of gs, by their bits -/
theorem nums_betw {n : Nat} {gs : List Nat} (h : ∀ g ∈ gs, g ≤ n) : ((numsN (bitsN gs &&& (bitsN gs * 2))).map fun k : Nat => (k : Int)) = betwI n (gs.map fun k : Nat => (k : Int)) := by
  refine srt_ext (srt_nums _) (srt_betw _ _) fun k => ?_
  have hg : ∀ g ∈ gs.map (fun k : Nat => (k : Int)), 0 ≤ g ∧ g ≤ (n : Int) := fun g hg => by
    obtain ⟨x, hx, rfl⟩ := List.mem_map.mp hg
    have := h x hx
    omega
  have key : ∀ j : Nat, (j : Int) ∈ gs.map (fun k : Nat => (k : Int)) ↔ j ∈ gs := fun j => by
    rw [List.mem_map]
    exact ⟨fun ⟨x, hx, e⟩ => by rw [← Int.ofNat.inj e]; exact hx, fun z => ⟨j, z, rfl⟩⟩
  rw [mem_betw hg]
  constructor
  · intro z
    obtain ⟨j, hj, rfl⟩ := List.mem_map.mp z
    obtain ⟨h1, h2, h3⟩ := (test_edges _ _).mp (mem_nums.mp hj)
    rw [bits_test, decide_eq_true_iff] at h1 h3
    refine ⟨(key j).mpr h1, ?_⟩
    rw [show (j : Int) - 1 = ((j - 1 : Nat) : Int) by omega]
    exact (key _).mpr h3
  · rintro ⟨h1, h2⟩
    have b1 := hg _ h1
    have b2 := hg _ h2
    obtain ⟨j, rfl⟩ := Int.eq_ofNat_of_zero_le b1.1
    rw [show (j : Int) - 1 = ((j - 1 : Nat) : Int) by omega] at h2
    refine List.mem_map.mpr ⟨j, mem_nums.mpr ((test_edges _ _).mpr ⟨?_, by omega, ?_⟩), rfl⟩
    · rw [bits_test]
      exact decide_eq_true ((key j).mp h1)
    · rw [bits_test]
      exact decide_eq_true ((key _).mp h2)
end Z
set_option Elab.async false
set_option linter.all false
set_option maxRecDepth 100000
set_option maxHeartbeats 4000000
set_option autoImplicit false
/-! Plain data and any values: their types, their items. -/
namespace Z
open PySem PySem.Spec PyProof.Rows L2
/-! the type of plain data -/
def tyD : PyData → Value
  | .none => .type "NoneType"
  | .bool _ => .type "bool"
  | .int _ => .type "int"
  | .str _ => .type "str"
  | .list _ => .type "list"
  | .tuple _ => .type "tuple"
  | .dict _ => .type "dict"
theorem tyx_lst {K : PySem.W.Frag} {H : Hp} {a : Addr} {xs : List V} (h : SqL K H a xs) : TyX K H (.ref a) (.type "list") := by
  rcases h with (h | ⟨o, h⟩) | ⟨o, its, n, e, c, _⟩
  · exact .base (.lst h)
  · exact .base (.frz h)
  · exact .kList e c
theorem tyx_tup {K : PySem.W.Frag} {H : Hp} {a : Addr} {xs : List V} (h : SqT K H a xs) : TyX K H (.ref a) (.type "tuple") := by
  rcases h with (h | ⟨o, h⟩) | ⟨o, its, n, e, c, _⟩
  · exact .base (.tup h)
  · exact .fTuple h
  · exact .kTuple e c
theorem dp_ty {K : PySem.W.Frag} {H : Hp} {v : V} {d : PyData} (h : Dp K H v d) : TyX K H v (tyD d) := by
  cases h with
  | non => exact .base .non
  | bl b => exact .base (.bl b)
  | int i => exact .base (.int i)
  | str x => exact .base (.str x)
  | lst s a => exact tyx_lst s
  | tup s a => exact tyx_tup s
def isIntD : PyData → Bool
  | .int _ => true
  | _ => false
def isBlD : PyData → Bool
  | .bool _ => true
  | _ => false
def isStrD : PyData → Bool
  | .str _ => true
  | _ => false
def itemsD : PyData → Option (List PyData)
  | .list ds => some ds
  | .tuple ds => some ds
  | _ => none
theorem kit_int {K : PySem.W.Frag} {H : Hp} {v : V} {d : PyData} (h : Dp K H v d) : PySem.W.kitOne K (tyD d) (.type "int") = some (isIntD d || isBlD d) := by
  cases h <;> rfl
theorem kit_bool {K : PySem.W.Frag} {H : Hp} {v : V} {d : PyData} (h : Dp K H v d) : PySem.W.kitOne K (tyD d) (.type "bool") = some (isBlD d) := by
  cases h <;> rfl
theorem kit_str {K : PySem.W.Frag} {H : Hp} {v : V} {d : PyData} (h : Dp K H v d) : PySem.W.kitOne K (tyD d) (.type "str") = some (isStrD d) := by
  cases h <;> rfl
theorem kit_seq {K : PySem.W.Frag} {H : Hp} {v : V} {d : PyData} (h : Dp K H v d) : PySem.W.kitAny K (tyD d) [.type "list", .type "tuple"] = some (itemsD d).isSome := by
  cases h <;> rfl
theorem dp_items {K : PySem.W.Frag} {H : Hp} {v : V} {d : PyData} {ds : List PyData} (h : Dp K H v d) (e : itemsD d = some ds) :
    ∃ (a : Addr) (xs : List V), v = .ref a ∧ DpAll K H xs ds ∧ ((d = .list ds ∧ SqL K H a xs) ∨ (d = .tuple ds ∧ SqT K H a xs)) := by
  cases h with
  | non => cases e
  | bl b => cases e
  | int i => cases e
  | str x => cases e
  | lst s a =>
    cases e
    exact ⟨_, _, rfl, a, .inl ⟨rfl, s⟩⟩
  | tup s a =>
    cases e
    exact ⟨_, _, rfl, a, .inr ⟨rfl, s⟩⟩
theorem pi_or {X : Cx} {tg l : Expr} {t1 t2 : TI} (h1 : PI X tg l t1) (h2 : PI X tg l t2) : PI X tg l (fun σ H R => t1 σ H R ∨ t2 σ H R) :=
  ⟨fun pins s σ H R I h => h.elim (h1.run pins s σ H R I) (h2.run pins s σ H R I)⟩
/-- isinstance inside a comprehension -/
theorem call_isiK {X : Cx} (K : PySem.W.Frag) (h : X.K = K := by rfl) : CallR X (.builtin "isinstance") (rIsi K) := by
  subst h
  exact call_isi
theorem sm_put {H H' : Hp} {D : Addr} {o : HO} (e : Sm H H') (n : H D = none) : Sm H (upd H' D o) := fun b u h => by
  rw [upd_ne (ne_of_none h n)]
  exact e b u h
theorem dpAll_ix {K : PySem.W.Frag} {H : Hp} : ∀ {vs : List V} {ds : List PyData} {i : Nat} {v : V}, DpAll K H vs ds → vs[i]? = some v → ∃ d, ds[i]? = some d ∧ Dp K H v d
  | _, _, _, _, .nil, e => by simp at e
  | _, _, 0, _, .cons h t, e => by
    have e' : _ = _ := Option.some.inj e
    subst e'
    exact ⟨_, rfl, h⟩
  | _, _, i + 1, d, .cons h t, e => dpAll_ix (i := i) t e
theorem take_snoc {α β : Type} {l : List α} {i : Nat} {x : α} (f : α → β) (h : l[i]? = some x) : (l.take (i + 1)).map f = (l.take i).map f ++ [f x] := by
  rw [List.take_add_one, h, List.map_append]
  rfl
/-! any value: plain data, or an instance of one class -/
/-- the class at C: its instances are neither lists nor tuples nor numbers nor texts -/
structure InsC (K : PySem.W.Frag) (C : Addr) : Prop where
  c : Cls K C
  ca : PySem.W.findIn K (.ref C) "__class__" = some (some (.builtin "object.__class__"))
  cn : PySem.W.specialIn K (.builtin "object.__class__") "__get__" = some (some (.builtin "getset_descriptor.__get__"))
  ct : PySem.W.takesIn K (.builtin "object.__class__") = some true
  cm : PySem.W.mroIn K C (.type "object") = some true
theorem InsC.ty {K : PySem.W.Frag} {C a dx : Addr} {fs : List (Str × V)} {H : Hp} (I : InsC K C) (e : H a = some (.ins C dx fs)) : TyX K H (.ref a) (.ref C) :=
  .base (.ins e I.c I.ca I.cn I.ct I.cm)
/-- any value of a law: plain data, or (none) an instance of the class at C -/
inductive AV (K : PySem.W.Frag) (C : Addr) (H : Hp) : V → Option PyData → Prop where
  | dat {v : V} {d : PyData} (h : Dp K H v d) : AV K C H v (some d)
  | obj {a dx : Addr} {fs : List (Str × V)} (h : H a = some (.ins C dx fs)) : AV K C H (.ref a) none
theorem AV.sm {K : PySem.W.Frag} {C : Addr} {H H' : Hp} {v : V} {d : Option PyData} (h : AV K C H v d) (e : Sm H H') : AV K C H' v d := by
  cases h with
  | dat h => exact .dat (dp_mono e h)
  | obj h => exact .obj (e _ _ h)
def tyA (C : Addr) : Option PyData → Value
  | some d => tyD d
  | none => .ref C
theorem AV.ty {K : PySem.W.Frag} {C : Addr} {H : Hp} {v : V} {d : Option PyData} (I : InsC K C) (h : AV K C H v d) : TyX K H v (tyA C d) := by
  cases h with
  | dat h => exact dp_ty h
  | obj h => exact I.ty h
/-- isinstance of such a value, for the built-in classes that are asked -/
structure KitC (K : PySem.W.Frag) (C : Addr) : Prop where
  i : PySem.W.kitOne K (.ref C) (.type "int") = some false
  b : PySem.W.kitOne K (.ref C) (.type "bool") = some false
  s : PySem.W.kitOne K (.ref C) (.type "str") = some false
  q : PySem.W.kitAny K (.ref C) [.type "list", .type "tuple"] = some false
def intA : Option PyData → Bool
  | some (.int _) => true
  | _ => false
def blA : Option PyData → Bool
  | some (.bool _) => true
  | _ => false
def strA : Option PyData → Bool
  | some (.str _) => true
  | _ => false
def itemsA : Option PyData → Option (List PyData)
  | some d => itemsD d
  | none => none
theorem AV.kint {K : PySem.W.Frag} {C : Addr} {H : Hp} {v : V} {d : Option PyData} (Q : KitC K C) (h : AV K C H v d) : PySem.W.kitOne K (tyA C d) (.type "int") = some (intA d || blA d) := by
  cases h with
  | dat h => cases h <;> rfl
  | obj h => exact Q.i
theorem AV.kbl {K : PySem.W.Frag} {C : Addr} {H : Hp} {v : V} {d : Option PyData} (Q : KitC K C) (h : AV K C H v d) : PySem.W.kitOne K (tyA C d) (.type "bool") = some (blA d) := by
  cases h with
  | dat h => cases h <;> rfl
  | obj h => exact Q.b
theorem AV.kstr {K : PySem.W.Frag} {C : Addr} {H : Hp} {v : V} {d : Option PyData} (Q : KitC K C) (h : AV K C H v d) : PySem.W.kitOne K (tyA C d) (.type "str") = some (strA d) := by
  cases h with
  | dat h => cases h <;> rfl
  | obj h => exact Q.s
theorem AV.kseq {K : PySem.W.Frag} {C : Addr} {H : Hp} {v : V} {d : Option PyData} (Q : KitC K C) (h : AV K C H v d) : PySem.W.kitAny K (tyA C d) [.type "list", .type "tuple"] = some (itemsA d).isSome := by
  cases h with
  | dat h => cases h <;> rfl
  | obj h => exact Q.q
theorem AV.items {K : PySem.W.Frag} {C : Addr} {H : Hp} {v : V} {d : Option PyData} {ds : List PyData} (h : AV K C H v d) (e : itemsA d = some ds) :
    ∃ (a : Addr) (xs : List V), v = .ref a ∧ DpAll K H xs ds ∧ (SqL K H a xs ∨ SqT K H a xs) := by
  cases h with
  | dat h =>
    obtain ⟨a, xs, ev, ha, hs⟩ := dp_items h e
    exact ⟨a, xs, ev, ha, hs.elim (fun z => .inl z.2) (fun z => .inr z.2)⟩
  | obj h => cases e
end Z
set_option Elab.async false
set_option linter.all false
set_option maxRecDepth 100000
set_option maxHeartbeats 4000000
set_option autoImplicit false
/-! What is a list or a tuple, walked. -/
namespace Z
open PySem PySem.Spec PyProof.Rows L2
def SqA (K : PySem.W.Frag) (H : Hp) (a : Addr) (xs : List V) : Prop := SqL K H a xs ∨ SqT K H a xs
theorem SqA.sm {K : PySem.W.Frag} {H H' : Hp} {a : Addr} {xs : List V} (h : SqA K H a xs) (e : Sm H H') : SqA K H' a xs := h.elim (fun z => .inl (e.seq z)) fun z => .inr (e.tup z)
def IsIt (K : PySem.W.Frag) (a : Addr) (xs : List V) (it : It) (H : Hp) : Prop := (it = Itl K a ∧ SqL K H a xs) ∨ (it = Itt K a ∧ SqT K H a xs)
def iSq (K : PySem.W.Frag) (tl : TE) : TI := fun σ H R => tl σ H fun x H1 => ∃ a xs, x = .ref a ∧ SqA K H1 a xs ∧ ∀ it, IsIt K a xs it H1 → R it H1
section
variable {X : Cx} {tg : Expr}
theorem pi_sq {l : Expr} {tl : TE} (hl : PE X l tl) : PI X tg l (iSq X.K tl) := by
  refine ⟨fun pins s σ H R I h => ?_⟩
  refine thn (hl.run pins s σ H _ I h) fun v s1 ⟨x, H1, I1, r1, a, xs, e, hq, q⟩ => ?_
  subst e
  obtain rfl : v = Value.ref a := r1
  have new : ∀ {o : Obj} (b : Addr), b ∈ [s1.heap.objs.size] → FpOk X pins H1 b := fun b hb => by
    rw [List.mem_singleton.mp hb]
    exact I1.fpOk (Nat.le_refl _) (I1.hok.fresh (Nat.le_refl _))
  have old : ∀ {o : Obj}, Inv X pins σ H1 { s1 with heap := s1.heap.push o } := fun {o} => I1.kept (t' := s1.toks) fun b u e => Heap.get?_push_of_some _ e
  rcases hq with hq | hq
  · obtain ⟨its, rv, p, _⟩ := I1.list hq
    exact wpAny_pyIter_list p.isList ⟨_, [s1.heap.objs.size], _, _, H1, rfl, old, turn_list a _, ⟨_, Heap.get?_push_size _ rfl, rfl, rfl⟩, new (o := ⟨.none, none, .plain, #[]⟩), q _ (.inl ⟨rfl, hq⟩)⟩
  · obtain ⟨its, rv, p, _⟩ := I1.tuple hq
    exact wpAny_pyIter_tuple (show s1.heap.IsTuple a its.toArray from p) ⟨_, [s1.heap.objs.size], _, _, H1, rfl, old, turn_tuple a _, ⟨_, Heap.get?_push_size _ rfl, rfl, rfl⟩, new (o := ⟨.none, none, .plain, #[]⟩), q _ (.inr ⟨rfl, hq⟩)⟩
end
theorem lc_sq {K : PySem.W.Frag} {a : Addr} {xs : List V} {it : It} {H0 : Hp} {g : TG} {tt : TT} {te : TE} {vs : List Nat} {σ : L2.St} {H1 : Hp} {D : Addr} {Qd : Hp → Prop} (hI : IsIt K a xs it H0) (Pv : Nat → Hp → Prop)
    (h0 : Pv 0 (upd H1 D (.lst []))) (hk : ∀ i H, Pv i H → Sm H0 H)
    (hs : ∀ i x H, xs[i]? = some x → Pv i H → g x (wipe σ vs) H fun σ2 H2 => wipe σ2 vs = wipe σ vs ∧ tt σ2 H2 fun b H3 =>
      if b = true then te σ2 H3 fun y H4 => ∃ acc, H4 D = some (.lst acc) ∧ acc.length < sizeLine ∧ Pv (i + 1) (upd H4 D (.lst (acc ++ [y]))) else Pv (i + 1) H3) (hd : ∀ H, Pv xs.length H → Qd H) :
    ∃ W : Nat → Nat → Hp → Prop, (∃ m, W 0 m (upd H1 D (.lst []))) ∧ ∀ i m H, W i m H →
      (it.stop i H ∧ Qd H) ∨ (it.go i H ∧ ∃ Nx : Hp → Prop, (∀ H', Nx H' → ∃ m', m' < m ∧ W (i + 1) m' H') ∧ ∀ x H', it.yld i H x H' → g x (wipe σ vs) H' fun σ2 H2 => wipe σ2 vs = wipe σ vs ∧ tt σ2 H2 fun b H3 =>
        if b = true then te σ2 H3 fun y H4 => ∃ acc, H4 D = some (.lst acc) ∧ acc.length < sizeLine ∧ Nx (upd H4 D (.lst (acc ++ [y]))) else Nx H3) := by
  rcases hI with ⟨rfl, h⟩ | ⟨rfl, h⟩
  · exact lc_list Pv h0 (fun i H _ p => (hk i H p).seq h) hs hd
  · exact lc_tup Pv h0 (fun i H _ p => (hk i H p).tup h) hs hd
theorem for_sq {K : PySem.W.Frag} {a : Addr} {xs : List V} {it : It} {H0 : Hp} {g : TG} {tb : TS} {D : Ends} {σ : L2.St} {H : Hp} (hI : IsIt K a xs it H0) (Pv : Nat → L2.St → Hp → Prop) (h0 : Pv 0 σ H) (hk : ∀ i σ H, Pv i σ H → Sm H0 H)
    (hs : ∀ i x σ H, xs[i]? = some x → Pv i σ H → g x σ H fun σ2 H2 => tb { D with nx := Pv (i + 1), ct := Pv (i + 1), bk := D.nx } σ2 H2) (hd : ∀ σ H, Pv xs.length σ H → D.nx σ H) :
    ∃ W : Nat → Nat → L2.St → Hp → Prop, (∃ m, W 0 m σ H) ∧ ∀ i m σ H, W i m σ H →
      (it.stop i H ∧ D.nx σ H) ∨ (it.go i H ∧ ∃ N : L2.St → Hp → Prop, (∀ σ' H', N σ' H' → ∃ m', m' < m ∧ W (i + 1) m' σ' H') ∧ ∀ x H', it.yld i H x H' → g x σ H' fun σ2 H2 => tb { D with nx := N, ct := N, bk := D.nx } σ2 H2) := by
  rcases hI with ⟨rfl, h⟩ | ⟨rfl, h⟩
  · exact for_list Pv h0 (fun i σ H _ p => (hk i σ H p).seq h) hs hd
  · exact for_tup Pv h0 (fun i σ H _ p => (hk i σ H p).tup h) hs hd
/-- what a comprehension that filters and maps has made so far -/
structure PvL {α : Type} (H0 : Hp) (D : Addr) (l : List α) (p : α → Bool) (f : α → V) (i : Nat) (H : Hp) : Prop where
  sm : Sm H0 H
  at_ : H D = some (.lst (((l.take i).filter p).map f))
section
variable {α : Type} {H0 H H' : Hp} {D : Addr} {l : List α} {p : α → Bool} {f : α → V} {i : Nat} {x : α} {y : V}
theorem PvL.start (h : H0 D = none) : PvL H0 D l p f 0 (upd H0 D (.lst [])) := ⟨Sm.new h, upd_same⟩
theorem PvL.start' {H1 : Hp} (h : H1 D = none) (e : Sm H0 H1) : PvL H0 D l p f 0 (upd H1 D (.lst [])) := ⟨e.trans (Sm.new h), upd_same⟩
theorem PvL.yes (h : PvL H0 D l p f i H) (hD : H0 D = none) (e : Sm H H') (hx : l[i]? = some x) (hp : p x = true) (hy : f x = y) (hl : l.length ≤ 900) :
    ∃ acc, H' D = some (.lst acc) ∧ acc.length < sizeLine ∧ PvL H0 D l p f (i + 1) (upd H' D (.lst (acc ++ [y]))) := by
  refine ⟨_, e _ _ h.at_, small1000 ?_, sm_put (h.sm.trans e) hD, ?_⟩
  · rw [List.length_map]
    have := List.length_filter_le p (l.take i)
    rw [List.length_take] at this
    omega
  · rw [upd_same, List.take_add_one, hx, List.filter_append, List.map_append, ← hy]
    simp [hp]
theorem PvL.no (h : PvL H0 D l p f i H) (e : Sm H H') (hx : l[i]? = some x) (hp : p x = false) : PvL H0 D l p f (i + 1) H' := by
  refine ⟨h.sm.trans e, ?_⟩
  rw [e _ _ h.at_, List.take_add_one, hx, List.filter_append]
  simp [hp]
theorem PvL.fin (h : PvL H0 D l p f i H) (hi : i = l.length) : H D = some (.lst ((l.filter p).map f)) := by
  rw [h.at_, hi, List.take_length]
end
end Z
set_option Elab.async false
set_option linter.all false
set_option maxRecDepth 100000
set_option maxHeartbeats 4000000
set_option autoImplicit false
/-! Errors of own classes as plain values: made by place or by name, their field read, isinstance. -/
namespace PySem
namespace ZX
open PySem.W PySem.Calls PyProof.Rows PySem.HandSPX Builtin Builtin.ObjectAttr
/-- what is asked of the bases of a class that a maker of B's makes -/
structure Chain (B : String) (bm : List Value) : Prop where
  hB : bm.contains (.type B) = true
  hA : bm.contains (.type "AttributeError") = false
  hN : bm.contains (.type "NameError") = false
  hO : bm.contains (.type "object") = true
  hS : ∀ self, refuseLoop self "__setattr__" bm = pure ()
section
variable {M : Model} {A : Around} {E : Value → Shared → Prop} {h : Heap} {g : Array GenState} {d : Drawn} {t : Nat} {os : OsState}
variable {nm q : Str} {C N : Addr} {bs bm bmB : List Value} {hdct : Bool} {sn : List Str} {sub : List Value} {ab : Bool} {col : Option Bool} {dd : Option Addr} {k0 k1 k2 k3 k5 : Option Value} {B newId initId : String}
theorem z_checkNew (F : ExcBaseFacts B newId initId bmB) (hT : Chain B bm) {rest : List Value} {kw : List (Str × Value)} {Q : Unit → Shared → Prop}
    (hC : h.get? C = some (excClassObj nm q C N bs bm hdct sn sub ab col dd k0 k1 k2 k3 k5 newId))
    (hq : Q () ⟨h, g, d, t, os⟩) : wpAny M A (checkBuiltinCall newId ⟨.ref C :: rest, kw⟩) Q E ⟨h, g, d, t, os⟩ := by
  have zc : (Value.ref C :: bm).contains (.type B) = true := by
    rw [List.contains_cons, hT.hB, Bool.or_true]
  have zs := F.noStar
  simp only [checkBuiltinCall, F.newKind, F.newSplit, F.newRow]
  repeat (first
    | refine wpAny_loadPart_at hC ?_
    | (refine wpAny_isSubtype_exc hC ?_; rw [zc])
    | refine wpAny_staticBase_exc hC ?_
    | refine wpAny_madeBy_exc hC ?_
    | simp only [bne_self_eq_false, Bool.false_eq_true, if_false]
    | wp_step)
  exact hq
end
section
variable {prog : Program} {w : World} {A : Around} {E : Value → Shared → Prop} {R : Result → Shared → Prop} {h : Heap} {g : Array GenState} {d : Drawn} {t : Nat} {os : OsState}
variable {nm q : Str} {C N : Addr} {bs bm bmB : List Value} {hdct : Bool} {sn : List Str} {sub : List Value} {ab : Bool} {col : Option Bool} {dd : Option Addr} {k0 k1 k2 k3 k5 : Option Value} {B newId initId : String}
theorem z_new (F : ExcBaseFacts B newId initId bmB) (hT : Chain B bm) {rest : List Value} {kw : List (Str × Value)}
    (hC : h.get? C = some (excClassObj nm q C N bs bm hdct sn sub ab col dd k0 k1 k2 k3 k5 newId))
    (hq : R (.ok (.ret (.ref (h.objs.size + 1))))
      ⟨(h.push { cls := .type "tuple", data := .seq rest.toArray }).push (excO C h.objs.size), g, d, t, os⟩)
    (hrest : rest.length ≤ sizeLine) :
    codeAny (model prog w) A (.builtin newId ⟨.ref C :: rest, kw⟩) R ⟨h, g, d, t, os⟩ := by
  have z0 := F.ends
  have z1 : (Value.ref C :: bm).contains (.type B) = true := by
    rw [List.contains_cons, hT.hB, Bool.or_true]
  have z2 : (Value.ref C :: bm).contains (.type "AttributeError") = false := by
    rw [List.contains_cons, hT.hA]; rfl
  have z3 : (Value.ref C :: bm).contains (.type "NameError") = false := by
    rw [List.contains_cons, hT.hN]; rfl
  refine codeAny_builtinAt F.entry ?_
  unfold Builtin.«BaseException.__new__»
  refine wpAt_bind ?_
  show wpAt _ _ _ (stack >>= _) _ _ _
  refine wpAt_bind (wpAt_stack fun p below => wpAt_of_wpAny ?_)
  wp_walk
  refine wpAt_of_wpAny ?_
  rw [F.owner]
  repeat (first
    | with_reducible refine wpAny_madeHere_exc F.canon hC ?_
    | with_reducible refine wpAny_loadPart_at hC ?_
    | (with_reducible refine wpAny_isSubtype_exc hC ?_; first | rw [z1] | rw [z2] | rw [z3])
    | wp_step)
  show R _ _
  rw [Heap.size_push]
  exact hq
theorem z_typeCall (F : ExcBaseFacts B newId initId bmB) (hT : Chain B bm) {rest : List Value} {kw : List (Str × Value)} {fI : Addr} {Q : Fin → Shared → Prop}
    (hC : h.get? C = some (excClassObj nm q C N bs bm hdct sn sub ab col dd k0 k1 k2 k3 k5 newId))
    (hi : W.Looks (model prog w) h (typeLookup (.ref C) "__init__") (some (.ref fI)))
    (hb : ∀ self, W.Looks (model prog w) h (bindSpecial (.ref fI) self) (.ref fI, [self])) (hrest : rest.length ≤ sizeLine)
    (hq : codeAny (model prog w) A (.call (.ref fI) ⟨.ref (h.objs.size + 1) :: rest, kw⟩)
      (fun r s' => match r with | .ok (.ret v) => v = .none ∧ Q (.done (.ret (.ref (h.objs.size + 1)))) s' | .ok _ => False | .error e => E e s')
      ⟨(h.push (W.kdv_tup rest)).push (excO C h.objs.size), g, d, t, os⟩) :
    wpAny (model prog w) A (Builtin.«type.__call__» ⟨.ref C :: rest, kw⟩) Q E ⟨h, g, d, t, os⟩ := by
  repeat (first
    | with_reducible refine wpAny_loadPart_at hC ?_
    | with_reducible refine wpAny_madeBy_exc hC ?_
    | wp_step)
  refine codeAny_call_builtin_code (Code.quiet_builtin _ F.quiet) (z_checkNew F hT hC ?_)
  refine z_new F hT hC ?_ hrest
  show wpAny _ _ _ _ _ _
  have kk : ∀ b o, h.get? b = some o → ((h.push (W.kdv_tup rest)).push (excO C h.objs.size)).get? b = some o :=
    fun b o e => Heap.get?_push_of_some _ (Heap.get?_push_of_some _ e)
  have c1 := kk _ _ hC
  have c2 : ((h.push (W.kdv_tup rest)).push (excO C h.objs.size)).get? (h.objs.size + 1) = some (excO C h.objs.size) := by
    heap_get
  have c3 : (Value.ref C :: bm).contains (.ref C) = true := by simp
  have i1 := hi.keeps kk
  have b1 := (hb (.ref (h.objs.size + 1))).keeps kk
  unfold isInstance
  repeat (first
    | with_reducible refine wpAny_loadPart_at c2 ?_
    | (with_reducible refine wpAny_isSubtype_exc c1 ?_; rw [c3])
    | wp_step)
  show wpAny _ _ (typeLookup (.ref C) _) _ _ _
  refine i1.at ?_
  refine wpAny_holding (wpAny_bind (b1.at ?_))
  refine wpAny_bind (wpAny_call (codeAny_mono hq fun r s' z => ?_))
  rcases r with e | (v | _ | _ | _) <;> first | exact z | exact z.elim | skip
  obtain ⟨rfl, z⟩ := z
  first
    | exact wpAny_pure (wpAny_pure z)
    | (wp_walk; exact z)
theorem z_call (F : ExcBaseFacts B newId initId bmB) (hT : Chain B bm) {rest : List Value} {kw : List (Str × Value)} {fI : Addr}
    (hC : h.get? C = some (excClassObj nm q C N bs bm hdct sn sub ab col dd k0 k1 k2 k3 k5 newId))
    (hi : W.Looks (model prog w) h (typeLookup (.ref C) "__init__") (some (.ref fI)))
    (hb : ∀ self, W.Looks (model prog w) h (bindSpecial (.ref fI) self) (.ref fI, [self])) (hrest : rest.length ≤ sizeLine)
    (hq : codeAny (model prog w) (A.under (.builtin "type.__call__" ⟨.ref C :: rest, kw⟩))
      (.call (.ref fI) ⟨.ref (h.objs.size + 1) :: rest, kw⟩) (W.InitBack (h.objs.size + 1) R)
      ⟨(h.push (W.kdv_tup rest)).push (excO C h.objs.size), g, d, t, os⟩) :
    codeAny (model prog w) A (.call (.ref C) ⟨rest, kw⟩) R ⟨h, g, d, t, os⟩ := by
  have f1 := tc_lookup
  have f2 := tc_bind (.ref C)
  have ty : (⟨h, g, d, t, os⟩ : Shared).TypeIs (.ref C) "type" := ⟨_, hC, rfl⟩
  refine codeAny_of_tree ?_
  show wpAny _ _ (callAny (.ref C) _) _ _ _
  repeat (any_goals (first
    | assumption
    | with_reducible refine wpAny_loadPart_at hC ?_
    | wp_step))
  refine ⟨rfl, ?_⟩
  refine codeAny_call_builtin_at (Code.quiet_builtin _ (by decide +kernel)) entry_typeCall
    (wpAny_check_type_call_sub hC (z_typeCall F hT hC hi hb hrest ?_))
  refine codeAny_mono hq fun r s' z => ?_
  rcases r with e | (v | _ | _ | _) <;> exact z
end
section
variable {prog : Program} {w : World} {A : Around} {E : Value → Shared → Prop} {R : Result → Shared → Prop} {hp : Heap} {g : Array GenState} {d : Drawn} {t : Nat} {os : OsState}
theorem z_osa {K : W.Frag} {name : Str} {tk : Tok} {v : Value} {x C : Addr} {fv : Array Value} {cd : ClassData}
    (X : K.In hp) (hx : hp.get? x = some { cls := .ref C, data := .fields fv }) (hcd : W.clsIn K C = some cd)
    (ne : cd.mro.isEmpty = false) (hob : cd.mro.contains (.type "object") = true)
    (hpass : ∀ self, refuseLoop self "__setattr__" cd.mro = pure ()) (hh : cd.hasDict = true)
    (ha : W.findIn K (.ref C) name = some none)
    (hq : ∀ h' tk' dx, (∀ b o, b ≠ x → hp.get? b = some o → h'.get? b = some o) → hp.objs.size ≤ dx → dx ≠ x →
      h'.get? x = some { cls := .ref C, dict := some dx, data := .fields fv } →
      h'.Ns1 dx (fun y => if y = name then some v else none) → R (.ok (.ret .none)) ⟨h', g, d, tk', os⟩) :
    codeAny (model prog w) A (.call (.builtin "object.__setattr__") ⟨[.ref x, .str name tk, v], []⟩) R ⟨hp, g, d, t, os⟩ := by
  have I : W.InstAt hp x { cls := .ref C, data := .fields fv } C none := ⟨hx, rfl, rfl, trivial⟩
  have SF := F.store_object
  have xs : x ≠ hp.objs.size := Nat.ne_of_lt (Heap.lt_size hx)
  have sub : W.Looks (model prog w) hp (isInstance (.ref x) (.type "object")) true :=
    I.type.andThen (W.looks_mroIn X (by unfold W.mroIn; rw [hcd, Option.bind_some, if_neg (by rw [ne]; decide), hob]))
  refine codeAny_call_builtin SF.slot.plain SF.entry (@W.check_slot (model prog w) _ _ ⟨hp, g, d, t, os⟩ "object.__setattr__" "object"
    "__setattr__" (.ref x) [.str name tk, v] [] _ SF.kind SF.split sub (SF.args (.ref x) (.str name tk) v) ?_)
  have m1 : W.Looks (model prog w) hp (mroOf (.ref C)) cd.mro := (W.looks_clsIn X hcd).andThen .now
  have m3 : W.Looks (model prog w) hp (storeTaker? none) none := .now
  have m4 : W.Looks (model prog w) hp (classData C) cd := W.looks_clsIn X hcd
  rw [W.osa_eq, refuse_eq]
  refine wpAny_bind (wpAny_bind (I.type.at (wpAny_bind (m1.at ?_))))
  rw [hpass]
  refine wpAny_pure (wpAny_bind (I.type.at (wpAny_bind ((W.looks_findIn X ha).at (wpAny_bind (m3.at ?_))))))
  show wpAny _ _ (storeInOwnDict (.ref x) (.ref C) (.str name tk) name v false) _ _ _
  obtain ⟨nm, bs, mro, ns, qn, hd, sn, sb, ab, col, del⟩ := cd
  dsimp only at hh
  subst hh
  unfold storeInOwnDict ownDictForStores
  repeat (first
    | with_reducible refine store_in_new ?_ ?_
    | with_reducible refine wpAny_loadPart_at hx ?_
    | with_reducible refine m4.at ?_
    | wp_step)
  · exact ⟨_, #[], _, (Heap.get?_update_ne _ _ _ _ xs.symm).trans (Heap.get?_push_at rfl rfl), rfl,
      fun e he => absurd he (by simp), fun _ => rfl⟩
  · intro h' tk' hn' hs
    have hx1 : (hp.push { cls := .type "dict", data := .dict #[] }).get? x = some { cls := .ref C, data := .fields fv } :=
      Heap.get?_push_of_some _ hx
    refine hq h' tk' hp.objs.size (fun b o hb ho => ?_) (Nat.le_refl _) xs.symm ?_ hn'
    · exact (hs.2 b (Nat.ne_of_lt (Heap.lt_size ho))).trans
        ((Heap.get?_update_ne _ _ _ _ hb).trans (Heap.get?_push_of_some _ ho))
    · exact (hs.2 x xs).trans (Heap.get?_update_self _ hx1 rfl)
end
end ZX
end PySem

namespace L2
open PySem PySem.Spec PyProof.Rows
/-- the own error class at C, as the written part tells it -/
structure ErrC (K : PySem.W.Frag) (C : Addr) : Prop where
  cls : ∃ (B newId initId : String) (bmB : List Value) (nm q : Str) (N : Addr) (bs bm : List Value) (sn : List Str) (sub : List Value) (ab : Bool)
    (col : Option Bool) (dd : Option Addr) (k0 k1 k2 k3 k5 : Option Value), ExcBaseFacts B newId initId bmB ∧ PySem.ZX.Chain B bm ∧
    K.lookup C = some (excClassObj nm q C N bs bm true sn sub ab col dd k0 k1 k2 k3 k5 newId)
  sa : PySem.W.findIn K (.ref C) "__setattr__" = some (some (.builtin "object.__setattr__"))
  ga : PySem.W.findIn K (.ref C) "__getattribute__" = some (some (.builtin "BaseException.__getattribute__"))
  gg : PySem.W.findIn K (.ref C) "__getattr__" = some none
  exC : PySem.W.subIn K (.ref C) (.type "BaseException") = some true
  kC : PySem.W.keepIn K (.ref C) = true
  hdC : PySem.W.hasDictIn K C = true
section
variable {X : Cx} {pins : List (Addr × Obj)} {σ : St} {H : Hp} {s : Shared} {a C dx : Addr} {f : Str} {y : V} {u : Value} {Q : Unit → Shared → Prop} {E : Value → Shared → Prop} {A : Around}
theorem err_store (T : ErrC X.K C) (I : Inv X pins σ H s) (e : H a = some (exo a C none)) (hno : PySem.W.findIn X.K (.ref C) f = some none) (ry : RelV y u)
    (h : ∀ dx s', H dx = none → dx ≠ a → Inv X pins σ (upd (upd H dx (exd dx [(f, y)])) a (exo a C (some dx))) s' → Q () s') :
    wpAny (model X.prog X.w) A (setAttr (.ref a) f u) Q E s := by
  obtain ⟨B, newId, initId, bmB, nm, q, N, bs, bm, sn, sub, ab, col, dd, k0, k1, k2, k3, k5, F, hT, hC⟩ := T.cls
  have hcl : PySem.W.clsIn X.K C = some { name := nm, bases := bs, mro := .ref C :: bm, ns := N, qualname := q, hasDict := true, slotNames := sn, subclasses := sub, abstract := ab, collection := col, hasDel := false } := by
    unfold PySem.W.clsIn
    rw [hC] <;> rfl
  obtain ⟨t1, ho⟩ := exo_at I.hok e
  obtain ⟨hp, g, d, t, os⟩ := s
  refine PySem.W.set_plain I.kIn (od := none)
    (ox := { cls := .ref C, dict := none, data := .fields #[.ref t1, .none, .none, .none, .bool false, .none] }) ⟨ho, rfl, rfl, trivial⟩ T.sa ?_
  refine PySem.ZX.z_osa I.kIn ho hcl rfl (by show (Value.ref C :: bm).contains (.type "object") = true; rw [List.contains_cons, hT.hO, Bool.or_true])
    (fun self => by show refuseLoop self "__setattr__" (.ref C :: bm) = pure (); rw [refuseLoop_ref]; exact hT.hS self) rfl hno (fun h' tk' dx k dn dne hx hn => ?_)
  have hnd : H dx = none := I.hok.fresh dn
  have nd : ∀ {b : Addr} {o : Obj}, hp.get? b = some o → b ≠ dx := fun {b o} q => Nat.ne_of_lt (Nat.lt_of_lt_of_le (Heap.lt_size q) dn)
  have na : ∀ {b : Addr}, H b = none → b ≠ a := fun {b} n z => by
    rw [z, e] at n
    cases n
  have U : Un X.fs [] H (upd (upd H dx (exd dx [(f, y)])) a (exo a C (some dx))) hp h' :=
    { keep := fun b o q n _ _ => k b o (na n) q
      slot := fun b o q n _ _ => ⟨o.slots, k b o (na n) q⟩
      free := fun b o q n _ => by
        rw [upd_ne (na n), upd_ne (nd q)]
        exact n
      there := fun b o q _ => by
        by_cases hb : b = a
        · exact ⟨_, by rw [hb]; exact hx⟩
        · exact ⟨o, k b o hb q⟩
      tups := fun b xs q => by
        rw [upd_ne (at_ne e q exo_tup), upd_ne (ne_of_none q hnd)]
        exact q
      frzs := fun b o v q => by
        rw [upd_ne (at_ne e q exo_frz), upd_ne (ne_of_none q hnd)]
        exact q
      tbls := fun b ps q => ⟨#[], by
        rw [upd_ne (at_ne e q exo_tbl), upd_ne (ne_of_none q hnd), q]
        simp⟩ }
  refine h dx _ hnd dne (I.un (t' := tk') U fun b o q => ?_)
  by_cases hb : b = a
  · subst hb
    rw [upd_same] at q
    cases q
    exact exo_ok hx
  · rw [upd_ne hb] at q
    by_cases hd : b = dx
    · subst hd
      rw [upd_same] at q
      cases q
      exact exd_ok hn (relO_put (fs := []) ry fun g => True.intro)
    · rw [upd_ne hd] at q
      exact (I.hok b o q).stay
        (fun c v hc z => k c v (by
          rcases hc with hc | hc
          · rw [hc]
            exact hb
          · exact at_ne e hc exo_own) z)
        (fun c hc => by
          rw [upd_ne (at_ne e hc exo_own), upd_ne (ne_of_none hc hnd)]
          exact hc)
        (fun c xs hc => by
          rw [upd_ne (at_ne e hc exo_tup), upd_ne (ne_of_none hc hnd)]
          exact hc)
end
/-- self.f = e, the first field -/
def tErrSet (K : PySem.W.Frag) (f : Str) (to te : TE) : TS := fun D σ H => te σ H fun y H1 => to σ H1 fun x H2 =>
  ∃ a C : Addr, x = .ref a ∧ ErrC K C ∧ PySem.W.findIn K (.ref C) f = some none ∧ H2 a = some (exo a C none) ∧
    ∀ dx, H2 dx = none → dx ≠ a → D.nx σ (upd (upd H2 dx (exd dx [(f, y)])) a (exo a C (some dx)))
section
variable {X : Cx} {o e : Expr} {es : List Expr} {to te : TE} {ta : TA} {f : Str} {p p' p1 p2 pos : Pos}
theorem ps_errSet (ho : PE X o to) (he : PE X e te) (hs : swapsWith e (some (.Attribute o f p')) pos.line X.env = pure false := by rfl) :
    PS X (.Assign [.Attribute o f p'] e pos) (tErrSet X.K f to te) := by
  refine ⟨fun pins s σ H D I h => ?_⟩
  refine plainObj_wpAny_Assign_Attribute (thn (he.run pins s σ H _ I h) fun v s1 ⟨y, H1, I1, r1, q1⟩ =>
    thn (ho.run pins s1 σ H1 _ I1 q1) fun u s2 ⟨x, H2, I2, r2, a, C, ex, T, hno, ea, q⟩ => ?_) hs
  subst ex
  obtain rfl : u = Value.ref a := r2
  exact err_store T I2 ea hno r1 fun dx s' n ne J => ⟨σ, _, J, q dx n ne⟩
end
/-- what a made error leaves -/
def spErrInit (C : Addr) (f : Str) : Sp := fun vs H Q _ => ∃ (a : Addr) (v : V), vs = [.ref a, v] ∧ H a = some (exo a C none) ∧
  ∀ dx, H dx = none → dx ≠ a → Q .non (upd (upd H dx (exd dx [(f, v)])) a (exo a C (some dx)))

/-- the error class named x, made of one thing that it keeps as f -/
structure ErrM (P : Program) (w : World) (K : PySem.W.Frag) (mg : Str → Option Value) (base : Heap) (x f : Str) (C : Addr) : Prop where
  T : ErrC K C
  gC : mg x = some (.ref C)
  nf : PySem.W.findIn K (.ref C) f = some none
  ini : ∃ (fI : Addr) (fd : FuncData), PySem.W.findIn K (.ref C) "__init__" = some (some (.ref fI)) ∧ PySem.W.typeIn K (.ref fI) = some (.type "function") ∧
    FnOk P w K mg base CX0 1 fI fd ["self", f] (spErrInit C f) ∧ Binds K fd ["self", f] [] ∧
    ∀ (s : Shared) (u v : Value), BindsTo s fd ⟨[u], [(f, v)]⟩ [("self", u), (f, v)]
section
variable {X : Cx} {x f : Str} {C : Addr}
theorem upd_three {H : Hp} {a b : Addr} {o p q : HO} (d : b ≠ a) : upd (upd (upd H a o) b p) a q = upd (upd H b p) a q := by
  funext c
  by_cases h : c = a
  · rw [h, upd_same, upd_same]
  · rw [upd_ne h, upd_ne h]
    by_cases h2 : c = b
    · rw [h2, upd_same, upd_same]
    · rw [upd_ne h2, upd_ne h2, upd_ne h]
theorem run_err {pins : List (Addr × Obj)} {σ : St} {H : Hp} {s : Shared} {Q : VK} {v : V} {u : Value} {us : List Value} {kw : List (Str × Value)}
    (M : ErrM X.prog X.w X.K X.mg X.base x f C) (hr : Room 2 X.A) (I : Inv X pins σ H s) (r : RelV v u)
    (ha : (us = [u] ∧ kw = []) ∨ (us = [] ∧ kw = [(f, u)]))
    (h : ∀ a dx, H a = none → H dx = none → dx ≠ a → Q (.ref a) (upd (upd H dx (exd dx [(f, v)])) a (exo a C (some dx)))) :
    wpAny (model X.prog X.w) X.A (call (.ref C) us kw) (EP X pins σ Q) X.xe s := by
  obtain ⟨B, newId, initId, bmB, nm, q, N, bs, bm, sn, sub, ab, col, dd, k0, k1, k2, k3, k5, F, hT, hC⟩ := M.T.cls
  obtain ⟨fI, fd, i1, i2, FI, b1, b2⟩ := M.ini
  obtain ⟨hp, g, dr, tk, os⟩ := s
  have hsz : hp.objs.size ≤ hp.objs.size + 1 := Nat.le_succ _
  have hn : H (hp.objs.size + 1) = none := I.hok.fresh hsz
  have kk : ∀ b o, hp.get? b = some o → ((hp.push (PySem.W.kdv_tup us)).push (PySem.HandSPX.excO C hp.objs.size)).get? b = some o :=
    fun b o e => Heap.get?_push_of_some _ (Heap.get?_push_of_some _ e)
  have hget : ((hp.push (PySem.W.kdv_tup us)).push (PySem.HandSPX.excO C hp.objs.size)).get? (hp.objs.size + 1) = some (PySem.HandSPX.excO C hp.objs.size) := by
    heap_get
  have I2 : Inv X pins σ (upd H (hp.objs.size + 1) (exo (hp.objs.size + 1) C none))
      ⟨(hp.push (PySem.W.kdv_tup us)).push (PySem.HandSPX.excO C hp.objs.size), g, dr, tk, os⟩ :=
    I.laid (t' := tk) (a := hp.objs.size + 1) (o := exo (hp.objs.size + 1) C none) kk hsz (exo_ok hget)
  have r2 : Vals [V.ref (hp.objs.size + 1), v] [Value.ref (hp.objs.size + 1), u] := .cons rfl (.cons r .nil)
  have hb : BindsTo (⟨(hp.push (PySem.W.kdv_tup us)).push (PySem.HandSPX.excO C hp.objs.size), g, dr, tk, os⟩ : Shared) fd
      ⟨Value.ref (hp.objs.size + 1) :: us, kw⟩ ((["self", f] : List Str).zip [Value.ref (hp.objs.size + 1), u]) := by
    rcases ha with ⟨rfl, rfl⟩ | ⟨rfl, rfl⟩
    · exact b1 _ [Value.ref (hp.objs.size + 1), u] I2.kIn rfl
    · exact b2 _ _ _
  have hus : us.length ≤ sizeLine := by
    rw [sizeLine_eq]
    rcases ha with ⟨rfl, rfl⟩ | ⟨rfl, rfl⟩
    · exact (by decide : (1 : Nat) ≤ 16777216)
    · exact Nat.zero_le _
  have hq : spErrInit C f [V.ref (hp.objs.size + 1), v] (upd H (hp.objs.size + 1) (exo (hp.objs.size + 1) C none))
      (fun z H2 => z = .non ∧ Q (.ref (hp.objs.size + 1)) H2) (fun _ _ _ => False) := by
    refine ⟨_, v, rfl, upd_same, fun dx hd ne => ⟨rfl, ?_⟩⟩
    rw [upd_three ne]
    rw [upd_ne ne] at hd
    exact h _ dx hn hd ne
  have go := FI.run (X.A.under (.builtin "type.__call__" ⟨.ref C :: us, kw⟩)) X.stack _ _ ⟨Value.ref (hp.objs.size + 1) :: us, kw⟩ [Value.ref (hp.objs.size + 1), u] _ _ (fun _ _ _ => False)
    (hr.make C us kw) (I2.env0.make C us kw) hb r2 hq
  refine wpAny_call (PySem.ZX.z_call F hT (I.kIn _ _ hC) (PySem.W.looks_findIn I.kIn i1) (fun self => PySem.W.bind_fn I.kIn self i2) hus
    (codeAny_mono go fun r s' hq' => ?_))
  cases r with
  | error er => exact False.elim hq'
  | ok fl =>
    cases fl with
    | ret w' =>
      obtain ⟨z, H', I3, rv, ev, q3⟩ := I2.after hq'
      subst ev
      exact ⟨rv, ⟨V.ref (hp.objs.size + 1), H', I3, rfl, q3⟩⟩
    | next => exact False.elim hq'
    | brk => exact False.elim hq'
    | cont => exact False.elim hq'
def ErrQ (C : Addr) (f : Str) (Q : VK) (v : V) (H1 : Hp) : Prop :=
  ∀ a dx, H1 a = none → H1 dx = none → dx ≠ a → Q (.ref a) (upd (upd H1 dx (exd dx [(f, v)])) a (exo a C (some dx)))
def tErr (C : Addr) (f : Str) (te : TE) : TE := fun σ H Q => te σ H fun v H1 => ErrQ C f Q v H1
/-- x(e) -/
theorem pe_err1 {e : Expr} {te : TE} {p pos : Pos} (M : ErrM X.prog X.w X.K X.mg X.base x f C) (hr : Room 2 X.A) (hg : Gl X x) (he : PE X e te)
    (hdb : (x == ("__debug__" : Str)) = false := by decide) (hs : starEach (e :: []) X.env = (false, eval e X.env) :: starEach [] X.env := by rfl)
    (hpl : (backTo pos (starEach [] X.env)).any (·.1) = false := by rfl) : PE X (.Call (.Name x p) [e] [] pos) (tErr C f te) := by
  refine ⟨fun pins s σ H Q I h => ?_⟩
  refine wpAny_Call_Name_kw (ld_glob I hg M.gC ?_ hdb)
  have ha : PA X [e] (tCons te tNil) := pa_cons he pa_nil hs
  refine PySem.W.callWith_K (h₀ := X.base) I.ok.mod.kin M.T.kC
    (thn (ha.run pos pins s σ H (fun vs H1 => match vs with | [v] => ErrQ C f Q v H1 | _ => False) I h)
      fun us s1 ⟨vs, H1, I1, r, q⟩ => ⟨I1.kIn, ?_⟩) hs hpl
  cases r with
  | nil => exact False.elim q
  | cons ru rn =>
    cases rn with
    | nil => exact run_err M hr I1 ru (.inl ⟨rfl, rfl⟩) q
    | cons _ _ => exact False.elim q
/-- x(f=e) -/
theorem pe_errK {e : Expr} {te : TE} {p pos kpos : Pos} (M : ErrM X.prog X.w X.K X.mg X.base x f C) (hr : Room 2 X.A) (hg : Gl X x) (he : PE X e te)
    (hdb : (x == ("__debug__" : Str)) = false := by decide)
    (hall : (backToKw pos (keywordEach [⟨some f, e, kpos⟩] X.env)).all (·.1.isSome) = true := by rfl)
    (hks : (backToKw pos (keywordEach [⟨some f, e, kpos⟩] X.env)).filterMap (·.1) = [f] := by rfl)
    (hpl : ((backTo pos (starEach [] X.env)).any (·.1) || (backToKw pos (keywordEach [⟨some f, e, kpos⟩] X.env)).any (·.1.isNone)) = false := by rfl) :
    PE X (.Call (.Name x p) [] [⟨some f, e, kpos⟩] pos) (tErr C f te) := by
  refine ⟨fun pins s σ H Q I h => ?_⟩
  refine wpAny_Call_Name_kw (ld_glob I hg M.gC ?_ hdb)
  have ha : PK X [⟨some f, e, kpos⟩] (tCons te tNil) := pk_cons he pk_nil
  refine PySem.W.callWith_KW0 (h₀ := X.base) I.ok.mod.kin M.T.kC hall
    (thn (ha.run pos pins s σ H (fun vs H1 => match vs with | [v] => ErrQ C f Q v H1 | _ => False) I h)
      fun us s1 ⟨vs, H1, I1, r, q⟩ => ⟨I1.kIn, ?_⟩) hpl
  rw [hks]
  cases r with
  | nil => exact False.elim q
  | cons ru rn =>
    cases rn with
    | nil => exact run_err M hr I1 ru (.inr ⟨rfl, rfl⟩) q
    | cons _ _ => exact False.elim q
/-- e.f, e an own error with its dict -/
def tErrAt (K : PySem.W.Frag) (f : Str) (te : TE) : TE := fun σ H Q => te σ H fun x H1 => ∃ (a C d : Addr) (fs : List (Str × V)) (v : V),
  x = .ref a ∧ ErrC K C ∧ PySem.W.findIn K (.ref C) f = some none ∧ H1 a = some (exo a C (some d)) ∧ H1 d = some (exd d fs) ∧ fs.lookup f = some v ∧ Q v H1
theorem pe_errAt {e : Expr} {te : TE} {pos : Pos} (he : PE X e te) (hb : attributeBase e f X.env (eval e X.env) = eval e X.env := by rfl) :
    PE X (.Attribute e f pos) (tErrAt X.K f te) := by
  refine ⟨fun pins s σ H Q I h => ?_⟩
  refine attr_of hb (thn (he.run pins s σ H _ I h) fun u s1 hh => ?_)
  obtain ⟨x, H1, I1, rx, a, C, d, fs, v, ex, T, nf, ea, ed, lf, q⟩ := hh
  subst ex
  obtain rfl : u = Value.ref a := rx
  obtain ⟨t1, ho⟩ := exo_at I1.hok ea
  obtain ⟨mA, hns, rel⟩ := exd_at I1.hok ed
  obtain ⟨od, hod, hl⟩ := lookIn_ns hns
  obtain ⟨w', hu, ru⟩ := RelO.some_of (v := v) (o := mA f) (by rw [← lf]; exact rel f)
  have J : PySem.W.InstAt s1.heap a { cls := .ref C, dict := some d, data := .fields #[.ref t1, .none, .none, .none, .bool false, .none] } C (some od) := ⟨ho, rfl, rfl, hod⟩
  exact HandSPX.exc_get I1.kIn J T.ga T.gg T.exC (PySem.W.findObj_own T.hdC nf rfl (by rw [hl, hu])) (handed_of ru) ⟨v, H1, I1.tok _, ru, q⟩
/-- isinstance(e, c), e an own error -/
def rErrIs (K : PySem.W.Frag) : List V → Hp → VK → Prop := fun xs H Q => ∃ (a C : Addr) (d : Option Addr) (c : V) (cv : Value) (b : Bool),
  xs = [.ref a, c] ∧ H a = some (exo a C d) ∧ (∀ e, d = some e → ∃ fs, H e = some (exd e fs)) ∧ ExcC K C ∧ (∀ u, RelV c u → u = cv) ∧
  PySem.W.kitOne K (.ref C) cv = some b ∧ Q (.bl b) H
theorem call_errIs : CallR X (.builtin "isinstance") (rErrIs X.K) := by
  intro pins s σ H xs us Q I r h
  obtain ⟨a, C, d, c, cv, b, rfl, ea, ed, T, hcv, e, q⟩ := h
  cases r with
  | cons rx rr =>
    cases rr with
    | cons rt rr =>
      cases rr
      cases rx
      have ec := hcv _ rt
      subst ec
      obtain ⟨t1, ho⟩ := exo_at I.hok ea
      obtain ⟨cd, hc, _⟩ := PySem.W.any_some T.hd
      have hcl : (PySem.W.clsIn X.K C).isSome = true := by rw [hc]; rfl
      have fin : ∀ tk, EP X pins σ Q (.bool b) { s with toks := tk } := fun tk => ⟨.bl b, H, I.kept (t' := tk) fun _ _ z => z, rfl, q⟩
      cases d with
      | none =>
        exact PySem.W.kia_one (PySem.W.kitx_exc hcl T.hg T.hk T.hs T.ha T.hn T.ht T.hm) I.kIn
          (show PySem.W.InstAt s.heap a { cls := .ref C, dict := none, data := .fields #[.ref t1, .none, .none, .none, .bool false, .none] } C none from ⟨ho, rfl, rfl, trivial⟩) e (fun z => nomatch z) fin
      | some dd =>
        obtain ⟨fs, hd⟩ := ed dd rfl
        obtain ⟨mA, hns, rel⟩ := exd_at I.hok hd
        obtain ⟨od, hod, hl⟩ := lookIn_ns hns
        exact PySem.W.kia_one (PySem.W.kitx_exc hcl T.hg T.hk T.hs T.ha T.hn T.ht T.hm) I.kIn
          (show PySem.W.InstAt s.heap a { cls := .ref C, dict := some dd, data := .fields #[.ref t1, .none, .none, .none, .bool false, .none] } C (some od) from ⟨ho, rfl, rfl, hod⟩) e (fun z => nomatch z) fin
/-- x(), no __init__ of its own -/
structure Err0 (K : PySem.W.Frag) (mg : Str → Option Value) (x : Str) (C : Addr) : Prop where
  gC : mg x = some (.ref C)
  kC : PySem.W.keepIn K (.ref C) = true
  ex : PySem.W.excIn K C PySem.HandSPX.veTail "ValueError.__new__" = true
theorem pe_err0 {p pos : Pos} (M : Err0 X.K X.mg x C) (hg : Gl X x) (hdb : (x == ("__debug__" : Str)) = false := by decide) :
    PE X (.Call (.Name x p) [] [] pos) (fun _ H Q => ∀ a, H a = none → Q (.ref a) (upd H a (exo a C none))) := by
  refine ⟨fun pins s σ H Q I h => ?_⟩
  refine wpAny_Call_Name_kw (ld_glob I hg M.gC ?_ hdb)
  refine PySem.W.callWith_K0 I.kIn M.kC ?_
  show wpAny _ _ (call (.ref C) []) _ _ _
  obtain ⟨hp, g, dr, tk, os⟩ := s
  obtain ⟨bm, N, nm, qn, bs, hdct, sn, sub, ab, col, dd, k0, k1, k2, k3, k5, mN, hC, hN, hni, T⟩ := exc_obj I.kIn M.ex
  refine wpAny_call_exc_subT F.excBase_ValueError T hC hN hni (fun h' e hm => ?_) (by show 0 ≤ sizeLine; exact Nat.zero_le _)
  obtain ⟨t1, ht, _, _⟩ := hm.there
  have he : H e = none := I.hok.gone hm.new
  have ne : ∀ {b : Addr} {o : Obj}, hp.get? b = some o → b ≠ e := fun {b o} q z => by
    have y : hp.get? e = none := hm.new
    rw [z, y] at q
    cases q
  have U : Un X.fs [] H (upd H e (exo e C none)) hp h' :=
    { keep := fun b o q _ _ _ => hm.keeps b o q
      slot := fun b o q _ _ _ => ⟨o.slots, hm.keeps b o q⟩
      free := fun b o q n _ => by
        rw [upd_ne (ne q)]
        exact n
      there := fun b o q _ => ⟨o, hm.keeps b o q⟩
      tups := fun b xs q => by
        rw [upd_ne (ne_of_none q he)]
        exact q
      frzs := fun b o v q => by
        rw [upd_ne (ne_of_none q he)]
        exact q
      tbls := fun b ps q => ⟨#[], by
        rw [upd_ne (ne_of_none q he), q]
        simp⟩ }
  have J : Inv X pins σ (upd H e (exo e C none)) ⟨h', g, dr, tk, os⟩ := I.un (t' := tk) U fun b o q => by
    by_cases hb : b = e
    · subst hb
      rw [upd_same] at q
      cases q
      exact exo_ok ht
    · rw [upd_ne hb] at q
      exact (I.hok b o q).stay (fun c v _ z => hm.keeps c v z)
        (fun c hc => by rw [upd_ne (ne_of_none hc he)]; exact hc)
        (fun c xs hc => by rw [upd_ne (ne_of_none hc he)]; exact hc)
  exact ⟨.ref e, _, J, rfl, h e he⟩
end
end L2
set_option Elab.async false
set_option linter.all false
set_option maxRecDepth 100000
set_option maxHeartbeats 4000000
set_option autoImplicit false
/-! Lines: the defs beside the class. -/
namespace Z
open PySem PySem.Spec PyProof.Rows L2
open C8 (Cal pe_c Mak pe_mk Met pe_mt pe_mt0 pe_gc)
theorem op_in_seqK {X : Cx} (K : PySem.W.Frag) (h : X.K = K := by rfl) : OpR X (compareOp .In) (rIn K false) := by
  subst h
  exact op_in_seq
theorem op_notIn_seqK {X : Cx} (K : PySem.W.Frag) (h : X.K = K := by rfl) : OpR X (compareOp .NotIn) (rIn K true) := by
  subst h
  exact op_notIn_seq
theorem pi_sqK {X : Cx} {tg : Expr} (K : PySem.W.Frag) {l : Expr} {tl : TE} (hl : PE X l tl) (h : X.K = K := by rfl) : PI X tg l (iSq K tl) := by
  subst h
  exact pi_sq hl
def isNoneA : Option PyData → Bool
  | some .none => true
  | _ => false
def numD : PyData → Bool
  | .int i => decide (0 ≤ i)
  | _ => false
def numA : Option PyData → Bool
  | some d => numD d
  | _ => false
def okI (lo hi : Int) : PyData → Bool
  | .int i => decide (lo ≤ i) && decide (i ≤ hi)
  | _ => false
def fromB (lo hi : Int) (d : Option PyData) : Bool := match itemsA d with
  | some ds => ds.all (okI lo hi)
  | none => false
def toI : PyData → Option Int
  | .int i => some i
  | _ => none
def intsA (d : Option PyData) : List Int := match itemsA d with
  | some ds => ds.filterMap toI
  | none => []
theorem from_ints {lo hi : Int} {ds : List PyData} (h : ds.all (okI lo hi) = true) : ds = (ds.filterMap toI).map PyData.int ∧ ∀ n ∈ ds.filterMap toI, lo ≤ n ∧ n ≤ hi := by
  induction ds with
  | nil => exact ⟨rfl, fun _ h => nomatch h⟩
  | cons x ds ih =>
    rw [List.all_cons] at h
    obtain ⟨h1, h2⟩ := Bool.and_eq_true_iff.mp h
    obtain ⟨a, b⟩ := ih h2
    cases x with
    | int i =>
      obtain ⟨l1, l2⟩ := Bool.and_eq_true_iff.mp h1
      refine ⟨congrArg (PyData.int i :: ·) a, fun n hn => ?_⟩
      rcases List.mem_cons.mp hn with q | q
      · rw [q]
        exact ⟨of_decide_eq_true l1, of_decide_eq_true l2⟩
      · exact b n q
    | none => cases h1
    | bool _ => cases h1
    | str _ => cases h1
    | list _ => cases h1
    | tuple _ => cases h1
    | dict _ => cases h1
theorem dpAll_intV {K : PySem.W.Frag} {H : Hp} : ∀ {ns : List Int} {vs : List V}, DpAll K H vs (ns.map PyData.int) → vs = ns.map V.int
  | [], _, .nil => rfl
  | n :: ns, _, .cons (.int _) t => by rw [dpAll_intV t]; rfl
/-- what is from lo to hi is a sequence of ints -/
theorem from_seq {K : PySem.W.Frag} {C : Addr} {H : Hp} {v : V} {d : Option PyData} {lo hi : Int} (h : AV K C H v d) (e : fromB lo hi d = true) :
    ∃ a : Addr, v = .ref a ∧ SqA K H a ((intsA d).map V.int) ∧ (∀ n ∈ intsA d, lo ≤ n ∧ n ≤ hi) ∧ ∃ ds, itemsA d = some ds ∧ ds = (intsA d).map PyData.int := by
  unfold fromB at e
  cases q : itemsA d with
  | none =>
    rw [q] at e
    cases e
  | some ds =>
    rw [q] at e
    obtain ⟨a, b⟩ := from_ints e
    have ei : intsA d = ds.filterMap toI := by
      unfold intsA
      rw [q]
    obtain ⟨p, xs, rfl, ha, hs⟩ := h.items q
    rw [a] at ha
    rw [ei]
    refine ⟨p, rfl, ?_, b, ds, rfl, a⟩
    rw [← dpAll_intV ha]
    exact hs
/-- the class of lines -/
structure LnC (K : PySem.W.Frag) (C : Addr) : Prop where
  i : InsC K C
  k : KitC K C
  n1 : NoAttr K C "people"
  n2 : NoAttr K C "goes"
  n3 : NoAttr K C "edges"
section
variable {P : Program} {w : World} {K : PySem.W.Frag} {mg : Str → Option Value} {base : Heap} {C : Addr}
/-- a question about any value -/
def spAskA (K : PySem.W.Frag) (C : Addr) (t : Option PyData → Bool) : Sp := fun vs H Q _ => ∃ v d, vs = [v] ∧ AV K C H v d ∧ ∀ H', Sm H H' → Q (.bl (t d)) H'
abbrev s_isint : Stmt := topS 2
theorem sc_isint : FnScope ["value"] ["value"] (defScope s_isint) := ⟨rfl, rfl, rfl, by decide +kernel, rfl, by decide +kernel, by decide +kernel⟩
theorem ok_isint {f : Addr} {fd : FuncData} {k : Nat} (F : Fun K "is_integer" "is_integer" s_isint f fd) (T : Bt mg) (L : LnC K C) : FnOk P w K mg base CX0 (k + 1) f fd ["value"] (spAskA K C intA) := by
  refine F.ok sc_isint (fun vs H Q E h => ?_) (fun cdv A outer s H vs Q E hr h => ?_)
  · obtain ⟨v, d, rfl, _⟩ := h
    rfl
  · obtain ⟨v, d, rfl, hd, q⟩ := h
    refine ⟨_, (pss_one (ps_ret (pe_and (pe_callB call_isi (by rfl) T.n_isinstance (by decide +kernel) (pa_cons (pv 0) (pa_cons (pe_bltn (v := .ty "int") (by rfl) T.n_int (by decide +kernel) rfl) pa_nil)))
      (pe_one (pe_not (pe_callB call_isi (by rfl) T.n_isinstance (by decide +kernel) (pa_cons (pv 0) (pa_cons (pe_bltn (v := .ty "bool") (by rfl) T.n_bool (by decide +kernel) rfl) pa_nil)))))))), ?_⟩
    refine ⟨_, rfl, v, _, _, _, _, rfl, .ty "int", hd.ty L.i, hd.kint L.k, _, rfl, ?_⟩
    have z := q H (Sm.refl H)
    have e : intA d = if (intA d || blA d) = true then !blA d else false := by
      cases d with
      | none => rfl
      | some d => cases d <;> rfl
    rw [e] at z
    refine iteB (fun hb => ?_) (fun hb => ?_)
    · rw [if_pos hb] at z
      exact ⟨_, rfl, v, _, _, _, _, rfl, .ty "bool", hd.ty L.i, hd.kbl L.k, _, rfl, z⟩
    · rw [hb] at z
      exact z
abbrev s_isnum : Stmt := topS 3
theorem sc_isnum : FnScope ["value"] ["value"] (defScope s_isnum) := ⟨rfl, rfl, rfl, by decide +kernel, rfl, by decide +kernel, by decide +kernel⟩
theorem ok_isnum {f : Addr} {fd : FuncData} (F : Fun K "is_number" "is_number" s_isnum f fd) (Ci : Cal P w K mg base 1 "is_integer" (spAskA K C intA) []) : FnOk P w K mg base CX0 2 f fd ["value"] (spAskA K C numA) := by
  refine F.ok sc_isnum (fun vs H Q E h => ?_) (fun cdv A outer s H vs Q E hr h => ?_)
  · obtain ⟨v, d, rfl, _⟩ := h
    rfl
  · obtain ⟨v, d, rfl, hd, q⟩ := h
    refine ⟨_, (pss_one (ps_ret (pe_and (pe_c Ci hr (by decide) (by rfl) (pa_cons (pv 0) pa_nil)) (pe_one (pe_cmpR op_ge (pv 0) pe_int (nomark _)))))), ?_⟩
    refine ⟨_, rfl, v, d, rfl, hd, fun H1 s1 => ⟨_, rfl, ?_⟩⟩
    have z := q H1 s1
    cases hd with
    | obj h => exact z
    | dat h =>
      cases h with
      | int i => exact ⟨_, rfl, i, 0, rfl, rfl, z⟩
      | non => exact z
      | bl b => exact z
      | str x => exact z
      | lst x y => exact z
      | tup x y => exact z
abbrev s_isseq : Stmt := topS 4
theorem sc_isseq : FnScope ["value"] ["value"] (defScope s_isseq) := ⟨rfl, rfl, rfl, by decide +kernel, rfl, by decide +kernel, by decide +kernel⟩
theorem ok_isseq {f : Addr} {fd : FuncData} {k : Nat} (F : Fun K "is_sequence" "is_sequence" s_isseq f fd) (T : Bt mg) (L : LnC K C) : FnOk P w K mg base CX0 (k + 1) f fd ["value"] (spAskA K C fun d => (itemsA d).isSome) := by
  refine F.ok sc_isseq (fun vs H Q E h => ?_) (fun cdv A outer s H vs Q E hr h => ?_)
  · obtain ⟨v, d, rfl, _⟩ := h
    rfl
  · obtain ⟨v, d, rfl, hd, q⟩ := h
    refine ⟨_, (pss_one (ps_ret (pe_callB call_isiT (by rfl) T.n_isinstance (by decide +kernel) (pa_cons (pv 0) (pa_cons (pe_tup (pa_cons (pe_bltn (v := .ty "list") (by rfl) T.n_list (by decide +kernel) rfl) (pa_cons (pe_bltn (v := .ty "tuple") (by rfl) T.n_tuple (by decide +kernel) rfl) pa_nil))) pa_nil))))), ?_⟩
    refine ⟨_, rfl, (show 2 ≤ sizeLine by decide), fun p hp => ⟨v, p, _, _, _, _, rfl, upd_same, .cons (.ty _) (.cons (.ty _) .nil), (hd.sm (Sm.new hp)).ty L.i, hd.kseq L.k, q _ (Sm.new hp)⟩⟩
abbrev s_from : Stmt := topS 11
abbrev n_from : List Str := ["values", "lowest", "highest", "value"]
abbrev p_from : List Str := ["values", "lowest", "highest"]
theorem sc_from : FnScope n_from p_from (defScope s_from) := ⟨rfl, rfl, rfl, by decide +kernel, rfl, by decide +kernel, by decide +kernel⟩
def spFrom (K : PySem.W.Frag) (C : Addr) : Sp := fun vs H Q _ => ∃ (v : V) (d : Option PyData) (lo hi : Int), vs = [v, .int lo, .int hi] ∧ AV K C H v d ∧ (∀ ds, itemsA d = some ds → ds.length ≤ 60) ∧ ∀ H', Sm H H' → Q (.bl (fromB lo hi d)) H'
theorem ok_from {f : Addr} {fd : FuncData} (F : Fun K "_are_from" "_are_from" s_from f fd) (T : Bt mg) (Cs : Cal P w K mg base 1 "is_sequence" (spAskA K C fun d => (itemsA d).isSome) [])
    (Ci : Cal P w K mg base 1 "is_integer" (spAskA K C intA) []) : FnOk P w K mg base CX0 2 f fd p_from (spFrom K C) := by
  refine F.ok sc_from (fun vs H Q E h => ?_) (fun cdv A outer s H vs Q E hr h => ?_)
  · obtain ⟨v, d, lo, hi, rfl, _⟩ := h
    rfl
  · obtain ⟨v, d, lo, hi, rfl, hd, hlen, q⟩ := h
    refine ⟨_, (pss_cons (ps_if (pt_not (pt_val (pe_c Cs hr (by decide) (by rfl) (pa_cons (pv 0) pa_nil))))
        (pss_one (ps_ret pe_bl))
        pss_nil)
      (pss_one (ps_ret (pe_callB (cr_all rfl) (by rfl) T.n_all (by decide +kernel) (pa_cons (pe_lc (own := [("value", 3)]) (tt := tYes) (by rfl) sc_from.nd (pi_sq (pv 0)) (blkOk_by (N := n_from) (sc := defScope s_from) (own := [("value", 3)]) (by decide +kernel)) (fun _ _ _ _ _ => pg_name (i := 3) sc_from.nd rfl (Or.inl rfl)) (fun _ _ _ _ _ => pts_nil) (fun _ _ _ _ _ => (pe_and (pe_c Ci hr (by decide) (by rfl) (pa_cons (pv 3) pa_nil)) (pe_one (pe_chain op_le op_le (pv 1) (pv 3) (pv 2)))))) pa_nil))))), ?_⟩
    refine ⟨_, rfl, v, d, rfl, hd, fun H1 s1 => ⟨_, rfl, iteB (fun hb => ?_) (fun hb => ?_)⟩⟩
    · have z := q H1 s1
      have e : itemsA d = none := by simpa using hb
      unfold fromB at z
      rw [e] at z
      exact z
    · obtain ⟨ds, e⟩ : ∃ ds, itemsA d = some ds := Option.isSome_iff_exists.mp (by simpa using hb)
      obtain ⟨a, xs, rfl, ha, hs⟩ := (hd.sm s1).items e
      have hl := hlen ds e
      refine ⟨_, rfl, a, xs, rfl, hs, fun it hit D hD => ?_⟩
      have lx := dpAll_len ha
      refine lc_sq hit (PvL H1 D ds (fun _ => true) fun d => V.bl (okI lo hi d)) (PvL.start hD) (fun i H p => p.sm) ?_ ?_
      · rintro i x H2 hx p
        obtain ⟨y, hy, hdy⟩ := dpAll_ix ha hx
        refine ⟨rfl, _, rfl, x, some y, rfl, .dat (dp_mono p.sm hdy), fun H3 s3 => ⟨_, rfl, ?_⟩⟩
        cases hdy with
        | int j =>
          refine ⟨_, rfl, _, rfl, lo, j, rfl, rfl, _, rfl, iteB (fun hb => ⟨_, rfl, j, hi, rfl, rfl, p.yes hD s3 hy rfl ?_ (by omega)⟩) (fun hb => p.yes hD s3 hy rfl ?_ (by omega))⟩
          · show V.bl (decide (lo ≤ j) && decide (j ≤ hi)) = _
            rw [hb]
            rfl
          · show V.bl (decide (lo ≤ j) && decide (j ≤ hi)) = _
            rw [hb]
            rfl
        | non => exact p.yes hD s3 hy rfl rfl (by omega)
        | bl b => exact p.yes hD s3 hy rfl rfl (by omega)
        | str x => exact p.yes hD s3 hy rfl rfl (by omega)
        | lst x y => exact p.yes hD s3 hy rfl rfl (by omega)
        | tup x y => exact p.yes hD s3 hy rfl rfl (by omega)
      · intro H2 p
        have z := q H2 (s1.trans p.sm)
        unfold fromB at z
        rw [e] at z
        refine ⟨D, ds.map (okI lo hi), rfl, .inl (.inl ?_), ?_⟩
        · rw [p.fin lx, List.filter_eq_self.mpr (fun _ _ => rfl), List.map_map]
          rfl
        · rw [List.all_map]
          exact z
end
end Z
set_option Elab.async false
set_option linter.all false
set_option maxRecDepth 100000
set_option maxHeartbeats 4000000
set_option autoImplicit false
namespace Z
open PySem PySem.Spec PyProof.Rows L2 Bits
open C8 (Cal pe_c Mak pe_mk Met pe_mt pe_mt0 pe_gc)
def tTru (K : PySem.W.Frag) (ta : TE) : TT := fun σ H Q => ta σ H fun x H' => ∃ k, TruV K x H' k ∧ Q k H'
theorem pt_truthK {X : Cx} (K : PySem.W.Frag) {a : Expr} {ta : TE} (ha : PE X a ta) (he : ∀ whole, isTrue a X.env whole = (do let v ← whole; standAt a.pos; holding [v] (truthy v))) (h : X.K = K := by rfl) :
    PT X a (tTru K ta) := by
  subst h
  exact pt_truth ha he
section
variable {P : Program} {w : World} {K : PySem.W.Frag} {mg : Str → Option Value} {base : Heap} {C : Addr}
abbrev s_eb : Stmt := topS 12
theorem sc_eb : FnScope ["crowds"] ["crowds"] (defScope s_eb) := ⟨rfl, rfl, rfl, by decide +kernel, rfl, by decide +kernel, by decide +kernel⟩
def spEb : Sp := fun vs H Q _ => ∃ b : Nat, vs = [.int b] ∧ b < 2 ^ 60 ∧ Q (.int ((b &&& (b * 2) : Nat) : Int)) H
theorem ok_eb {f : Addr} {fd : FuncData} {k : Nat} (F : Fun K "_edges_between" "_edges_between" s_eb f fd) : FnOk P w K mg base CX0 (k + 1) f fd ["crowds"] spEb := by
  refine F.ok sc_eb (fun vs H Q E h => ?_) (fun cdv A outer s H vs Q E hr h => ?_)
  · obtain ⟨b, rfl, _⟩ := h
    rfl
  · obtain ⟨b, rfl, hb, q⟩ := h
    refine ⟨_, (pss_one (ps_ret (pe_op op_and (pv 0) (pe_op op_shl (pv 0) pe_int)))), ?_⟩
    refine ⟨_, rfl, _, rfl, b, 1, rfl, rfl, ⟨by decide, by decide, by rw [Int.natAbs_natCast]; omega⟩, b, _, rfl, rfl, ?_⟩
    have e : Builtin.bitAnd (b : Int) ((b : Int) * 2 ^ (1 : Int).toNat) = ((b &&& (b * 2) : Nat) : Int) := by
      have h2 : (b : Int) * 2 ^ (1 : Int).toNat = ((b * 2 : Nat) : Int) := by
        rw [show (2 : Int) ^ (1 : Int).toNat = 2 from rfl]
        omega
      rw [h2, bitAnd_pp (by omega) (by omega), Int.toNat_natCast, Int.toNat_natCast]
    rw [← e] at q
    exact q
abbrev s_bits : Stmt := topS 13
abbrev n_bits : List Str := ["numbers", "bits", "number"]
theorem sc_bits : FnScope n_bits ["numbers"] (defScope s_bits) := ⟨rfl, rfl, rfl, by decide +kernel, rfl, by decide +kernel, by decide +kernel⟩
def spBits (K : PySem.W.Frag) : Sp := fun vs H Q _ => ∃ (a : Addr) (ns : List Nat), vs = [.ref a] ∧ SqA K H a ((ns.map fun k : Nat => (k : Int)).map V.int) ∧ (∀ n ∈ ns, n < 60) ∧ Q (.int (bitsN ns : Nat)) H
theorem bits_snoc (l : List Nat) (x : Nat) : bitsN (l ++ [x]) = bitsN l ||| 2 ^ x := by
  unfold bitsN
  rw [List.foldl_append]
  rfl
theorem ok_bits {f : Addr} {fd : FuncData} {k : Nat} (F : Fun K "_bits" "_bits" s_bits f fd) : FnOk P w K mg base CX0 (k + 1) f fd ["numbers"] (spBits K) := by
  refine F.ok sc_bits (fun vs H Q E h => ?_) (fun cdv A outer s H vs Q E hr h => ?_)
  · obtain ⟨a, ns, rfl, _⟩ := h
    rfl
  · obtain ⟨a, ns, rfl, hS, hb, q⟩ := h
    refine ⟨_, (pss_cons (ps_set (i := 1) sc_bits.nd rfl (Or.inl rfl) pe_int)
      (pss_cons (ps_for PassesOwn.never rfl (pi_sq (pv 0)) (pg_name (i := 2) sc_bits.nd rfl (Or.inl rfl))
        (pss_one (ps_set (i := 1) sc_bits.nd rfl (Or.inl rfl) (pe_op op_or (pv 1) (pe_op op_shl pe_int (pv 2))))))
      (pss_one (ps_ret (pv 1))))), ?_⟩
    refine ⟨_, rfl, a, _, rfl, hS, fun it hit => for_sq hit (fun i σ H' => H' = H ∧ ∃ x2, σ = [some (.ref a), some (.int (bitsN (ns.take i) : Nat)), x2]) ⟨rfl, _, rfl⟩ (fun i σ H' p => by rw [p.1]; exact Sm.refl _) ?_ ?_⟩
    · rintro i x σ H' hx ⟨rfl, x2, rfl⟩
      obtain ⟨y, hy, rfl⟩ := List.getElem?_map_some hx
      obtain ⟨n, hn, rfl⟩ := List.getElem?_map_some hy
      have n60 := hb n (List.mem_of_getElem? hn)
      refine ⟨_, rfl, _, rfl, 1, n, rfl, rfl, ⟨by omega, by omega, by decide⟩, _, _, rfl, rfl, rfl, some (V.int n), ?_⟩
      have e : Builtin.bitOr ((bitsN (ns.take i) : Nat) : Int) (1 * 2 ^ (n : Int).toNat) = ((bitsN (ns.take (i + 1)) : Nat) : Int) := by
        have h2 : (1 : Int) * 2 ^ (n : Int).toNat = ((2 ^ n : Nat) : Int) := by
          rw [Int.toNat_natCast, Int.one_mul]
          simp
        rw [h2, Bits.bitOr_pp (Int.natCast_nonneg _) (Int.natCast_nonneg _), Int.toNat_natCast, Int.toNat_natCast, List.take_add_one, hn, ← bits_snoc]
        rfl
      show [some (V.ref a), some (V.int (Builtin.bitOr ((bitsN (ns.take i) : Nat) : Int) (1 * 2 ^ (n : Int).toNat))), some (V.int n)] = _
      rw [e]
    · rintro σ H' ⟨rfl, x2, rfl⟩
      rw [List.length_map, List.length_map, List.take_length]
      exact ⟨_, rfl, q⟩
abbrev s_nums : Stmt := topS 14
abbrev n_nums : List Str := ["bits", "number"]
theorem sc_nums : FnScope n_nums ["bits"] (defScope s_nums) := ⟨rfl, rfl, rfl, by decide +kernel, rfl, by decide +kernel, by decide +kernel⟩
def spNums : Sp := fun vs H Q _ => ∃ b : Nat, vs = [.int b] ∧ b < 2 ^ 60 ∧ ∀ t H', Sm H H' → H' t = some (.tup (((numsN b).map fun k : Nat => (k : Int)).map V.int)) → Q (.ref t) H'
theorem bl_le {b : Nat} (h : b < 2 ^ 60) : Builtin.Int.intBits (b : Int) ≤ 60 := by
  unfold Builtin.Int.intBits
  split
  · omega
  · rename_i h0
    rw [Int.natAbs_natCast]
    have : b ≠ 0 := fun z => by subst z; exact h0 rfl
    have := (Nat.log2_lt this).mpr h
    omega
theorem nums_len {b : Nat} (h : b < 2 ^ 60) : (numsN b).length ≤ 60 := by
  have := List.length_filter_le (fun k => b.testBit k) (List.range (Builtin.Int.intBits (b : Int)))
  rw [List.length_range] at this
  have := bl_le h
  unfold numsN
  omega
theorem bit_test (b i : Nat) : (Builtin.bitAnd ((b : Int) / 2 ^ i) 1 != 0) = b.testBit i := by
  have e : (b : Int) / 2 ^ i = ((b / 2 ^ i : Nat) : Int) := by simp
  rw [e, bitAnd_pp (Int.natCast_nonneg _) (by decide), Int.toNat_natCast, show (1 : Int).toNat = 1 from rfl, Nat.and_one_is_mod, Nat.testBit_eq_decide_div_mod_eq]
  have : b / 2 ^ i % 2 < 2 := Nat.mod_lt _ (by decide)
  rcases (show b / 2 ^ i % 2 = 0 ∨ b / 2 ^ i % 2 = 1 by omega) with h | h <;> rw [h] <;> rfl
theorem ok_nums {f : Addr} {fd : FuncData} {k : Nat} (F : Fun K "_numbers" "_numbers" s_nums f fd) (T : Bt mg) : FnOk P w K mg base CX0 (k + 1) f fd ["bits"] spNums := by
  refine F.ok sc_nums (fun vs H Q E h => ?_) (fun cdv A outer s H vs Q E hr h => ?_)
  · obtain ⟨b, rfl, _⟩ := h
    rfl
  · obtain ⟨b, rfl, hb, q⟩ := h
    refine ⟨_, (pss_one (ps_ret (pe_callTy call_tuple_of (by rfl) T.n_tuple (by decide +kernel) (pa_cons (pe_lc (own := [("number", 1)]) (by rfl) sc_nums.nd (pi_range1 rfl T.n_range (pa_cons (pe_bits (pv 0)) pa_nil)) (blkOk_by (N := n_nums) (sc := defScope s_nums) (own := [("number", 1)]) (by decide +kernel)) (fun _ _ _ _ _ => pg_name (i := 1) sc_nums.nd rfl (Or.inl rfl)) (fun _ _ _ _ _ => (pts_one (pt_truthK K (pe_op op_and (pe_op op_shr (pv 0) (pv 1)) pe_int) (by intro _; rfl)))) (fun _ _ _ _ _ => (pv 1))) pa_nil)))), ?_⟩
    have hl := bl_le hb
    refine ⟨_, rfl, b, rfl, _, rfl, by omega, by omega, fun D hD => ?_⟩
    refine lc_range (lo := 0) (n := Builtin.Int.intBits (b : Int)) (PvL H D (List.range (Builtin.Int.intBits (b : Int))) (fun k => b.testBit k) fun k => V.int (k : Int)) (PvL.start hD) ?_ ?_
    · intro i H' hi p
      have hi' : i < Builtin.Int.intBits (b : Int) := by simpa using hi
      have hx : (List.range (Builtin.Int.intBits (b : Int)))[i]? = some i := by simp [hi']
      refine ⟨rfl, _, rfl, _, rfl, b, _, rfl, rfl, (by show (0 : Int) ≤ 0 + (i : Int); omega), _, _, rfl, rfl, _, rfl, ?_⟩
      have e : (Builtin.bitAnd ((b : Int) / 2 ^ (0 + (i : Int)).toNat) 1 != 0) = b.testBit i := by
        rw [show (0 + (i : Int)).toNat = i by omega]
        exact bit_test b i
      rw [e]
      refine iteB (fun h => ⟨_, rfl, p.yes hD (Sm.refl _) hx h (by rw [Int.zero_add]) (by rw [List.length_range]; omega)⟩) fun h => p.no (Sm.refl _) hx h
    · intro H' p
      refine ⟨D, _, rfl, .inl ⟨.inl (.inl (p.fin (by simp))), fun l hl => q l _ (p.sm.trans (Sm.new hl)) ?_⟩⟩
      rw [upd_same, List.map_map]
      rfl
end
end Z
set_option Elab.async false
set_option linter.all false
set_option maxRecDepth 100000
set_option maxHeartbeats 4000000
set_option autoImplicit false
/-! An own error that is raised with one word. -/
namespace Z
open PySem PySem.Spec PyProof.Rows L2
def clsBody : Stmt → List Stmt
  | .ClassDef _ _ _ b _ _ _ _ _ _ _ => b
  | _ => []
def inC (s : Stmt) (i : Nat) : Stmt := (clsBody s).getD i (.Pass ⟨0, 0, 0, 0⟩)
/-- the error named x, made of one thing that it keeps as f -/
structure BadE (P : Program) (w : World) (K : PySem.W.Frag) (mg : Str → Option Value) (base : Heap) (x f : Str) (CI : Addr) : Prop where
  T : OexC K CI
  gC : mg x = some (.ref CI)
  ini : ∃ (fI : Addr) (fd : FuncData), PySem.W.findIn K (.ref CI) "__init__" = some (some (.ref fI)) ∧ PySem.W.typeIn K (.ref fI) = some (.type "function") ∧
    FnOk P w K mg base CX0 1 fI fd ["self", f] (spErrInit CI f) ∧ Binds K fd ["self", f] []
theorem bad_end {CI : Addr} {f : Str} {v : V} {H : Hp} {E : XK} (h : ∀ d H', Sm H H' → H' d = some (.xd [(f, v)]) → E (.ref CI) (some d) H') (a : Addr) (na : H a = none) :
    spErrInit CI f [.ref a, v] (upd H a (exo a CI none))
      (fun v H2 => v = .non ∧ ∃ (d : Addr) (fs : List (Str × V)), H2 a = some (exo a CI (some d)) ∧ H2 d = some (exd d fs) ∧ H d = none ∧ E (.ref CI) (some d) (upd (del H2 a) d (.xd fs))) (fun _ _ _ => False) := by
  refine ⟨a, v, rfl, upd_same, fun dx ndx ne => ⟨rfl, dx, [(f, v)], upd_same, by rw [upd_ne ne]; exact upd_same, ?_, ?_⟩⟩
  · rw [upd_ne ne] at ndx
    exact ndx
  · rw [upd_ne ne] at ndx
    refine h dx _ (fun b o hb => ?_) upd_same
    have n1 : b ≠ a := fun z => by
      rw [z, na] at hb
      cases hb
    have n2 : b ≠ dx := fun z => by
      rw [z, ndx] at hb
      cases hb
    rw [upd_ne n2, del_ne n1, upd_ne n1, upd_ne n2, upd_ne n1]
    exact hb
/-- all but one address is kept -/
def Kp (a : Addr) (H H' : Hp) : Prop := ∀ b o, b ≠ a → H b = some o → H' b = some o
theorem Kp.sm {a : Addr} {H H1 H2 : Hp} (h : Kp a H H1) (e : Sm H1 H2) : Kp a H H2 := fun b o n x => e b o (h b o n x)
theorem Kp.of {a : Addr} {H H1 : Hp} (e : Sm H H1) : Kp a H H1 := fun b o _ x => e b o x
theorem Kp.put {a : Addr} {H H1 : Hp} {o : HO} (h : Kp a H H1) : Kp a H (upd H1 a o) := fun b u n x => by
  rw [upd_ne n]
  exact h b u n x
theorem Kp.new {a : Addr} {H H1 : Hp} (h : Kp a H H1) (n : H a = none) : Sm H H1 := fun b o x => h b o (fun z => by rw [z, n] at x; cases x) x
theorem chain_VE {bm : List Value} (h : PySem.HandSPX.refsVE bm = true) : PySem.ZX.Chain "ValueError" bm :=
  ⟨by rw [PySem.HandSPX.refsVE_contains _ _ h]; decide +kernel, by rw [PySem.HandSPX.refsVE_contains _ _ h]; decide +kernel, by rw [PySem.HandSPX.refsVE_contains _ _ h]; decide +kernel,
    by rw [PySem.HandSPX.refsVE_contains _ _ h]; decide +kernel, fun self => PySem.HandSPX.refsVE_pass self _ h⟩
end Z
set_option Elab.async false
set_option linter.all false
set_option maxRecDepth 100000
set_option maxHeartbeats 4000000
set_option autoImplicit false
/-! Lines: made. -/
namespace Z
open PySem PySem.Spec PyProof.Rows L2
open C8 (Cal pe_c Mak pe_mk Met pe_mt pe_mt0 pe_gc tCut pss_cut)
def goesI (n : Int) (g : Option PyData) : Option (List Int) := if isNoneA g = true then some (upto 0 n) else if fromB 0 n g = true then some (intsA g) else none
def edgesI (n : Int) (W : List Int) (e : Option PyData) : Sum Str (List Int × List Int) :=
  if isNoneA e = true then .inr (W, betwI n W)
  else if (fromB 1 n e && (intsA e).all fun k => decide (k ∈ betwI n W)) = true then .inr (W, (betwI n W).filter fun k => decide (k ∈ intsA e))
  else .inl "edges"
def goneI (n : Int) (gs : Option (List Int)) (e : Option PyData) : Sum Str (List Int × List Int) :=
  match gs with
  | none => .inl "goes"
  | some gs => edgesI n (walksI n gs) e
/-- what a line is made of: the first wrong word, or where it goes and its edges -/
def dueD (p g e : Option PyData) : Sum Str (List Int × List Int) :=
  match p with
  | some (.int n) => if 0 ≤ n then goneI n (goesI n g) e else .inl "people"
  | _ => .inl "people"
theorem due_at {n : Int} {g e : Option PyData} (hn : 0 ≤ n) : dueD (some (.int n)) g e = goneI n (goesI n g) e := by
  show (if 0 ≤ n then _ else _) = _
  rw [if_pos hn]
/-- few of them -/
def Few (d : Option PyData) : Prop := ∀ ds, itemsA d = some ds → ds.length ≤ 40
theorem due_num {p g e : Option PyData} (h : numA p = false) : dueD p g e = .inl "people" := by
  cases p with
  | none => rfl
  | some d =>
    cases d with
    | int n =>
      have : ¬ 0 ≤ n := of_decide_eq_false h
      show (if 0 ≤ n then _ else _) = _
      rw [if_neg this]
    | none => rfl
    | bool _ => rfl
    | str _ => rfl
    | list _ => rfl
    | tuple _ => rfl
    | dict _ => rfl
theorem num_int {p : Option PyData} (h : numA p = true) : ∃ n : Int, p = some (.int n) ∧ 0 ≤ n := by
  cases p with
  | none => cases h
  | some d =>
    cases d with
    | int n => exact ⟨n, rfl, of_decide_eq_true h⟩
    | none => cases h
    | bool _ => cases h
    | str _ => cases h
    | list _ => cases h
    | tuple _ => cases h
    | dict _ => cases h
theorem ints_len {d : Option PyData} (h : Few d) : (intsA d).length ≤ 40 := by
  unfold intsA
  cases e : itemsA d with
  | none => exact Nat.zero_le _
  | some ds =>
    have := List.length_filterMap_le toI ds
    have := h ds e
    show (ds.filterMap toI).length ≤ 40
    omega
theorem goes_in {n : Int} {g : Option PyData} {gs : List Int} {K : PySem.W.Frag} {C : Addr} {H : Hp} {v : V} (hv : AV K C H v g) (h : goesI n g = some gs) : ∀ k ∈ gs, 0 ≤ k ∧ k ≤ n := by
  unfold goesI at h
  split at h
  · cases h
    exact fun k hk => mem_upto.mp hk
  · split at h
    · rename_i hf
      cases h
      exact (from_seq hv hf).choose_spec.2.2.1
    · cases h
theorem inV_ints (k : Int) (l : List Int) : inV (V.int k) (l.map V.int) = decide (k ∈ l) := by
  unfold inV
  rw [List.any_map, Bool.eq_iff_iff, List.any_eq_true, decide_eq_true_iff]
  constructor
  · rintro ⟨x, hx, e⟩
    have e' : (x == k) = true := e
    rw [← eq_of_beq e']
    exact hx
  · intro h
    exact ⟨k, h, (beq_self_eq_true k : (k == k) = true)⟩
theorem flat_ints (l : List Int) : (l.map V.int).all flatV = true := by
  rw [List.all_map]
  exact List.all_eq_true.mpr fun _ _ => rfl
theorem SqA.put {K : PySem.W.Frag} {H : Hp} {a p C dx : Addr} {fs : List (Str × V)} {o : HO} {xs : List V} (h : SqA K H p xs) (ha : H a = some (.ins C dx fs)) : SqA K (upd H a o) p xs := by
  have ne : ∀ {u : HO}, H p = some u → (∀ C dx fs, u ≠ .ins C dx fs) → upd H a o p = some u := fun {u} e n => by
    rw [upd_ne (fun z => by
      rw [z, ha] at e
      cases e
      exact n _ _ _ rfl)]
    exact e
  rcases h with ((h | ⟨u, h⟩) | h) | ((h | ⟨u, h⟩) | h)
  · exact .inl (.inl (.inl (ne h (fun _ _ _ z => nomatch z))))
  · exact .inl (.inl (.inr ⟨u, ne h (fun _ _ _ z => nomatch z)⟩))
  · exact .inl (.inr h)
  · exact .inr (.inl (.inl (ne h (fun _ _ _ z => nomatch z))))
  · exact .inr (.inl (.inr ⟨u, ne h (fun _ _ _ z => nomatch z)⟩))
  · exact .inr (.inr h)
/-- the ints of l, ascending, each once -/
theorem srt_set {ns l : List Int} (h : ns.Pairwise (· < ·)) (m : ∀ k : Int, k ∈ ns ↔ decide (k ∈ l) = true) {r : List Int} (hr : r.Pairwise (· < ·)) (mr : ∀ k, k ∈ r ↔ k ∈ l) : ns = r :=
  srt_ext h hr fun k => by rw [m, decide_eq_true_iff, mr]
section
variable {P : Program} {w : World} {K : PySem.W.Frag} {mg : Str → Option Value} {base : Heap} {CI C : Addr}
abbrev s_ini : Stmt := inC (topS 10) 0
abbrev n_ini : List Str := ["self", "people", "goes", "edges", "inner", "edge"]
abbrev p_ini : List Str := ["self", "people", "goes", "edges"]
theorem sc_ini : FnScope n_ini p_ini (defScope s_ini) := ⟨rfl, rfl, rfl, by decide +kernel, rfl, by decide +kernel, by decide +kernel⟩
def spIni (K : PySem.W.Frag) (CI C : Addr) : Sp := fun vs H Q E => ∃ (a dx : Addr) (vp vg ve : V) (p g e : Option PyData), vs = [.ref a, vp, vg, ve] ∧ H a = some (.ins C dx []) ∧
  AV K C H vp p ∧ AV K C H vg g ∧ AV K C H ve e ∧ (∀ n, p = some (.int n) → n ≤ 40) ∧ Few g ∧ Few e ∧
  (∀ wd, dueD p g e = .inl wd → ∀ d H', Sm H H' → H' d = some (.xd [("word", .str wd)]) → E (.ref CI) (some d) H') ∧
  (∀ ws bs, dueD p g e = .inr (ws, bs) → ∀ H' tg te, Kp a H H' → H' tg = some (.tup (ws.map V.int)) → H' te = some (.tup (bs.map V.int)) →
    H' a = some (.ins C dx [("people", vp), ("goes", .ref tg), ("edges", .ref te)]) → Q .non H')
theorem none_V {K : PySem.W.Frag} {C : Addr} {H : Hp} {v : V} {d : Option PyData} (h : AV K C H v d) : decide (v = .non) = isNoneA d := by
  cases h with
  | obj h => rfl
  | dat h => cases h <;> rfl
theorem ok_ini {f : Addr} {fd : FuncData} (F : FunD K "__init__" "Line.__init__" (defArgs s_ini) (defBody s_ini) (defScope s_ini) [.non, .non] [] f fd) (T : Bt mg) (B : BadE P w K mg base "InvalidLine" "word" CI) (L : LnC K C)
    (Cn : Cal P w K mg base 2 "is_number" (spAskA K C numA) []) (Cf : Cal P w K mg base 2 "_are_from" (spFrom K C) []) (Cb : Cal P w K mg base 1 "_bits" (spBits K) []) (Ce : Cal P w K mg base 1 "_edges_between" spEb [])
    (Cs : Cal P w K mg base 1 "_numbers" spNums []) : FnOk P w K mg base (L2.CX P w) 3 f fd p_ini (spIni K CI C) := by
  obtain ⟨fI, fdI, i1, i2, FI, bI⟩ := B.ini
  refine F.ok (CX := L2.CX P w) sc_ini (fun vs H Q E h => ?_) (fun cdv A outer s H vs Q E hr h => ?_)
  · obtain ⟨a, dx, vp, vg, ve, p, g, e, rfl, _⟩ := h
    rfl
  · obtain ⟨a, dx, vp, vg, ve, p, g, e, rfl, ha, hp, hg, he, n40, fg, fe, qE, qN⟩ := h
    have hr2 : Room 2 _ := hr
    refine ⟨_, (pss_cons (ps_if (pt_not (pt_val (pe_c Cn hr (by decide) (by rfl) (pa_cons (pv 1) pa_nil))))
        (pss_one (ps_raise rfl (takes_of rfl rfl rfl rfl) (pmk_oex B.T i1 i2 FI hr2 bI .nil pass0 (by rfl) B.gC (pa_cons pe_str pa_nil))))
        pss_nil)
      (pss_cut (ps_if (pt_cmpR op_isN (pv 2) pe_non (nomark _))
        (pss_one (ps_set (i := 2) sc_ini.nd rfl (Or.inl rfl) (pe_listRg rfl (by rfl) T.n_list (prg_1 (by rfl) T.n_range (pe_op op_add (pv 1) pe_int)))))
        (pss_one (ps_if (pt_not (pt_val (pe_c Cf hr (by decide) (by rfl) (pa_cons (pv 2) (pa_cons pe_int (pa_cons (pv 1) pa_nil))))))
          (pss_one (ps_raise rfl (takes_of rfl rfl rfl rfl) (pmk_oex B.T i1 i2 FI hr2 bI .nil pass0 (by rfl) B.gC (pa_cons pe_str pa_nil))))
          pss_nil)))
      (pss_cons (ps_set (i := 4) sc_ini.nd rfl (Or.inr rfl) (pe_c Cs hr (by decide) (by rfl) (pa_cons (pe_c Ce hr (by decide) (by rfl) (pa_cons (pe_c Cb hr (by decide) (by rfl) (pa_cons (pv 2) pa_nil)) pa_nil)) pa_nil)))
      (pss_cut (ps_if (pt_cmpR op_isN (pv 3) pe_non (nomark _))
        (pss_one (ps_set (i := 3) sc_ini.nd rfl (Or.inl rfl) (pv 4)))
        (pss_one (ps_if ((pw_or (pt_not (pt_val (pe_c Cf hr (by decide) (by rfl) (pa_cons (pv 3) (pa_cons pe_int (pa_cons (pv 1) pa_nil)))))) (pw_or1 (pt_not (pt_val (pe_callB (cr_all rfl) (by rfl) T.n_all (by decide +kernel) (pa_cons (pe_lc (own := [("edge", 5)]) (tt := tYes) (by rfl) sc_ini.nd (pi_sq (pv 3)) (blkOk_by (N := n_ini) (sc := defScope s_ini) (own := [("edge", 5)]) (by decide +kernel)) (fun _ _ _ _ _ => pg_name (i := 5) sc_ini.nd rfl (Or.inl rfl)) (fun _ _ _ _ _ => pts_nil) (fun _ _ _ _ _ => (pe_cmpR (op_in_seqK K) (pv 5) (pv 4) rfl))) pa_nil))))))).pt
          (pss_one (ps_raise rfl (takes_of rfl rfl rfl rfl) (pmk_oex B.T i1 i2 FI hr2 bI .nil pass0 (by rfl) B.gC (pa_cons pe_str pa_nil))))
          pss_nil)))
      (pss_cons (ps_fld (pv 0) (pv 1) rfl)
      (pss_cons (ps_fld (pv 0) (pe_callTy call_tuple_of (by rfl) T.n_tuple (by decide +kernel) (pa_cons (pe_callB (cr_sortedSetW w rfl) (by rfl) T.n_sorted (by decide +kernel) (pa_cons (pe_callTy (call_setIW K w rfl) (by rfl) T.n_set (by decide +kernel) (pa_cons (pv 2) pa_nil)) pa_nil)) pa_nil)) rfl)
      (pss_one (ps_fld (pv 0) (pe_callTy call_tuple_of (by rfl) T.n_tuple (by decide +kernel) (pa_cons (pe_callB (cr_sortedSetW w rfl) (by rfl) T.n_sorted (by decide +kernel) (pa_cons (pe_callTy (call_setIW K w rfl) (by rfl) T.n_set (by decide +kernel) (pa_cons (pv 3) pa_nil)) pa_nil)) pa_nil)) rfl)))))))), ?_⟩
    refine ⟨_, rfl, vp, p, rfl, hp, fun H1 s1 => ⟨_, rfl, iteB (fun hb => ?_) (fun hb => ?_)⟩⟩
    · have e1 : dueD p g e = .inl "people" := due_num (by simpa using hb)
      exact ⟨(by show 1 ≤ 1000; decide), fun a' na => bad_end (fun d H' s' e' => qE _ e1 d H' (s1.trans s') e') a' na⟩
    obtain ⟨n, rfl, hn⟩ : ∃ n : Int, p = some (.int n) ∧ 0 ≤ n := num_int (by simpa using hb)
    have n40' := n40 n rfl
    obtain rfl : vp = .int n := by
      cases hp with
      | dat h => cases h; rfl
    -- where it goes
    refine ⟨fun σ H2 => Sm H H2 ∧ ∃ (l : Addr) (gs : List Int), σ = [some (.ref a), some (.int n), some (.ref l), some ve, none, none] ∧ SqA K H2 l (gs.map V.int) ∧ goesI n g = some gs ∧ gs.length ≤ 41, ?_, ?_⟩
    · refine ⟨_, rfl, rfl, _, rfl, iteB (fun hb => ?_) (fun hb => ?_)⟩
      · rw [none_V hg] at hb
        refine ⟨_, rfl, n, 1, rfl, rfl, _, rfl, RgOk.of_le (by decide) (by omega) (by decide) (by omega), fun l hl => ⟨s1.trans (Sm.new hl), l, upto 0 n, rfl, .inl (.inl (.inl ?_)), ?_, ?_⟩⟩
        · rw [upd_same, rgV_upto, show n + 1 - 1 = n by omega]
        · unfold goesI
          rw [if_pos hb]
        · rw [len_upto]
          omega
      · rw [none_V hg] at hb
        refine ⟨_, rfl, _, rfl, vg, g, 0, n, rfl, hg.sm s1, fun ds e => Nat.le_trans (fg ds e) (by decide), fun H2 s2 => ⟨_, rfl, iteB (fun hc => ?_) (fun hc => ?_)⟩⟩
        · have e1 : dueD (some (.int n)) g e = .inl "goes" := by
            rw [due_at hn]
            unfold goesI
            rw [if_neg (by rw [hb]; decide), if_neg (by simpa using hc)]
            rfl
          exact ⟨(by show 1 ≤ 1000; decide), fun a' na => bad_end (fun d H' s' e' => qE _ e1 d H' ((s1.trans s2).trans s') e') a' na⟩
        · have hf : fromB 0 n g = true := by simpa using hc
          obtain ⟨l, rfl, hS, _⟩ := from_seq (hg.sm (s1.trans s2)) hf
          refine ⟨s1.trans s2, l, intsA g, rfl, hS, ?_, Nat.le_trans (ints_len fg) (by decide)⟩
          unfold goesI
          rw [if_neg (by rw [hb]; decide), if_pos hf]
    · rintro σ H2 ⟨s2, l, gs, rfl, hl, hgs, lgs⟩
      have gin := goes_in hg hgs
      -- as naturals
      obtain ⟨ks, rfl⟩ : ∃ ks : List Nat, gs = ks.map fun k : Nat => (k : Int) := ⟨gs.map Int.toNat, by
        rw [List.map_map]
        refine (List.map_id gs).symm.trans (List.map_congr_left fun x hx => ?_)
        have := (gin x hx).1
        show x = ((x.toNat : Nat) : Int)
        omega⟩
      obtain ⟨m, rfl⟩ := Int.eq_ofNat_of_zero_le hn
      have kin : ∀ k ∈ ks, k ≤ m := fun k hk => by
        have := (gin k (List.mem_map.mpr ⟨k, hk, rfl⟩)).2
        omega
      have blt : bitsN ks < 2 ^ 41 := bits_lt fun k hk => by have := kin k hk; omega
      have elt : bitsN ks &&& (bitsN ks * 2) < 2 ^ 41 := Nat.lt_of_le_of_lt Nat.and_le_left blt
      have wmem : ∀ k : Int, k ∈ walksI m (ks.map fun k : Nat => (k : Int)) ↔ k ∈ ks.map fun k : Nat => (k : Int) := fun k => mem_walks gin
      have win : ∀ k ∈ walksI m (ks.map fun k : Nat => (k : Int)), 0 ≤ k ∧ k ≤ (m : Int) := fun k hk => gin k ((wmem k).mp hk)
      have ebw : betwI m (ks.map fun k : Nat => (k : Int)) = betwI m (walksI m (ks.map fun k : Nat => (k : Int))) :=
        srt_ext (srt_betw _ _) (srt_betw _ _) fun k => by rw [mem_betw gin, mem_betw win, wmem, wmem]
      refine ⟨_, rfl, l, ks, rfl, hl, fun k hk => (by have := kin k hk; omega), bitsN ks, rfl, by omega, _, rfl, by omega, fun t H3 s3 et => ?_⟩
      rw [nums_betw kin, ebw] at et
      have bl := betw_len m (walksI m (ks.map fun k : Nat => (k : Int)))
      have bmem : ∀ k, k ∈ betwI m (walksI m (ks.map fun k : Nat => (k : Int))) → 1 ≤ k ∧ k ≤ (m : Int) := fun k hk => by
        obtain ⟨h1, h2⟩ := (mem_betw win).mp hk
        have := win _ h1
        have := win _ h2
        omega
      have bsrt := srt_betw m (walksI m (ks.map fun k : Nat => (k : Int)))
      have wsrt := srt_walks m (ks.map fun k : Nat => (k : Int))
      have dn : dueD (some (.int m)) g e = edgesI m (walksI m (ks.map fun k : Nat => (k : Int))) e := by
        rw [due_at (by omega), hgs]
        rfl
      generalize hW : walksI m (ks.map fun k : Nat => (k : Int)) = W at *
      generalize hB : betwI m W = Bw at *
      -- the edges
      refine ⟨fun σ H4 => Sm H H4 ∧ ∃ (l2 : Addr) (es rs : List Int) (x5 : Option V), σ = [some (.ref a), some (.int m), some (.ref l), some (.ref l2), some (.ref t), x5] ∧ SqA K H4 l ((ks.map fun k : Nat => (k : Int)).map V.int) ∧ SqA K H4 l2 (es.map V.int) ∧ es.length ≤ 41 ∧
        (∀ k, k ∈ rs ↔ k ∈ es) ∧ rs.Pairwise (· < ·) ∧ dueD (some (.int m)) g e = .inr (W, rs), ?_, ?_⟩
      · refine ⟨_, rfl, rfl, _, rfl, iteB (fun hb => ?_) (fun hb => ?_)⟩
        · rw [none_V he] at hb
          refine ⟨_, rfl, s2.trans s3, t, Bw, Bw, none, rfl, hl.sm s3, .inr (.inl (.inl et)), by omega, fun k => Iff.rfl, bsrt, ?_⟩
          rw [dn]
          unfold edgesI
          rw [if_pos hb, hB]
        · rw [none_V he] at hb
          refine ⟨_, rfl, _, rfl, ve, e, 1, m, rfl, he.sm (s2.trans s3), fun ds q => Nat.le_trans (fe ds q) (by decide), fun H4 s4 => ⟨_, rfl, iteB (fun hc => ?_) (fun hc => ?_)⟩⟩
          · have e1 : dueD (some (.int m)) g e = .inl "edges" := by
              have hf : fromB 1 m e = false := by simpa using hc
              rw [dn]
              unfold edgesI
              rw [if_neg (by rw [hb]; decide), hf, Bool.false_and, if_neg (by decide)]
            exact ⟨(by show 1 ≤ 1000; decide), fun a' na => bad_end (fun d H' s' e' => qE _ e1 d H' (((s2.trans s3).trans s4).trans s') e') a' na⟩
          · have hf : fromB 1 m e = true := by simpa using hc
            have s24 := (s2.trans s3).trans s4
            obtain ⟨l2, rfl, hS, _⟩ := from_seq (he.sm s24) hf
            have il := ints_len fe
            refine ⟨_, rfl, l2, _, rfl, hS, fun it hit D hD => lc_sq hit (PvL H4 D (intsA e) (fun _ => true) fun k => V.bl (decide (k ∈ Bw))) (PvL.start hD) (fun i H p => p.sm) ?_ ?_⟩
            · intro i x H5 hx p
              obtain ⟨k, hk, rfl⟩ := List.getElem?_map_some hx
              refine ⟨rfl, _, rfl, _, rfl, t, _, rfl, .inr (.inl (.inl (p.sm _ _ (s4 _ _ et)))), rfl, flat_ints _, p.yes hD (Sm.refl _) hk rfl ?_ (by omega)⟩
              show V.bl (decide (k ∈ Bw)) = V.bl (inV (V.int k) (Bw.map V.int))
              rw [inV_ints]
            · intro H5 p
              refine ⟨D, (intsA e).map fun k => decide (k ∈ Bw), rfl, .inl (.inl ?_), _, rfl, ?_⟩
              · rw [p.fin (by rw [List.length_map]), List.filter_eq_self.mpr (fun _ _ => rfl), List.map_map]
                rfl
              have s5 := s24.trans p.sm
              have ea : (List.map (fun k => decide (k ∈ Bw)) (intsA e)).all id = (intsA e).all fun k => decide (k ∈ Bw) := by
                rw [List.all_map]
                rfl
              rw [ea]
              refine iteB (fun hd => ?_) (fun hd => ?_)
              · have e1 : dueD (some (.int m)) g e = .inl "edges" := by
                  rw [dn]
                  unfold edgesI
                  rw [if_neg (by rw [hb]; decide), hf, Bool.true_and, hB, if_neg (by simpa using hd)]
                exact ⟨(by show 1 ≤ 1000; decide), fun a' na => bad_end (fun d H' s' e' => qE _ e1 d H' (s5.trans s') e') a' na⟩
              · have ha' : ((intsA e).all fun k => decide (k ∈ Bw)) = true := by simpa using hd
                have mem : ∀ k ∈ intsA e, k ∈ Bw := fun k hk => of_decide_eq_true (List.all_eq_true.mp ha' k hk)
                refine ⟨s5, l2, intsA e, Bw.filter fun k => decide (k ∈ intsA e), none, rfl, hl.sm ((s3.trans s4).trans p.sm), hS.sm p.sm, by omega, fun k => ?_, List.Pairwise.filter _ bsrt, ?_⟩
                · rw [List.mem_filter, decide_eq_true_iff]
                  exact ⟨fun z => z.2, fun z => ⟨mem k z, z⟩⟩
                · rw [dn]
                  unfold edgesI
                  rw [if_neg (by rw [hb]; decide), hf, Bool.true_and, hB, if_pos ha']
      · rintro σ H4 ⟨s4, l2, es, rs, x5, rfl, hl4, he4, les, rmem, rsrt, hdue⟩
        have ha4 := s4 _ _ ha
        refine ⟨_, rfl, _, rfl, a, C, dx, [], rfl, ha4, L.i.c, L.n1, (by show 0 < 1000; decide), ?_⟩
        have hl5 := hl4.put (o := .ins C dx (putF "people" (.int m) [])) ha4
        have he5 := he4.put (o := .ins C dx (putF "people" (.int m) [])) ha4
        have kp5 : Kp a H (upd H4 a (.ins C dx (putF "people" (.int m) []))) := (Kp.of s4).put
        have ha5 : upd H4 a (.ins C dx (putF "people" (.int m) [])) a = some (.ins C dx (putF "people" (.int m) [])) := upd_same
        generalize upd H4 a (.ins C dx (putF "people" (.int m) [])) = H5 at hl5 he5 kp5 ha5 ⊢
        refine ⟨_, rfl, l, _, rfl, hl5, by omega, fun S1 n1 hS1 hn1 => ⟨S1, _, n1, rfl, upd_same, by omega, fun ns q1 srt mem len hq1 => ?_⟩⟩
        have eW : ns = W := srt_set srt mem wsrt wmem
        subst eW
        have s6 : Sm H5 (upd H5 S1 (SetO w S1 (fun j => decide (j ∈ ks.map fun k : Nat => (k : Int))) n1)) := Sm.new hS1
        have s7 := s6.trans (Sm.new (o := .lst (ns.map V.int)) hq1)
        refine ⟨q1, _, rfl, .inl ⟨.inl (.inl upd_same), fun t1 ht1 => ?_⟩⟩
        have s8 := s7.trans (Sm.new (o := .tup (ns.map V.int)) ht1)
        refine ⟨_, rfl, a, C, dx, _, rfl, s8 _ _ ha5, L.i.c, L.n2, (by show 1 < 1000; decide), ?_⟩
        have ha8 := s8 _ _ ha5
        have he8 := he5.sm s8
        have kp8 := kp5.sm s8
        have et8 : (upd (upd (upd H5 S1 (SetO w S1 (fun j => decide (j ∈ ks.map fun k : Nat => (k : Int))) n1)) q1 (.lst (ns.map V.int))) t1 (.tup (ns.map V.int))) t1 = some (.tup (ns.map V.int)) := upd_same
        generalize (upd (upd (upd H5 S1 (SetO w S1 (fun j => decide (j ∈ ks.map fun k : Nat => (k : Int))) n1)) q1 (.lst (ns.map V.int))) t1 (.tup (ns.map V.int))) = H8 at ha8 he8 kp8 et8 ⊢
        have he9 := he8.put (o := .ins C dx (putF "goes" (.ref t1) (putF "people" (.int m) []))) ha8
        have kp9 : Kp a H (upd H8 a (.ins C dx (putF "goes" (.ref t1) (putF "people" (.int m) [])))) := kp8.put
        have ha9 : upd H8 a (.ins C dx (putF "goes" (.ref t1) (putF "people" (.int m) []))) a = some (.ins C dx (putF "goes" (.ref t1) (putF "people" (.int m) []))) := upd_same
        have et9 : upd H8 a (.ins C dx (putF "goes" (.ref t1) (putF "people" (.int m) []))) t1 = some (.tup (ns.map V.int)) := by
          rw [upd_ne (fun z => by rw [z, ha8] at et8; cases et8)]
          exact et8
        generalize upd H8 a (.ins C dx (putF "goes" (.ref t1) (putF "people" (.int m) []))) = H9 at he9 kp9 ha9 et9 ⊢
        refine ⟨_, rfl, l2, _, rfl, he9, by omega, fun S2 n2 hS2 hn2 => ⟨S2, _, n2, rfl, upd_same, by omega, fun ns2 q2 srt2 mem2 len2 hq2 => ?_⟩⟩
        have eR : ns2 = rs := srt_set srt2 mem2 rsrt rmem
        subst eR
        have s10 : Sm H9 (upd H9 S2 (SetO w S2 (fun j => decide (j ∈ es)) n2)) := Sm.new hS2
        have s11 := s10.trans (Sm.new (o := .lst (ns2.map V.int)) hq2)
        refine ⟨q2, _, rfl, .inl ⟨.inl (.inl upd_same), fun t2 ht2 => ?_⟩⟩
        have s12 := s11.trans (Sm.new (o := .tup (ns2.map V.int)) ht2)
        have ha12 := s12 _ _ ha9
        have et12 := s12 _ _ et9
        refine ⟨_, rfl, a, C, dx, _, rfl, ha12, L.i.c, L.n3, (by show 2 < 1000; decide), ?_⟩
        refine qN _ _ hdue _ t1 t2 ((kp9.sm s12).put) ?_ ?_ upd_same
        · rw [upd_ne (fun z => by rw [z, ha12] at et12; cases et12)]
          exact et12
        · rw [upd_ne (fun z => by
            rw [z] at ht2
            rw [s11 _ _ ha9] at ht2
            cases ht2)]
          exact upd_same
end
end Z
set_option Elab.async false
set_option linter.all false
set_option maxRecDepth 100000
set_option maxHeartbeats 4000000
set_option autoImplicit false
/-! Lines: == . -/
namespace Z
open PySem PySem.Spec PyProof.Rows L2
open C8 (Cal pe_c Mak pe_mk Met pe_mt pe_mt0 pe_gc tCut pss_cut)
theorem eqvAll_ints : ∀ l m : List Int, PyData.eqvAll (l.map PyData.int) (m.map PyData.int) = decide (l = m)
  | [], [] => rfl
  | [], _ :: _ => rfl
  | _ :: _, [] => rfl
  | x :: l, y :: m => by
    show (PyData.eqv (.int x) (.int y) && PyData.eqvAll (l.map PyData.int) (m.map PyData.int)) = _
    rw [eqvAll_ints l m]
    show ((x == y) && decide (l = m)) = _
    rw [Bool.eq_iff_iff]
    simp
theorem eqv_tups (l m : List Int) : PyData.eqv (.tuple (l.map PyData.int)) (.tuple (m.map PyData.int)) = decide (l = m) := by
  rw [PyData.eqv]
  exact eqvAll_ints l m
theorem shaped_tup (l : List Int) : SeqAt.shaped (.tuple (l.map PyData.int)) = true := by
  have h1 : ∀ l : List Int, PyData.canLayAll0 (l.map PyData.int) = true := fun l => by
    induction l with
    | nil => simp [PyData.canLayAll0]
    | cons x l ih => simp [PyData.canLayAll0, PyData.canLay0, ih]
  have h2 : ∀ l : List Int, PyData.depthAll (l.map PyData.int) ≤ 1 := fun l => by
    induction l with
    | nil => simp [PyData.depthAll]
    | cons x l ih => simp [PyData.depthAll, PyData.depth] <;> omega
  unfold SeqAt.shaped
  rw [Bool.and_eq_true]
  refine ⟨by simp [PyData.canLay0, h1], decide_eq_true ?_⟩
  have := h2 l
  simp only [PyData.depth]
  omega
/-- a line at a: how many people, where it goes, its edges -/
structure LineAt (H : Hp) (C a : Addr) (L : Int × List Int × List Int) : Prop where
  ex : ∃ dx tg te, H a = some (.ins C dx [("people", .int L.1), ("goes", .ref tg), ("edges", .ref te)]) ∧ H tg = some (.tup (L.2.1.map V.int)) ∧ H te = some (.tup (L.2.2.map V.int))
theorem LineAt.sm {H H' : Hp} {C a : Addr} {L : Int × List Int × List Int} (h : LineAt H C a L) (e : Sm H H') : LineAt H' C a L :=
  let ⟨dx, tg, te, h1, h2, h3⟩ := h.ex
  ⟨dx, tg, te, e _ _ h1, e _ _ h2, e _ _ h3⟩
/-- what stands beside a line in a comparison -/
def Beside (K : PySem.W.Frag) (H : Hp) (C : Addr) (L : Int × List Int × List Int) (y : V) (r : Bool) : Prop :=
  (∃ b M, y = .ref b ∧ LineAt H C b M ∧ r = decide (L = M)) ∨ (r = false ∧ ((y = .non) ∨ ∃ t xs, y = .ref t ∧ SqT K H t xs))
def spEqL (K : PySem.W.Frag) (C : Addr) : Sp := fun vs H Q _ => ∃ (a : Addr) (L : Int × List Int × List Int) (y : V) (r : Bool), vs = [.ref a, y] ∧ LineAt H C a L ∧ Beside K H C L y r ∧ Q (.bl r) H
/-- isinstance(x, Line) of a tuple and of None; and whose == is asked first -/
structure EqK (K : PySem.W.Frag) (C : Addr) : Prop where
  t : PySem.W.kitOne K (.type "tuple") (.ref C) = some false
  n : PySem.W.kitOne K (.type "NoneType") (.ref C) = some false
  ft : PySem.W.notFirst K C (.type "tuple") = true
  fn : PySem.W.notFirst K C (.type "NoneType") = true
theorem self_first {K : PySem.W.Frag} {C : Addr} : PySem.W.notFirst K C (.ref C) = true := by
  unfold PySem.W.notFirst
  simp
theorem kit_self {K : PySem.W.Frag} {C : Addr} : PySem.W.kitOne K (.ref C) (.ref C) = some true := by
  unfold PySem.W.kitOne
  rw [if_pos (by simp)]
theorem dec3 (L M : Int × List Int × List Int) : decide (L = M) = (decide (L.1 = M.1) && (decide (L.2.1 = M.2.1) && decide (L.2.2 = M.2.2))) := by
  obtain ⟨a, b, c⟩ := L
  obtain ⟨x, y, z⟩ := M
  rw [Bool.eq_iff_iff]
  simp
section
variable {P : Program} {w : World} {K : PySem.W.Frag} {mg : Str → Option Value} {base : Heap} {CI C : Addr}
abbrev s_eq : Stmt := inC (topS 10) 4
theorem sc_eq : FnScope ["self", "other"] ["self", "other"] (defScope s_eq) := ⟨rfl, rfl, rfl, by decide +kernel, rfl, by decide +kernel, by decide +kernel⟩
theorem ok_eq {f : Addr} {fd : FuncData} {k : Nat} (F : Fun K "__eq__" "Line.__eq__" s_eq f fd) (T : Bt mg) (L : LnC K C) (gL : mg "Line" = some (.ref C)) (EK : EqK K C) :
    FnOk P w K mg base CX0 (k + 1) f fd ["self", "other"] (spEqL K C) := by
  refine F.ok sc_eq (fun vs H Q E h => ?_) (fun cdv A outer s H vs Q E hr h => ?_)
  · obtain ⟨a, M, y, r, rfl, _⟩ := h
    rfl
  · obtain ⟨a, M, y, r, rfl, hL, hB, q⟩ := h
    have hu64 : A.units + 3 + 64 < cLine := by have := hr.un; show A.units + 3 + 64 < _; have e : (A.deeper (envOfC "Line.__eq__" (defScope s_eq) s.heap.objs.size f cdv)).units = A.units + 3 := rfl; omega
    refine ⟨_, (pss_cons (ps_if (pt_not (pt_val (pe_callB call_isi (by rfl) T.n_isinstance (by decide +kernel) (pa_cons (pv 1) (pa_cons (pe_glob (v := .ref C) (by rfl) gL rfl) pa_nil)))))
        (pss_one (ps_ret pe_bl))
        pss_nil)
      (pss_one (ps_ret (pe_and (pe_cmpR op_eq (pe_fld (pv 0) rfl) (pe_fld (pv 1) rfl) (nomark _)) (pe_and (pe_cmpR (op_eqD hu64) (pe_fld (pv 0) rfl) (pe_fld (pv 1) rfl) (nomark _)) (pe_one (pe_cmpR (op_eqD hu64) (pe_fld (pv 0) rfl) (pe_fld (pv 1) rfl) (nomark _)))))))), ?_⟩
    rcases hB with ⟨b, M', rfl, hM, rfl⟩ | ⟨rfl, h⟩
    · obtain ⟨dx, tg, te, e1, e2, e3⟩ := hL.ex
      obtain ⟨dy, ug, ue, f1, f2, f3⟩ := hM.ex
      refine ⟨_, rfl, .ref b, .ref C, .ref C, .ref C, true, rfl, .own C, L.i.ty f1, kit_self, _, rfl, ite0 rfl ?_⟩
      rw [dec3] at q
      refine ⟨_, rfl, a, C, dx, _, _, rfl, e1, L.i.c, L.n1, rfl, _, rfl, b, C, dy, _, _, rfl, f1, L.i.c, L.n1, rfl, rfl, _, rfl, ?_⟩
      have h1 : decide (V.int M.1 = V.int M'.1) = decide (M.1 = M'.1) := by
        rw [Bool.eq_iff_iff]
        simp
      rw [h1]
      refine iteB (fun hb => ?_) (fun hb => ?_)
      · rw [hb, Bool.true_and] at q
        refine ⟨_, rfl, a, C, dx, _, _, rfl, e1, L.i.c, L.n2, rfl, _, rfl, b, C, dy, _, _, rfl, f1, L.i.c, L.n2, rfl, _, _, .tup (.inl (.inl e2)) (dpAll_ints _), .tup (.inl (.inl f2)) (dpAll_ints _), shaped_tup _, shaped_tup _, ?_⟩
        rw [eqv_tups]
        refine ⟨_, rfl, iteB (fun hc => ?_) (fun hc => ?_)⟩
        · rw [hc, Bool.true_and] at q
          refine ⟨_, rfl, a, C, dx, _, _, rfl, e1, L.i.c, L.n3, rfl, _, rfl, b, C, dy, _, _, rfl, f1, L.i.c, L.n3, rfl, _, _, .tup (.inl (.inl e3)) (dpAll_ints _), .tup (.inl (.inl f3)) (dpAll_ints _), shaped_tup _, shaped_tup _, ?_⟩
          rw [eqv_tups]
          exact q
        · rw [hc, Bool.false_and] at q
          exact q
      · rw [hb, Bool.false_and] at q
        exact q
    · rcases h with rfl | ⟨t, xs, rfl, hS⟩
      · exact ⟨_, rfl, .non, .ref C, _, .ref C, false, rfl, .own C, .base .non, EK.n, _, rfl, ite1 rfl q⟩
      · exact ⟨_, rfl, .ref t, .ref C, _, .ref C, false, rfl, .own C, tyx_tup hS, EK.t, _, rfl, ite1 rfl q⟩
end
end Z
set_option Elab.async false
set_option linter.all false
set_option maxRecDepth 100000
set_option maxHeartbeats 4000000
set_option autoImplicit false
/-! In an except suite: isinstance of the held error, with its own dict; making an instance in a try; no error leaves. -/
namespace L2
open PySem PySem.Spec PyProof.Rows
def rIsX (K : PySem.W.Frag) (a : Addr) (cls : Value) (d : Option Addr) (D : Addr) : List V → Hp → VK → Prop := fun xs H Q => cls = .ref D ∧ ∃ (dd : Addr) (fs : List (Str × V)) (c : V) (cv : Value) (b : Bool),
  d = some dd ∧ H dd = some (.xd fs) ∧ xs = [.ref a, c] ∧ (∀ u, RelV c u → u = cv) ∧ PySem.W.kitOne K (.ref D) cv = some b ∧ Q (.bl b) H
theorem call_isX {X : Cx} {a D : Addr} {cls : Value} {d : Option Addr} {oe : Obj} {pn : List (Addr × Obj)} (C : ExcC X.K D) (hz : Zc cls d oe) (hf : ∃ vs, oe.data = .fields vs) :
    CallR (X.suite a ((a, oe) :: pn)) (.builtin "isinstance") (rIsX X.K a cls d D) := by
  intro pins s σ H xs us Q I r h
  obtain ⟨rfl, dd, fs, c, cv, b, rfl, ea, rfl, hcv, e, q⟩ := h
  obtain ⟨u1, u2, rfl, r1, r2⟩ := vals2 r
  obtain rfl : u1 = Value.ref a := r1
  obtain rfl := hcv _ r2
  obtain ⟨hget, _⟩ := I.pin (a, oe) (List.mem_append_left _ List.mem_cons_self)
  obtain ⟨vs, hd⟩ := hf
  obtain ⟨mA, hns, hr⟩ := (show ObjOk X.prog X.w H s.heap dd (.xd fs) from I.hok dd _ ea)
  obtain ⟨od, ho, hl⟩ := lookIn_ns hns
  obtain ⟨cd, hc, _⟩ := PySem.W.any_some C.hd
  have hcl : (PySem.W.clsIn X.K D).isSome = true := by rw [hc]; rfl
  have J : PySem.W.InstAt s.heap a oe D (some od) := ⟨hget, hz.1, by unfold PySem.W.notCls; rw [hd] <;> rfl, by rw [hz.2]; exact ho⟩
  exact PySem.W.kia_one (PySem.W.kitx_exc hcl C.hg C.hk C.hs C.ha C.hn C.ht C.hm) I.kIn J e (fun z => nomatch z) fun tk => ⟨.bl b, H, I.kept (t' := tk) fun _ _ z => z, rfl, q⟩
/-- C(e, ..), whose __init__ may let out an error, at the slots σ -/
def tMakeS (C : Addr) (sp : Sp) (dvs : List V) (E : L2.St → XK) (t : TA) : TE := fun σ H Q => t σ H fun vs H1 => ∀ x dx, H1 x = none → H1 dx = none → dx ≠ x →
  sp (.ref x :: (vs ++ dvs)) (upd (upd H1 dx (.own x)) x (.ins C dx [])) (fun v H2 => v = .non ∧ Q (.ref x) H2) (E σ)
section
variable {X : Cx} {CX : CXT} {k : Nat} {f C : Addr} {fd : FuncData} {ps : List Str} {sp : Sp} {dvs : List V} {ds : List Value} {E : L2.St → XK} {x : Str} {p pos : Pos} {e : Expr} {es : List Expr} {t : TA}
theorem pe_makeS (M : Mk X.K C f) (F : FnOk X.prog X.w X.K X.mg X.base CX k f fd ps sp) (hr : Room (k + 1) X.A) (hg : Gl X x) (hm : X.mg x = some (.ref C)) (hb : Binds X.K fd ps ds) (hd : Vals dvs ds) (hx : ∀ σ, PassesAt CX X σ (E σ))
    (ha : PA X (e :: es) t) (hdb : (x == ("__debug__" : Str)) = false := by decide) (he : starEach (e :: es) X.env = (false, eval e X.env) :: starEach es X.env := by rfl)
    (hpl : (backTo pos (starEach es X.env)).any (·.1) = false := by rfl) : PE X (.Call (.Name x p) (e :: es) [] pos) (tMakeS C sp dvs E t) := by
  refine ⟨fun pins s σ H Q I h => ?_⟩
  refine wpAny_Call_Name_kw (ld_glob I hg hm ?_ hdb)
  refine PySem.W.callWith_K (h₀ := X.base) I.ok.mod.kin M.kp (thn (ha.run pos pins s σ H _ I h) fun us s1 ⟨vs, H1, I1, r, q⟩ => ⟨I1.kIn, ?_⟩) he hpl
  have q' := q (s1.heap.objs.size + 1) s1.heap.objs.size (I1.hok.fresh (Nat.le_succ _)) (I1.hok.fresh (Nat.le_refl _)) (Nat.ne_of_lt (Nat.lt_succ_self _))
  have J := Inv.made (C := C) I1
  have rv : Vals (V.ref (s1.heap.objs.size + 1) :: (vs ++ dvs)) (Value.ref (s1.heap.objs.size + 1) :: (us ++ ds)) := .cons rfl (r.append hd)
  have len : (Value.ref (s1.heap.objs.size + 1) :: us ++ ds).length = ps.length := by
    rw [← F.len _ _ _ _ q']
    exact rv.length.symm
  have bnd := hb _ (Value.ref (s1.heap.objs.size + 1) :: us) J.kIn len
  have run := F.run (X.A.under (.builtin "type.__call__" ⟨.ref C :: us, []⟩)) X.stack _ _ ⟨Value.ref (s1.heap.objs.size + 1) :: us, []⟩ (Value.ref (s1.heap.objs.size + 1) :: us ++ ds) _ _ (E σ)
    (hr.make C us []) (J.env0.make C us []) bnd rv q'
  refine wpAny_call (make_map (f := f) I1.kIn M.makes M.init (beq_iff_eq.mp M.fn) (codeAny_mono run fun r s' hq => ?_))
  cases r with
  | error er => exact hx σ pins _ _ er s' J hq
  | ok fl =>
    cases fl with
    | ret u =>
      obtain ⟨v, H', I3, ru, ev, q3⟩ := J.after hq
      subst ev
      exact ⟨ru, ⟨V.ref (s1.heap.objs.size + 1), H', I3, rfl, q3⟩⟩
    | next => exact False.elim hq
    | brk => exact False.elim hq
    | cont => exact False.elim hq
end
theorem passF {X : Cx} : Passes (L2.CX X.prog X.w) X E0 := fun pins σ H s e s' I c => passAt takes0 σ pins H s e s' I c
end L2
set_option Elab.async false
set_option linter.all false
set_option maxRecDepth 100000
set_option maxHeartbeats 4000000
set_option autoImplicit false
/-! The law's own looks: is_good, due. -/
namespace Z
open PySem PySem.Spec PyProof.Rows L2
open C8 (Cal pe_c Mak pe_mk Met pe_mt pe_mt0 pe_gc tCut pss_cut)
/-- small things -/
structure FinA (d : Option PyData) : Prop where
  few : Few d
  lay : ∀ ds, itemsA d = some ds → ∀ x ∈ ds, x.canLay0 = true ∧ x.depth ≤ 3
  int : ∀ n, d = some (.int n) → n ≤ 40
theorem shaped_lay {ds : List PyData} (h : ∀ x ∈ ds, x.canLay0 = true ∧ x.depth ≤ 3) : SeqAt.shaped (.list ds) = true := by
  have h1 : ∀ ds : List PyData, (∀ x ∈ ds, x.canLay0 = true ∧ x.depth ≤ 3) → PyData.canLayAll0 ds = true ∧ PyData.depthAll ds ≤ 3 := fun ds => by
    induction ds with
    | nil => exact fun _ => ⟨by simp [PyData.canLayAll0], by simp [PyData.depthAll]⟩
    | cons x ds ih =>
      intro h
      obtain ⟨a, b⟩ := ih fun y hy => h y (by simp [hy])
      obtain ⟨c, d⟩ := h x (by simp)
      refine ⟨by simp [PyData.canLayAll0, a, c], ?_⟩
      show max x.depth (PyData.depthAll ds) ≤ 3
      omega
  obtain ⟨a, b⟩ := h1 ds h
  unfold SeqAt.shaped
  rw [Bool.and_eq_true]
  refine ⟨a, decide_eq_true ?_⟩
  show PyData.depthAll ds + 1 ≤ 64
  omega
/-- isinstance inside a comprehension -/
theorem call_isiK' {X : Cx} (K : PySem.W.Frag) (h : X.K = K := by rfl) : CallR X (.builtin "isinstance") (rIsi K) := by
  subst h
  exact call_isi
theorem eqv_nil {ds : List PyData} : PyData.eqv (.list ds) (.list []) = ds.isEmpty := by
  cases ds with
  | nil => simp [PyData.eqv, PyData.eqvAll]
  | cons x r => simp [PyData.eqv, PyData.eqvAll]
theorem filter_empty {α : Type} (p : α → Bool) : ∀ l : List α, (l.filter fun x => !p x).isEmpty = l.all p
  | [] => rfl
  | x :: l => by
    rw [List.all_cons, ← filter_empty p l, List.filter_cons]
    cases p x <;> rfl
theorem dpAll_filter {K : PySem.W.Frag} {H : Hp} {f : PyData → V} {p : PyData → Bool} : ∀ {vs : List V} {ds : List PyData}, DpAll K H vs ds → (∀ v d, Dp K H v d → d ∈ ds → f d = v) → DpAll K H ((ds.filter p).map f) (ds.filter p)
  | _, _, .nil, _ => .nil
  | _, _, .cons (v := v) (d := d) h t, hf => by
    rw [List.filter_cons]
    split
    · rw [List.map_cons, hf _ _ h (by simp)]
      exact .cons h (dpAll_filter t fun v d hv hd => hf v d hv (by simp [hd]))
    · exact dpAll_filter t fun v d hv hd => hf v d hv (by simp [hd])
section
variable {P : Program} {w : World} {K : PySem.W.Frag} {mg : Str → Option Value} {base : Heap} {CI C : Addr}
abbrev s_good : Stmt := topS 21
abbrev n_good : List Str := ["_law_value", "_law_low", "_law_high", "_law_k"]
abbrev p_good : List Str := ["_law_value", "_law_low", "_law_high"]
theorem sc_good : FnScope n_good p_good (defScope s_good) := ⟨rfl, rfl, rfl, by decide +kernel, rfl, by decide +kernel, by decide +kernel⟩
def spGood (K : PySem.W.Frag) (C : Addr) : Sp := fun vs H Q _ => ∃ (v : V) (d : Option PyData) (lo hi : Int), vs = [v, .int lo, .int hi] ∧ AV K C H v d ∧ FinA d ∧ ∀ H', Sm H H' → Q (.bl (fromB lo hi d)) H'
theorem ok_good {f : Addr} {fd : FuncData} {k : Nat} (F : Fun K "_law_is_good" "_law_is_good" s_good f fd) (T : Bt mg) (L : LnC K C) : FnOk P w K mg base CX0 (k + 1) f fd p_good (spGood K C) := by
  refine F.ok sc_good (fun vs H Q E h => ?_) (fun cdv A outer s H vs Q E hr h => ?_)
  · obtain ⟨v, d, lo, hi, rfl, _⟩ := h
    rfl
  · obtain ⟨v, d, lo, hi, rfl, hd, hF, q⟩ := h
    have hu64 : A.units + 3 + 64 < cLine := by have := hr.un; show A.units + 3 + 64 < _; have e : (A.deeper (envOfC "_law_is_good" (defScope s_good) s.heap.objs.size f cdv)).units = A.units + 3 := rfl; omega
    refine ⟨_, (pss_cons (ps_if (pt_not (pt_val (pe_callB call_isiT (by rfl) T.n_isinstance (by decide +kernel) (pa_cons (pv 0) (pa_cons (pe_tup (pa_cons (pe_bltn (v := .ty "list") (by rfl) T.n_list (by decide +kernel) rfl) (pa_cons (pe_bltn (v := .ty "tuple") (by rfl) T.n_tuple (by decide +kernel) rfl) pa_nil))) pa_nil)))))
        (pss_one (ps_ret pe_bl))
        pss_nil)
      (pss_one (ps_ret (pe_cmpR (op_eqD hu64) (pe_lc (own := [("_law_k", 3)]) (by rfl) sc_good.nd (pi_sq (pv 0)) (blkOk_by (N := n_good) (sc := defScope s_good) (own := [("_law_k", 3)]) (by decide +kernel)) (fun _ _ _ _ _ => pg_name (i := 3) sc_good.nd rfl (Or.inl rfl)) (fun _ _ _ _ _ => (pts_one ((pw_or (pt_val (pe_callB (call_isiK' K) (by rfl) T.n_isinstance (by decide +kernel) (pa_cons (pv 3) (pa_cons (pe_bltn (v := .ty "bool") (by rfl) T.n_bool (by decide +kernel) rfl) pa_nil)))) (pw_or (pt_not (pt_val (pe_callB (call_isiK' K) (by rfl) T.n_isinstance (by decide +kernel) (pa_cons (pv 3) (pa_cons (pe_bltn (v := .ty "int") (by rfl) T.n_int (by decide +kernel) rfl) pa_nil))))) (pw_or1 (pt_not (pt_chain op_le op_le (pv 1) (pv 3) (pv 2))))))).pt)) (fun _ _ _ _ _ => (pv 3))) (pe_lst pa_nil) (nomark _))))), ?_⟩
    refine ⟨_, rfl, (show 2 ≤ sizeLine by decide), fun p hp => ⟨v, p, _, _, _, _, rfl, upd_same, .cons (.ty _) (.cons (.ty _) .nil), (hd.sm (Sm.new hp)).ty L.i, hd.kseq L.k, _, rfl, ?_⟩⟩
    have s1 : Sm H (upd H p (.tup [V.ty "list", .ty "tuple"])) := Sm.new hp
    refine iteB (fun hb => ?_) (fun hb => ?_)
    · have z := q _ s1
      have e : itemsA d = none := by simpa using hb
      unfold fromB at z
      rw [e] at z
      exact z
    · obtain ⟨ds, e⟩ : ∃ ds, itemsA d = some ds := Option.isSome_iff_exists.mp (by simpa using hb)
      have hd1 := hd.sm s1
      generalize upd H p (.tup [V.ty "list", .ty "tuple"]) = H1 at s1 hd1 ⊢
      obtain ⟨a, xs, rfl, ha, hs⟩ := hd1.items e
      have hl := hF.few ds e
      have lx := dpAll_len ha
      refine ⟨_, rfl, a, xs, rfl, hs, fun it hit D hD => ?_⟩
      -- what is made so far: those that are no good, item by item
      refine lc_sq hit (fun i H2 => Sm H1 H2 ∧ ∃ (ys : List V), H2 D = some (.lst ys) ∧ ys.length ≤ i ∧ DpAll K H1 ys ((ds.take i).filter fun d => !okI lo hi d)) ⟨Sm.new hD, [], upd_same, Nat.le_refl _, .nil⟩ (fun i H p => p.1) ?_ ?_
      · rintro i x H2 hx ⟨s2, ys, e2, ly, hy⟩
        obtain ⟨y, hiy, hdy⟩ := dpAll_ix ha hx
        have il : i < xs.length := (List.getElem?_eq_some_iff.mp hx).1
        have tk : ds.take (i + 1) = ds.take i ++ [y] := by
          rw [List.take_add_one, hiy]
          rfl
        have yes : okI lo hi y = false → ∃ acc, H2 D = some (.lst acc) ∧ acc.length < sizeLine ∧ (Sm H1 (upd H2 D (.lst (acc ++ [x]))) ∧ ∃ ys, upd H2 D (.lst (acc ++ [x])) D = some (.lst ys) ∧ ys.length ≤ i + 1 ∧ DpAll K H1 ys ((ds.take (i + 1)).filter fun d => !okI lo hi d)) := fun hk =>
          ⟨ys, e2, small1000 (by omega), sm_put s2 hD, ys ++ [x], upd_same, by rw [List.length_append, List.length_singleton]; omega, by
            rw [tk, List.filter_append]
            have : [y].filter (fun d => !okI lo hi d) = [y] := by simp [hk]
            rw [this]
            exact dpAll_append hy (.cons hdy .nil)⟩
        have no : okI lo hi y = true → (Sm H1 H2 ∧ ∃ ys, H2 D = some (.lst ys) ∧ ys.length ≤ i + 1 ∧ DpAll K H1 ys ((ds.take (i + 1)).filter fun d => !okI lo hi d)) := fun hk =>
          ⟨s2, ys, e2, by omega, by
            rw [tk, List.filter_append]
            have : [y].filter (fun d => !okI lo hi d) = [] := by simp [hk]
            rw [this, List.append_nil]
            exact hy⟩
        have hdy2 := dp_mono s2 hdy
        refine ⟨rfl, _, rfl, x, _, _, _, _, rfl, .ty "bool", dp_ty hdy2, kit_bool hdy2, _, rfl, ?_⟩
        have tail : isBlD y = false → ∀ c : Bool, True := fun _ _ => trivial
        cases hdy2 with
        | bl b => exact ite1 rfl ⟨_, rfl, yes rfl⟩
        | int j =>
          refine ite0 rfl ⟨_, rfl, .int j, _, _, _, _, rfl, .ty "int", .base (.int j), rfl, _, rfl, ite0 rfl ?_⟩
          refine ⟨_, rfl, _, rfl, lo, j, rfl, rfl, _, rfl, iteB (fun h1 => ⟨_, rfl, j, hi, rfl, rfl, _, rfl, iteB (fun h2 => ?_) (fun h2 => ?_)⟩) (fun h1 => ⟨_, rfl, ite1 rfl ?_⟩)⟩
          · refine ⟨_, rfl, yes ?_⟩
            show (decide (lo ≤ j) && decide (j ≤ hi)) = false
            rw [h1]
            simpa using h2
          · refine no ?_
            show (decide (lo ≤ j) && decide (j ≤ hi)) = true
            rw [h1]
            simpa using h2
          · refine ⟨_, rfl, yes ?_⟩
            show (decide (lo ≤ j) && decide (j ≤ hi)) = false
            rw [h1]
            rfl
        | non => exact ite0 rfl ⟨_, rfl, .non, _, _, _, _, rfl, .ty "int", .base .non, rfl, _, rfl, ite1 rfl ⟨_, rfl, yes rfl⟩⟩
        | str z => exact ite0 rfl ⟨_, rfl, .str z, _, _, _, _, rfl, .ty "int", .base (.str z), rfl, _, rfl, ite1 rfl ⟨_, rfl, yes rfl⟩⟩
        | lst z t => exact ite0 rfl ⟨_, rfl, _, _, _, _, _, rfl, .ty "int", dp_ty (.lst z t), rfl, _, rfl, ite1 rfl ⟨_, rfl, yes rfl⟩⟩
        | tup z t => exact ite0 rfl ⟨_, rfl, _, _, _, _, _, rfl, .ty "int", dp_ty (.tup z t), rfl, _, rfl, ite1 rfl ⟨_, rfl, yes rfl⟩⟩
      · rintro H2 ⟨s2, ys, e2, ly, hy⟩
        rw [lx, List.take_length] at hy
        refine ⟨Nat.zero_le _, fun p2 hp2 => ?_⟩
        have s3 : Sm H2 (upd H2 p2 (.lst [])) := Sm.new hp2
        have z := q _ (s1.trans (s2.trans s3))
        unfold fromB at z
        rw [e] at z
        refine ⟨.list (ds.filter fun d => !okI lo hi d), .list [], .lst (.inl (.inl (s3 _ _ e2))) (dpAll_mono (s2.trans s3) hy), .lst (.inl (.inl upd_same)) .nil, shaped_lay fun x hx => hF.lay ds e x ((List.mem_filter.mp hx).1), shaped_nil, ?_⟩
        rw [eqv_nil, filter_empty]
        exact z
end
end Z
set_option Elab.async false
set_option linter.all false
set_option maxRecDepth 100000
set_option maxHeartbeats 4000000
set_option autoImplicit false
namespace Z
open PySem PySem.Spec PyProof.Rows L2
open C8 (Cal pe_c Mak pe_mk Met pe_mt pe_mt0 pe_gc tCut pss_cut)
def dataS : Sum Str (List Int × List Int) → PyData
  | .inl z => .str z
  | .inr (a, b) => .tuple [.tuple (a.map .int), .tuple (b.map .int)]
theorem num_false {p : Option PyData} (h : blA p = true ∨ (intA p || blA p) = false) : numA p = false := by
  cases p with
  | none => rfl
  | some d =>
    cases d with
    | int n => rcases h with h | h <;> cases h
    | none => rfl
    | bool _ => rfl
    | str _ => rfl
    | list _ => rfl
    | tuple _ => rfl
    | dict _ => rfl
theorem filter_id {l : List Int} {p : Int → Bool} : (l.filter p).map (fun k => V.int k) = (l.filter p).map V.int := rfl
theorem goes_walks {n : Int} {g : Option PyData} {gs : List Int} {K : PySem.W.Frag} {C : Addr} {H : Hp} {v : V} (hv : AV K C H v g) (h : goesI n g = some gs) : ∀ k ∈ walksI n gs, 0 ≤ k ∧ k ≤ n := fun k hk =>
  goes_in hv h k ((mem_walks (goes_in hv h)).mp hk)
section
variable {P : Program} {w : World} {K : PySem.W.Frag} {mg : Str → Option Value} {base : Heap} {CI C : Addr}
abbrev s_due : Stmt := topS 20
abbrev n_due : List Str := ["_law_people", "_law_goes", "_law_edges_here", "_law_walks", "_law_ties", "_law_k", "_law_between"]
abbrev p_due : List Str := ["_law_people", "_law_goes", "_law_edges_here"]
theorem sc_due : FnScope n_due p_due (defScope s_due) := ⟨rfl, rfl, rfl, by decide +kernel, rfl, by decide +kernel, by decide +kernel⟩
/-- what a line is asked for, and the data that comes of it -/
def spDue (K : PySem.W.Frag) (C : Addr) : Sp := fun vs H Q _ => ∃ (vp vg ve : V) (p g e : Option PyData), vs = [vp, vg, ve] ∧ AV K C H vp p ∧ AV K C H vg g ∧ AV K C H ve e ∧ FinA p ∧ FinA g ∧ FinA e ∧
  ∀ v H', Sm H H' → (Dp K H' v (dataS (dueD p g e))) → Q v H'
theorem ok_due {f : Addr} {fd : FuncData} (F : Fun K "_law_due" "_law_due" s_due f fd) (T : Bt mg) (L : LnC K C) (Cg : Cal P w K mg base 1 "_law_is_good" (spGood K C) []) : FnOk P w K mg base CX0 2 f fd p_due (spDue K C) := by
  refine F.ok sc_due (fun vs H Q E h => ?_) (fun cdv A outer s H vs Q E hr h => ?_)
  · obtain ⟨vp, vg, ve, p, g, e, rfl, _⟩ := h
    rfl
  · obtain ⟨vp, vg, ve, p, g, e, rfl, hp, hg, he, Fp, Fg, Fe, q⟩ := h
    have hu64 : A.units + 3 + 64 < cLine := by have := hr.un; show A.units + 3 + 64 < _; have e : (A.deeper (envOfC "_law_due" (defScope s_due) s.heap.objs.size f cdv)).units = A.units + 3 := rfl; omega
    refine ⟨_, (pss_cut (ps_if ((pw_or (pt_val (pe_callB call_isi (by rfl) T.n_isinstance (by decide +kernel) (pa_cons (pv 0) (pa_cons (pe_bltn (v := .ty "bool") (by rfl) T.n_bool (by decide +kernel) rfl) pa_nil)))) (pw_or (pt_not (pt_val (pe_callB call_isi (by rfl) T.n_isinstance (by decide +kernel) (pa_cons (pv 0) (pa_cons (pe_bltn (v := .ty "int") (by rfl) T.n_int (by decide +kernel) rfl) pa_nil))))) (pw_or1 (pt_cmpR op_lt (pv 0) pe_int (nomark _)))))).pt
        (pss_one (ps_ret pe_str))
        pss_nil)
      (pss_cons (ps_asg (pe_tup (pa_cons (pe_listRg rfl (by rfl) T.n_list (prg_1 (by rfl) T.n_range (pe_op op_add (pv 0) pe_int))) (pa_cons (pe_listRg rfl (by rfl) T.n_list (prg_2 (by rfl) T.n_range pe_int (pe_op op_add (pv 0) pe_int))) pa_nil))) (pg_tup rfl (pgs_cons (pg_name (i := 3) sc_due.nd rfl (Or.inr rfl)) (pgs_cons (pg_name (i := 4) sc_due.nd rfl (Or.inl rfl)) pgs_nil))))
      (pss_cut (ps_if (pt_cmpR op_notN (pv 1) pe_non (nomark _))
        (pss_cons (ps_if (pt_not (pt_val (pe_c Cg hr (by decide) (by rfl) (pa_cons (pv 1) (pa_cons pe_int (pa_cons (pv 0) pa_nil))))))
          (pss_one (ps_ret pe_str))
          pss_nil)
        (pss_one (ps_set (i := 3) sc_due.nd rfl (Or.inr rfl) (pe_lc (own := [("_law_k", 5)]) (by rfl) sc_due.nd (pi_list (pv 3)) (blkOk_by (N := n_due) (sc := defScope s_due) (own := [("_law_k", 5)]) (by decide +kernel)) (fun _ _ _ _ _ => pg_name (i := 5) sc_due.nd rfl (Or.inl rfl)) (fun _ _ _ _ _ => (pts_one (pt_cmpR (op_in_seqK K) (pv 5) (pv 1) rfl))) (fun _ _ _ _ _ => (pv 5))))))
        pss_nil)
      (pss_cons (ps_set (i := 6) sc_due.nd rfl (Or.inr rfl) (pe_lc (own := [("_law_k", 5)]) (by rfl) sc_due.nd (pi_list (pv 4)) (blkOk_by (N := n_due) (sc := defScope s_due) (own := [("_law_k", 5)]) (by decide +kernel)) (fun _ _ _ _ _ => pg_name (i := 5) sc_due.nd rfl (Or.inl rfl)) (fun _ _ _ _ _ => (pts_one ((pw_and (pt_cmpR (op_in_seqK K) (pv 5) (pv 3) rfl) (pw_and1 (pt_cmpR (op_in_seqK K) (pe_op op_sub (pv 5) pe_int) (pv 3) rfl)))).pt)) (fun _ _ _ _ _ => (pv 5))))
      (pss_cut (ps_if (pt_cmpR op_notN (pv 2) pe_non (nomark _))
        (pss_cons (ps_if ((pw_or (pt_not (pt_val (pe_c Cg hr (by decide) (by rfl) (pa_cons (pv 2) (pa_cons pe_int (pa_cons (pv 0) pa_nil)))))) (pw_or1 (pt_cmpR (op_neD hu64) (pe_lc (own := [("_law_k", 5)]) (by rfl) sc_due.nd (pi_sq (pv 2)) (blkOk_by (N := n_due) (sc := defScope s_due) (own := [("_law_k", 5)]) (by decide +kernel)) (fun _ _ _ _ _ => pg_name (i := 5) sc_due.nd rfl (Or.inl rfl)) (fun _ _ _ _ _ => (pts_one (pt_cmpR (op_notIn_seqK K) (pv 5) (pv 6) rfl))) (fun _ _ _ _ _ => (pv 5))) (pe_lst pa_nil) (nomark _))))).pt
          (pss_one (ps_ret pe_str))
          pss_nil)
        (pss_one (ps_set (i := 6) sc_due.nd rfl (Or.inr rfl) (pe_lc (own := [("_law_k", 5)]) (by rfl) sc_due.nd (pi_list (pv 6)) (blkOk_by (N := n_due) (sc := defScope s_due) (own := [("_law_k", 5)]) (by decide +kernel)) (fun _ _ _ _ _ => pg_name (i := 5) sc_due.nd rfl (Or.inl rfl)) (fun _ _ _ _ _ => (pts_one (pt_cmpR (op_in_seqK K) (pv 5) (pv 2) rfl))) (fun _ _ _ _ _ => (pv 5))))))
        pss_nil)
      (pss_one (ps_ret (pe_tup (pa_cons (pe_callTy call_tuple_of (by rfl) T.n_tuple (by decide +kernel) (pa_cons (pv 3) pa_nil)) (pa_cons (pe_callTy call_tuple_of (by rfl) T.n_tuple (by decide +kernel) (pa_cons (pv 6) pa_nil)) pa_nil)))))))))), ?_⟩
    have bad : numA p = false → ∀ H', Sm H H' → Q (.str (Str.ofString "people")) H' := fun h H' e => q _ H' e (by rw [due_num h]; exact .str _)
    refine ⟨fun σ H1 => σ = [some vp, some vg, some ve, none, none, none, none] ∧ H1 = H ∧ numA p = true, ?_, ?_⟩
    · refine ⟨_, rfl, vp, _, _, _, _, rfl, .ty "bool", hp.ty L.i, hp.kbl L.k, _, rfl, iteB (fun hb => ?_) (fun hb => ?_)⟩
      · exact bad (num_false (.inl hb)) H (Sm.refl _)
      · refine ⟨_, rfl, vp, _, _, _, _, rfl, .ty "int", hp.ty L.i, hp.kint L.k, _, rfl, iteB (fun hc => ?_) (fun hc => ?_)⟩
        · exact bad (num_false (.inr (by simpa using hc))) H (Sm.refl _)
        · cases hp with
          | obj h => exact Bool.noConfusion (show true = false from hc)
          | dat h =>
            cases h with
            | int n =>
              refine ⟨_, rfl, n, 0, rfl, rfl, _, rfl, iteB (fun hd => ?_) (fun hd => ?_)⟩
              · exact bad (decide_eq_false (by have := of_decide_eq_true hd; omega)) H (Sm.refl _)
              · exact ⟨rfl, rfl, decide_eq_true (by have := of_decide_eq_false hd; omega)⟩
            | non => exact Bool.noConfusion (show true = false from hc)
            | bl b => cases hb
            | str z => exact Bool.noConfusion (show true = false from hc)
            | lst z t => exact Bool.noConfusion (show true = false from hc)
            | tup z t => exact Bool.noConfusion (show true = false from hc)
    · rintro σ H1 ⟨rfl, rfl, hn⟩
      obtain ⟨n, rfl, n0⟩ := num_int hn
      have n40 := Fp.int n rfl
      obtain rfl : vp = .int n := by
        cases hp with
        | dat h => cases h; rfl
      refine ⟨_, rfl, n, 1, rfl, rfl, _, rfl, RgOk.of_le (by decide) (by omega) (by decide) (by omega), fun l1 hl1 => ⟨_, rfl, n, 1, rfl, rfl, 1, _, rfl, rfl, RgOk.of_le (by decide) (by omega) (by decide) (by omega), fun l2 hl2 => ⟨(show 2 ≤ sizeLine by decide), fun t ht => ?_⟩⟩⟩
      have e1 : (upd H1 l1 (.lst (rgV 0 (n + 1)))) l1 = some (.lst ((upto 0 n).map V.int)) := by rw [upd_same, rgV_upto, show n + 1 - 1 = n by omega]
      have s1 : Sm H1 (upd H1 l1 (.lst (rgV 0 (n + 1)))) := Sm.new hl1
      generalize upd H1 l1 (.lst (rgV 0 (n + 1))) = H2 at e1 s1 hl2 ht ⊢
      have e2 : (upd H2 l2 (.lst (rgV 1 (n + 1)))) l2 = some (.lst ((upto 1 n).map V.int)) := by rw [upd_same, rgV_upto, show n + 1 - 1 = n by omega]
      have s2 : Sm H2 (upd H2 l2 (.lst (rgV 1 (n + 1)))) := Sm.new hl2
      generalize upd H2 l2 (.lst (rgV 1 (n + 1))) = H3 at e2 s2 ht ⊢
      have s3 : Sm H3 (upd H3 t (.tup [V.ref l1, .ref l2])) := Sm.new ht
      refine ⟨t, _, rfl, .inl (.inl upd_same), rfl, _, _, rfl, _, _, rfl, rfl, ?_⟩
      have s13 := (s1.trans s2).trans s3
      have g1 := (s2.trans s3) _ _ e1
      have g2 := s3 _ _ e2
      generalize upd H3 t (.tup [V.ref l1, .ref l2]) = H4 at s13 g1 g2 ⊢
      -- the walks
      refine ⟨fun σ H5 => Sm H1 H5 ∧ ∃ (lw : Addr) (gs : List Int) (x5 : Option V), σ = [some (.int n), some vg, some ve, some (.ref lw), some (.ref l2), x5, none] ∧ H5 lw = some (.lst ((walksI n gs).map V.int)) ∧ H5 l2 = some (.lst ((upto 1 n).map V.int)) ∧ goesI n g = some gs, ?_, ?_⟩
      · refine ⟨_, rfl, rfl, _, rfl, ?_⟩
        rw [none_V hg]
        refine iteB (fun hb => ?_) (fun hb => ?_)
        · have hb' : isNoneA g = false := by simpa using hb
          refine ⟨_, rfl, _, rfl, vg, g, 0, n, rfl, hg.sm s13, Fg, fun H5 s5 => ⟨_, rfl, iteB (fun hc => ?_) (fun hc => ?_)⟩⟩
          · have hf : fromB 0 n g = false := by simpa using hc
            refine q _ H5 (s13.trans s5) ?_
            rw [due_at n0]
            unfold goesI
            rw [if_neg (by rw [hb']; decide), if_neg (by rw [hf]; decide)]
            exact .str _
          · have hf : fromB 0 n g = true := by simpa using hc
            have hgs : goesI n g = some (intsA g) := by
              unfold goesI
              rw [if_neg (by rw [hb']; decide), if_pos hf]
            obtain ⟨lg, rfl, hS, _⟩ := from_seq (hg.sm (s13.trans s5)) hf
            have ew := s5 _ _ g1
            refine ⟨_, rfl, l1, rfl, ⟨_, .inl (.inl ew)⟩, fun D hD => lc_list (K := K) (a := l1) (xs := (upto 0 n).map V.int) (PvL H5 D (upto 0 n) (fun k => decide (k ∈ intsA g)) V.int) (PvL.start hD) (fun i H p q => .inl (.inl (q.sm _ _ ew))) ?_ ?_⟩
            · intro i x H6 hx p
              obtain ⟨k, hk, rfl⟩ := List.getElem?_map_some hx
              have ul : (upto 0 n).length ≤ 900 := by rw [len_upto]; omega
              refine ⟨rfl, _, rfl, _, rfl, lg, _, rfl, hS.sm p.sm, rfl, flat_ints _, _, rfl, ?_⟩
              show if inV (V.int k) ((intsA g).map V.int) = true then _ else _
              rw [inV_ints]
              exact iteB (fun h => ⟨_, rfl, p.yes hD (Sm.refl _) hk h rfl ul⟩) fun h => p.no (Sm.refl _) hk h
            · intro H6 p
              exact ⟨(s13.trans s5).trans p.sm, D, intsA g, none, rfl, p.fin (by rw [List.length_map]), p.sm _ _ (s5 _ _ g2), hgs⟩
        · have hb' : isNoneA g = true := by simpa using hb
          have hgs : goesI n g = some (upto 0 n) := by
            unfold goesI
            rw [if_pos hb']
          exact ⟨s13, l1, upto 0 n, none, rfl, by rw [walks_all]; exact g1, g2, hgs⟩
      rintro σ H5 ⟨s5, lw, gs, x5, rfl, ew, e2', hgs⟩
      have hdue : dueD (some (.int n)) g e = edgesI n (walksI n gs) e := by
        rw [due_at n0, hgs]
        rfl
      have wl := walks_len n gs
      generalize walksI n gs = W at ew hdue wl ⊢
      have ul : (upto 1 n).length ≤ 900 := by rw [len_upto]; omega
      refine ⟨_, rfl, l2, rfl, ⟨_, .inl (.inl e2')⟩, fun D hD => lc_list (K := K) (a := l2) (xs := (upto 1 n).map V.int) (PvL H5 D (upto 1 n) (fun k => decide (k ∈ W) && decide (k - 1 ∈ W)) V.int) (PvL.start hD) (fun i H p q => .inl (.inl (q.sm _ _ e2'))) ?_ ?_⟩
      · intro i x H6 hx p
        obtain ⟨k, hk, rfl⟩ := List.getElem?_map_some hx
        have sq : SqL K H6 lw (W.map V.int) := .inl (.inl (p.sm _ _ ew))
        refine ⟨rfl, _, rfl, _, rfl, lw, _, rfl, .inl sq, rfl, flat_ints _, _, rfl, ?_⟩
        show if inV (V.int k) (W.map V.int) = true then _ else _
        rw [inV_ints]
        refine iteB (fun h => ⟨_, rfl, k, 1, rfl, rfl, _, rfl, lw, _, rfl, .inl sq, rfl, flat_ints _, _, rfl, ?_⟩) fun h => ite0 rfl (p.no (Sm.refl _) hk (by rw [h]; rfl))
        show if inV (V.int (k - 1)) (W.map V.int) = true then _ else _
        rw [inV_ints]
        exact iteB (fun h2 => ⟨_, rfl, p.yes hD (Sm.refl _) hk (by rw [h, h2]; rfl) rfl ul⟩) fun h2 => p.no (Sm.refl _) hk (by rw [h, h2]; rfl)
      intro H6 p
      have eb : H6 D = some (.lst ((betwI n W).map V.int)) := p.fin (by rw [List.length_map])
      have s6 := s5.trans p.sm
      have ew6 := p.sm _ _ ew
      have bl := betw_len n W
      -- the edges
      refine ⟨fun σ H7 => Sm H1 H7 ∧ ∃ (lb : Addr) (rs : List Int) (x5 : Option V), σ = [some (.int n), some vg, some ve, some (.ref lw), some (.ref l2), x5, some (.ref lb)] ∧ H7 lw = some (.lst (W.map V.int)) ∧ H7 lb = some (.lst (rs.map V.int)) ∧ dueD (some (.int n)) g e = .inr (W, rs), ?_, ?_⟩
      · refine ⟨_, rfl, rfl, _, rfl, ?_⟩
        rw [none_V he]
        refine iteB (fun hb => ?_) (fun hb => ?_)
        · have hb' : isNoneA e = false := by simpa using hb
          refine ⟨_, rfl, _, rfl, ve, e, 1, n, rfl, he.sm s6, Fe, fun H7 s7 => ⟨_, rfl, iteB (fun hc => ?_) (fun hc => ?_)⟩⟩
          · have hf : fromB 1 n e = false := by simpa using hc
            refine q _ H7 (s6.trans s7) ?_
            rw [hdue]
            unfold edgesI
            rw [if_neg (by rw [hb']; decide), hf, Bool.false_and, if_neg (by decide)]
            exact .str _
          · have hf : fromB 1 n e = true := by simpa using hc
            have s17 := s6.trans s7
            obtain ⟨le, rfl, hS, _⟩ := from_seq (he.sm s17) hf
            have il := ints_len Fe.few
            have eb7 := s7 _ _ eb
            refine ⟨_, rfl, le, _, rfl, hS, fun it hit D2 hD2 => lc_sq hit (PvL H7 D2 (intsA e) (fun k => !decide (k ∈ betwI n W)) V.int) (PvL.start hD2) (fun i H p => p.sm) ?_ ?_⟩
            · intro i x H8 hx p2
              obtain ⟨k, hk, rfl⟩ := List.getElem?_map_some hx
              refine ⟨rfl, _, rfl, _, rfl, D, _, rfl, .inl (.inl (.inl (p2.sm _ _ eb7))), rfl, flat_ints _, _, rfl, ?_⟩
              show if (!inV (V.int k) ((betwI n W).map V.int)) = true then _ else _
              rw [inV_ints]
              exact iteB (fun h => ⟨_, rfl, p2.yes hD2 (Sm.refl _) hk h rfl (by omega)⟩) fun h => p2.no (Sm.refl _) hk h
            · intro H8 p2
              have e8 := p2.fin (by rw [List.length_map])
              refine ⟨Nat.zero_le _, fun o ho => ?_⟩
              have s9 : Sm H8 (upd H8 o (.lst [])) := Sm.new ho
              have s19 := (s17.trans p2.sm).trans s9
              refine ⟨.list (((intsA e).filter fun k => !decide (k ∈ betwI n W)).map .int), .list [], .lst (.inl (.inl (s9 _ _ e8))) (dpAll_ints _), .lst (.inl (.inl upd_same)) .nil, shaped_ints _, shaped_nil, _, rfl, ?_⟩
              rw [neq_nil, List.isEmpty_map, filter_empty]
              have ew9 := s9 _ _ (p2.sm _ _ (s7 _ _ ew6))
              have eb9 := s9 _ _ (p2.sm _ _ eb7)
              have hS9 := hS.sm (p2.sm.trans s9)
              generalize upd H8 o (.lst []) = H9 at s19 ew9 eb9 hS9 ⊢
              refine iteB (fun hd => ?_) (fun hd => ?_)
              · refine q _ H9 s19 ?_
                rw [hdue]
                unfold edgesI
                rw [if_neg (by rw [hb']; decide), hf, Bool.true_and, if_neg (by simpa using hd)]
                exact .str _
              · have ha' : ((intsA e).all fun k => decide (k ∈ betwI n W)) = true := by simpa using hd
                refine ⟨_, rfl, D, rfl, ⟨_, .inl (.inl eb9)⟩, fun D3 hD3 => lc_list (K := K) (a := D) (xs := (betwI n W).map V.int) (PvL H9 D3 (betwI n W) (fun k => decide (k ∈ intsA e)) V.int) (PvL.start hD3) (fun i H p q => .inl (.inl (q.sm _ _ eb9))) ?_ ?_⟩
                · intro i x H10 hx p3
                  obtain ⟨k, hk, rfl⟩ := List.getElem?_map_some hx
                  refine ⟨rfl, _, rfl, _, rfl, le, _, rfl, hS9.sm p3.sm, rfl, flat_ints _, _, rfl, ?_⟩
                  show if inV (V.int k) ((intsA e).map V.int) = true then _ else _
                  rw [inV_ints]
                  exact iteB (fun h => ⟨_, rfl, p3.yes hD3 (Sm.refl _) hk h rfl (by omega)⟩) fun h => p3.no (Sm.refl _) hk h
                · intro H10 p3
                  refine ⟨s19.trans p3.sm, D3, _, _, rfl, p3.sm _ _ ew9, p3.fin (by rw [List.length_map]), ?_⟩
                  rw [hdue]
                  unfold edgesI
                  rw [if_neg (by rw [hb']; decide), hf, Bool.true_and, if_pos ha']
        · have hb' : isNoneA e = true := by simpa using hb
          refine ⟨s6, D, betwI n W, _, rfl, ew6, eb, ?_⟩
          rw [hdue]
          unfold edgesI
          rw [if_pos hb']
      rintro σ H7 ⟨s7, lb, rs, x5, rfl, ew7, eb7, hd⟩
      refine ⟨_, rfl, lw, _, rfl, .inl ⟨.inl (.inl ew7), fun t1 ht1 => ⟨_, rfl, lb, _, rfl, .inl ⟨.inl (.inl (Sm.new ht1 _ _ eb7)), fun t2 ht2 => ⟨(show 2 ≤ sizeLine by decide), fun t3 ht3 => ?_⟩⟩⟩⟩⟩
      refine q _ _ (((s7.trans (Sm.new ht1)).trans (Sm.new ht2)).trans (Sm.new ht3)) ?_
      rw [hd]
      refine .tup (.inl (.inl upd_same)) (.cons (.tup (.inl (.inl (((Sm.new ht2).trans (Sm.new ht3)) _ _ upd_same))) (dpAll_ints _)) (.cons (.tup (.inl (.inl (Sm.new ht3 _ _ upd_same))) (dpAll_ints _)) .nil))
end
end Z
set_option Elab.async false
set_option linter.all false
set_option maxRecDepth 100000
set_option maxHeartbeats 4000000
set_option autoImplicit false
namespace Z
open PySem PySem.Spec PyProof.Rows L2
open C8 (Cal pe_c Mak pe_mk Met pe_mt pe_mt0 pe_gc tCut pss_cut)
theorem made_new {H H1 : Hp} {x dx C : Addr} (nx : H x = none) (nd : H dx = none) (ne : dx ≠ x) : Sm H (upd (upd H dx (.own x)) x (.ins C dx [])) :=
  (Sm.new nd).trans (Sm.new (by rw [upd_ne (Ne.symm ne)]; exact nx))
/-- a line is made of what is good -/
theorem ini_good {K : PySem.W.Frag} {CI C : Addr} {H : Hp} {x dx : Addr} {vp vg ve : V} {p g e : Option PyData} {n : Int} {ws bs : List Int} {Q : Hp → Prop} {E : XK} (nx : H x = none) (nd : H dx = none) (ne : dx ≠ x)
    (hp : AV K C H vp p) (hg : AV K C H vg g) (he : AV K C H ve e) (Fp : FinA p) (Fg : FinA g) (Fe : FinA e) (en : p = some (.int n)) (hd : dueD p g e = .inr (ws, bs))
    (q : ∀ H2, Sm H H2 → LineAt H2 C x (n, ws, bs) → Q H2) :
    spIni K CI C [.ref x, vp, vg, ve] (upd (upd H dx (.own x)) x (.ins C dx [])) (fun v H2 => v = .non ∧ Q H2) E := by
  have sm : Sm H (upd (upd H dx (.own x)) x (.ins C dx [])) := made_new (H1 := H) nx nd ne
  refine ⟨x, dx, vp, vg, ve, p, g, e, rfl, upd_same, hp.sm sm, hg.sm sm, he.sm sm, Fp.int, Fg.few, Fe.few, fun wd hw => ?_, fun ws' bs' hw H' tg te kp e1 e2 e3 => ⟨rfl, ?_⟩⟩
  · rw [hd] at hw
    cases hw
  · rw [hd] at hw
    cases hw
    obtain rfl : vp = .int n := by
      subst en
      cases hp with
      | dat h => cases h; rfl
    exact q H' (fun b o hb => kp b o (fun z => by rw [z, nx] at hb; cases hb) (sm b o hb)) ⟨dx, tg, te, e3, e1, e2⟩
section
variable {P : Program} {w : World} {K : PySem.W.Frag} {mg : Str → Option Value} {base : Heap} {CI C KE CT : Addr}
abbrev s_ans : Stmt := topS 22
abbrev n_ans : List Str := ["_law_people", "_law_goes", "_law_edges_here", "_law_found", "_law_made", "e"]
abbrev p_ans : List Str := ["_law_people", "_law_goes", "_law_edges_here"]
theorem sc_ans : FnScope n_ans p_ans (defScope s_ans) := ⟨rfl, rfl, rfl, by decide +kernel, rfl, by decide +kernel, by decide +kernel⟩
/-- what the suite asks of the error's class -/
structure ErK (K : PySem.W.Frag) (CI KE CT : Addr) : Prop where
  x : XfC K CI
  c : ExcC K CI
  nf : PySem.W.findIn K (.ref CI) "word" = some none
  te : PySem.W.exmOne K (.ref CI) (.ref CI) = some true
  k1 : PySem.W.kitOne K (.ref CI) (.ref KE) = some true
  k2 : PySem.W.kitOne K (.ref CI) (.ref CT) = some false
theorem ok_ans {f fI : Addr} {fd fdI : FuncData} (F : Fun K "_law_answer" "_law_answer" s_ans f fd) (T : Bt mg) (L : LnC K C) (gI : mg "InvalidLine" = some (.ref CI)) (gK : mg "KnowError" = some (.ref KE)) (gT : mg "InvalidTalk" = some (.ref CT))
    (gC : mg "Line" = some (.ref C)) (ER : ErK K CI KE CT) (M : Mk K C fI) (FI : FnOk P w K mg base (L2.CX P w) 3 fI fdI p_ini (spIni K CI C)) (bI : Binds K fdI p_ini []) :
    FnOk P w K mg base CX0 5 f fd p_ans (spDue K C) := by
  refine F.ok sc_ans (fun vs H Q E h => ?_) (fun cdv A outer s H vs Q E hr h => ?_)
  · obtain ⟨vp, vg, ve, p, g, e, rfl, _⟩ := h
    rfl
  · obtain ⟨vp, vg, ve, p, g, e, rfl, hp, hg, he, Fp, Fg, Fe, q⟩ := h
    refine ⟨_, (pss_cons (ps_set (i := 3) sc_ans.nd rfl (Or.inl rfl) pe_str)
      (pss_cons (ps_try_as (i := 5) (tb := fun W => tSeq (tAsg (tMakeS C (spIni K CI C) [] (WE W) (tCons (tVar 0) (tCons (tVar 1) (tCons (tVar 2) tNil)))) (gName 4))
            (tAsg (tIf (tTest (tOp rEq (tFld K (tVar 4) "people") (tVar 0))) (tTup (tCons (tFld K (tVar 4) "goes") (tCons (tFld K (tVar 4) "edges") tNil))) (tC (.str "none"))) (gName 3)))
          (ts := fun a cls d => tAsg (tIf (tAnd (tB (tCB (rIsX K a cls d CI) (tCons (tVar 5) (tCons (tC (.ref KE)) tNil)))) (tNot (tB (tCB (rIsX K a cls d CI) (tCons (tVar 5) (tCons (tC (.ref CT)) tNil)))))) (tXf a cls d CI "word" (tVar 5)) (tC (.str "other"))) (gName 3))
          (Wout := fun _ _ _ _ => False) rfl rfl sc_ans.nd rfl rfl ⟨rfl, by decide, Or.inl gI⟩ takes0
          (fun W pn xe tk _ => pss_cons (ps_set (i := 4) sc_ans.nd rfl (Or.inl rfl) (by exact (pe_makeS M FI hr rfl gC bI .nil (fun σ => passAt tk σ) (by exact (pa_cons (pv 0) (pa_cons (pv 1) (pa_cons (pv 2) pa_nil)))))))
            (pss_one (ps_set (i := 3) sc_ans.nd rfl (Or.inl rfl) (by exact (pe_ifExp (pt_cmpR op_eq (pe_fld (pv 4) rfl) (pv 0) (nomark _)) (pe_tup (pa_cons (pe_fld (pv 4) rfl) (pa_cons (pe_fld (pv 4) rfl) pa_nil))) pe_str)))))
          (fun a oe cls d pn hz hf => pss_one (ps_set (i := 3) sc_ans.nd rfl (Or.inl rfl) (by exact (pe_ifExp ((pw_and (pt_val (pe_callB (call_isX ER.c hz hf) (by rfl) T.n_isinstance (by decide +kernel) (pa_cons (pv 5) (pa_cons (pe_glob (v := .ref KE) (by rfl) gK rfl) pa_nil)))) (pw_and1 (pt_not (pt_val (pe_callB (call_isX ER.c hz hf) (by rfl) T.n_isinstance (by decide +kernel) (pa_cons (pv 5) (pa_cons (pe_glob (v := .ref CT) (by rfl) gT rfl) pa_nil))))))).pt)
            (pe_xf ER.x ER.nf hz hf (pv 5)) pe_str)))))
      (pss_one (ps_ret (pv 3))))), ?_⟩
    refine ⟨_, rfl, _, rfl, _, rfl, fun x dx nx nd ne => ?_⟩
    have sm : Sm H (upd (upd H dx (.own x)) x (.ins C dx [])) := made_new (H1 := H) nx nd ne
    refine ⟨x, dx, vp, vg, ve, p, g, e, rfl, upd_same, hp.sm sm, hg.sm sm, he.sm sm, Fp.int, Fg.few, Fe.few, fun wd hw d' H' s' e' => ?_, fun ws bs hw H' tg te kp e1 e2 e3 => ⟨rfl, ?_⟩⟩
    · refine ⟨true, ER.te, fun _ a na => ⟨_, rfl, rfl, d', _, .ref KE, .ref KE, true, rfl, e', rfl, fun _ r => r, ER.k1, _, rfl, ite1 rfl ⟨_, rfl, rfl, d', _, .ref CT, .ref CT, false, rfl, e', rfl, fun _ r => r, ER.k2, _, rfl, ite1 rfl
        ⟨_, rfl, rfl, rfl, d', _, .str wd, rfl, e', by simp [List.lookup], _, rfl, q _ H' (sm.trans s') ?_⟩⟩⟩, fun h => nomatch h⟩
      rw [hw]
      exact .str wd
    · obtain ⟨n, rfl, hn⟩ : ∃ n : Int, p = some (.int n) ∧ 0 ≤ n := by
        refine num_int ?_
        cases hb : numA p with
        | true => rfl
        | false =>
          rw [due_num hb] at hw
          cases hw
      obtain rfl : vp = .int n := by
        cases hp with
        | dat h => cases h; rfl
      have s2 : Sm H H' := fun b o hb => kp b o (fun z => by rw [z, nx] at hb; cases hb) (sm b o hb)
      refine ⟨_, rfl, x, C, dx, _, _, rfl, e3, L.i.c, L.n1, rfl, _, rfl, rfl, _, rfl, ite1 (by simp) ⟨_, rfl, x, C, dx, _, _, rfl, e3, L.i.c, L.n2, rfl, _, rfl, x, C, dx, _, _, rfl, e3, L.i.c, L.n3, rfl, (show 2 ≤ sizeLine by decide), fun t ht => ⟨_, rfl, ?_⟩⟩⟩
      refine q _ _ (s2.trans (Sm.new ht)) ?_
      rw [hw]
      exact .tup (.inl (.inl upd_same)) (.cons (.tup (.inl (.inl (Sm.new ht _ _ e1))) (dpAll_ints _)) (.cons (.tup (.inl (.inl (Sm.new ht _ _ e2))) (dpAll_ints _)) .nil))
end
end Z
set_option Elab.async false
set_option linter.all false
set_option maxRecDepth 100000
set_option maxHeartbeats 4000000
set_option autoImplicit false
namespace Z
open PySem PySem.Spec PyProof.Rows L2
open C8 (Cal pe_c Mak pe_mk Met pe_mt pe_mt0 pe_gc tCut pss_cut)
theorem fin_none : FinA (some .none) := ⟨(fun ds e => nomatch e), (fun ds e => nomatch e), (fun n e => nomatch e)⟩
theorem fin_str (z : Str) : FinA (some (.str z)) := ⟨(fun ds e => nomatch e), (fun ds e => nomatch e), (fun n e => nomatch e)⟩
theorem fin_bool (b : Bool) : FinA (some (.bool b)) := ⟨(fun ds e => nomatch e), (fun ds e => nomatch e), (fun n e => nomatch e)⟩
theorem fin_int {n : Int} (h : n ≤ 40) : FinA (some (.int n)) := ⟨(fun ds e => nomatch e), (fun ds e => nomatch e), fun m e => by cases e; exact h⟩
theorem fin_obj : FinA none := ⟨(fun ds e => nomatch e), (fun ds e => nomatch e), (fun n e => nomatch e)⟩
theorem fin_list {ds : List PyData} (l : ds.length ≤ 40) (h : ∀ x ∈ ds, x.canLay0 = true ∧ x.depth ≤ 3) : FinA (some (.list ds)) := ⟨fun ds' e => by cases e; exact l, fun ds' e => by cases e; exact h, fun n e => nomatch e⟩
theorem fin_tup {ds : List PyData} (l : ds.length ≤ 40) (h : ∀ x ∈ ds, x.canLay0 = true ∧ x.depth ≤ 3) : FinA (some (.tuple ds)) := ⟨fun ds' e => by cases e; exact l, fun ds' e => by cases e; exact h, fun n e => nomatch e⟩
theorem lay_ints (l : List Int) : ∀ x ∈ l.map PyData.int, x.canLay0 = true ∧ x.depth ≤ 3 := fun x hx => by
  obtain ⟨n, _, rfl⟩ := List.mem_map.mp hx
  exact ⟨rfl, by show 0 ≤ 3; decide⟩
theorem due_nn {n : Int} (h : 0 ≤ n) : dueD (some (.int n)) (some .none) (some .none) = .inr (upto 0 n, betwI n (upto 0 n)) := by
  rw [due_at h]
  show Sum.inr (walksI n (upto 0 n), betwI n (walksI n (upto 0 n))) = _
  rw [walks_all]
theorem sm_msk {a : Addr} {H H' : Hp} (e : Sm H H') : Sm (msk a a H) (msk a a H') := e.msk
/-- what stands apart from the box -/
theorem av_msk {K : PySem.W.Frag} {C a : Addr} {H : Hp} {v : V} {d : Option PyData} (h : AV K C (msk a a H) v d) : AV K C H v d := h.sm msk_le
theorem msk_put {a D : Addr} {H1 H3 : Hp} {o : HO} (e : Sm (msk a a H1) (msk a a H3)) (n : H1 D = none) : Sm (msk a a H1) (msk a a (upd H3 D o)) := fun b u hb => by
  obtain ⟨h1, n1, n2⟩ := msk_some hb
  rw [msk_ne n1 n2, upd_ne (ne_of_none h1 n)]
  exact (msk_some (e b u hb)).1
theorem box_put {a D : Addr} {H : Hp} {o : HO} (h : BoxAt H a) (n : D ≠ a) : BoxAt (upd H D o) a := by
  obtain ⟨x, y, z⟩ := h
  exact ⟨x, y, by rw [upd_ne (Ne.symm n)]; exact z.ha, z.p0, z.p1, z.b1⟩
section
variable {P : Program} {w : World} {K : PySem.W.Frag} {mg : Str → Option Value} {base : Heap} {CI C KE CT : Addr}
abbrev s_some : Stmt := topS 19
abbrev n_some : List Str := ["_law_box", "_law_low", "_law_high", "_law_found", "_law_k"]
abbrev p_some : List Str := ["_law_box", "_law_low", "_law_high"]
theorem sc_some : FnScope n_some p_some (defScope s_some) := ⟨rfl, rfl, rfl, by decide +kernel, rfl, by decide +kernel, by decide +kernel⟩
def spSome (K : PySem.W.Frag) (C : Addr) : Sp := fun vs H Q _ => ∃ (a : Addr) (lo hi : Int), vs = [.ref a, .int lo, .int hi] ∧ BoxAt H a ∧ 0 ≤ lo ∧ lo ≤ 1 ∧ 0 ≤ hi ∧ hi ≤ 5 ∧
  ∀ v d H', BoxAt H' a → Sm (msk a a H) (msk a a H') → AV K C (msk a a H') v d → FinA d → Q v H'
/-- the nine odd ones -/
theorem ok_some {f fI : Addr} {fd fdI : FuncData} (F : Fun K "_law_some" "_law_some" s_some f fd) (T : Bt mg) (gC : mg "Line" = some (.ref C)) (M : Mk K C fI) (FI : FnOk P w K mg base (L2.CX P w) 3 fI fdI p_ini (spIni K CI C)) (b1 : Binds K fdI p_ini [.none, .none])
    (Ct : Cal P w K mg base 1 "_law_take" spTake []) (Cp : Cal P w K mg base 2 "_law_pick" (spPick K) []) : FnOk P w K mg base CX0 5 f fd p_some (spSome K C) := by
  refine F.ok sc_some (fun vs H Q E h => ?_) (fun cdv A outer s H vs Q E hr h => ?_)
  · obtain ⟨a, lo, hi, rfl, _⟩ := h
    rfl
  · obtain ⟨a, lo, hi, rfl, hB, l0, l1, h0, h5, q⟩ := h
    refine ⟨_, (pss_cons (ps_setLc (i := 3) (own := [("_law_k", 4)]) (tt := tYes) (by rfl) sc_some.nd rfl rfl (sw_true rfl rfl rfl (by decide +kernel)) (pi_range1 rfl T.n_range (pa_cons (pe_c Ct hr (by decide) (by rfl) (pa_cons (pv 0) (pa_cons (pe_op op_add (pv 2) pe_int) pa_nil))) pa_nil)) (blkOk_by (N := n_some) (sc := defScope s_some) (own := [("_law_k", 4)]) (by decide +kernel)) (fun _ _ _ _ _ => pg_name (i := 4) sc_some.nd rfl (Or.inl rfl)) (fun _ _ _ _ _ => pts_nil) (fun _ _ _ _ _ => (pe_op op_add (pv 1) (pe_c Ct hr (by decide) (by rfl) (pa_cons (pv 0) (pa_cons (pe_op op_add (pe_op op_sub (pv 2) (pv 1)) pe_int) pa_nil))))))
      (pss_cons (ps_if (pt_cmpR op_eq (pe_c Ct hr (by decide) (by rfl) (pa_cons (pv 0) (pa_cons pe_int pa_nil))) pe_int (nomark _))
        (pss_one (ps_ret (pe_c Cp hr (by decide) (by rfl) (pa_cons (pv 0) (pa_cons (pe_lst (pa_cons pe_non (pa_cons pe_non (pa_cons pe_str (pa_cons pe_int (pa_cons (pe_lst (pa_cons pe_non pa_nil)) (pa_cons (pe_lst (pa_cons pe_bl pa_nil)) (pa_cons (pe_lst (pa_cons (pe_tup (pa_cons pe_int pa_nil)) pa_nil)) (pa_cons (pe_lst (pa_cons (pe_op op_sub pe_int pe_int) pa_nil)) (pa_cons (pe_make M FI hr (by rfl) gC b1 (show Vals [V.non, .non] [Value.none, .none] from .cons rfl (.cons rfl .nil)) passF (pa_cons pe_int pa_nil)) pa_nil)))))))))) pa_nil)))))
        pss_nil)
      (pss_one (ps_ret (pe_ifExp (pt_cmpR op_eq (pe_c Ct hr (by decide) (by rfl) (pa_cons (pv 0) (pa_cons pe_int pa_nil))) pe_int (nomark _)) (pe_callTy call_tuple_of (by rfl) T.n_tuple (by decide +kernel) (pa_cons (pv 3) pa_nil)) (pv 3)))))), ?_⟩
    refine ⟨_, rfl, _, rfl, hi, 3, rfl, rfl, a, hi + 3, rfl, hB, by omega, by omega, fun m H1 m0 m1 B1 e1 => ⟨m, rfl, by omega, by omega, fun D hD => ?_⟩⟩
    have hDa := B1.newNe hD
    refine lc_range (lo := 0) (n := m.toNat) (fun i H2 => BoxAt H2 a ∧ Sm (msk a a H1) (msk a a H2) ∧ ∃ acc : List Int, H2 D = some (.lst (acc.map V.int)) ∧ acc.length = i) ⟨B1.sm (Sm.new hD), msk_new hD, [], upd_same, rfl⟩ ?_ ?_
    · rintro i H2 hi' ⟨B2, e2, acc, ea, la⟩
      refine ⟨rfl, _, rfl, _, rfl, _, rfl, _, rfl, hi, lo, rfl, rfl, _, 2, rfl, rfl, a, hi - lo + 2, rfl, B2, by omega, by omega, fun r H3 r0 r1 B3 e3 => ?_⟩
      have eD : H3 D = some (.lst (acc.map V.int)) := by
        have z := e3 D _ (by rw [msk_ne hDa hDa]; exact ea)
        exact (msk_some z).1
      refine ⟨lo, r, rfl, rfl, _, eD, small1000 (by rw [List.length_map]; omega), ?_, ?_, acc ++ [lo + r], by rw [upd_same, List.map_append]; rfl, by rw [List.length_append, List.length_singleton, la]⟩
      · exact box_put B3 hDa
      · exact msk_put (e2.trans e3) hD
    · rintro H2 ⟨B2, e2, acc, ea, la⟩
      have eDm : msk a a H2 D = some (.lst (acc.map V.int)) := by
        rw [msk_ne hDa hDa]
        exact ea
      have e12 : Sm (msk a a H) (msk a a H2) := e1.trans e2
      have lacc : acc.length ≤ 40 := by omega
      refine ⟨_, rfl, a, 7, rfl, B2, by decide, by decide, fun r H3 r0 r1 B3 e3 => ⟨rfl, _, rfl, iteB (fun hb => ?_) (fun hb => ?_)⟩⟩
      · refine ⟨_, rfl, (show 1 ≤ sizeLine by decide), fun o1 h1 => ⟨(show 1 ≤ sizeLine by decide), fun o2 h2 => ⟨(show 1 ≤ sizeLine by decide), fun o3 h3 => ⟨(show 1 ≤ sizeLine by decide), fun o4 h4 => ⟨0, 1, rfl, rfl, (show 1 ≤ sizeLine by decide), fun o5 h5 => fun x dx nx nd ne => ?_⟩⟩⟩⟩⟩
        have n1 : o1 ≠ a := B3.newNe h1
        have c1 : upd H3 o1 (.lst [V.non]) o1 = some (.lst [V.non]) := upd_same
        have y1 : Sm H3 (upd H3 o1 (.lst [V.non])) := Sm.new h1
        generalize upd H3 o1 (.lst [V.non]) = G1 at c1 y1 h2 h3 h4 h5 nx nd ⊢
        have n2 : o2 ≠ a := (B3.sm y1).newNe h2
        have c2 : upd G1 o2 (.lst [V.bl true]) o2 = some (.lst [V.bl true]) := upd_same
        have y2 : Sm G1 (upd G1 o2 (.lst [V.bl true])) := Sm.new h2
        generalize upd G1 o2 (.lst [V.bl true]) = G2 at c2 y2 h3 h4 h5 nx nd ⊢
        have z2 := y1.trans y2
        have n3 : o3 ≠ a := (B3.sm z2).newNe h3
        have c3 : upd G2 o3 (.tup [V.int 1]) o3 = some (.tup [V.int 1]) := upd_same
        have y3 : Sm G2 (upd G2 o3 (.tup [V.int 1])) := Sm.new h3
        generalize upd G2 o3 (.tup [V.int 1]) = G3 at c3 y3 h4 h5 nx nd ⊢
        have z3 := z2.trans y3
        have n4 : o4 ≠ a := (B3.sm z3).newNe h4
        have c4 : upd G3 o4 (.lst [V.ref o3]) o4 = some (.lst [V.ref o3]) := upd_same
        have y4 : Sm G3 (upd G3 o4 (.lst [V.ref o3])) := Sm.new h4
        generalize upd G3 o4 (.lst [V.ref o3]) = G4 at c4 y4 h5 nx nd ⊢
        have z4 := z3.trans y4
        have n5 : o5 ≠ a := (B3.sm z4).newNe h5
        have c5 : upd G4 o5 (.lst [V.int (-1)]) o5 = some (.lst [V.int (-1)]) := upd_same
        have y5 : Sm G4 (upd G4 o5 (.lst [V.int (-1)])) := Sm.new h5
        have z5 := z4.trans y5
        change upd G4 o5 (.lst [V.int (-1)]) x = none at nx
        change upd G4 o5 (.lst [V.int (-1)]) dx = none at nd
        show spIni K CI C [.ref x, .int 2, .non, .non] (upd (upd (upd G4 o5 (.lst [V.int (-1)])) dx (.own x)) x (.ins C dx [])) _ _
        generalize upd G4 o5 (.lst [V.int (-1)]) = G5 at c5 y5 z5 nx nd ⊢
        have n6 : x ≠ a := (B3.sm z5).newNe nx
        refine ini_good nx nd ne (.dat (.int 2)) (.dat .non) (.dat .non) (fin_int (by decide)) fin_none fin_none rfl (due_nn (by decide)) (fun G sG LG => ⟨(show 9 ≤ sizeLine by decide), fun l hl => ?_⟩)
        have n7 : l ≠ a := ((B3.sm z5).sm sG).newNe hl
        have yl : Sm G (upd G l (.lst [V.non, .non, .str (Str.ofString "12"), .int 3, .ref o1, .ref o2, .ref o4, .ref o5, .ref x])) := Sm.new hl
        have zl := z5.trans (sG.trans yl)
        have cl : upd G l (.lst [V.non, .non, .str (Str.ofString "12"), .int 3, .ref o1, .ref o2, .ref o4, .ref o5, .ref x]) l = some (.lst [V.non, .non, .str (Str.ofString "12"), .int 3, .ref o1, .ref o2, .ref o4, .ref o5, .ref x]) := upd_same
        have d5 := (sG.trans yl) _ _ c5
        have d4 := (y5.trans (sG.trans yl)) _ _ c4
        have d3 := ((y4.trans y5).trans (sG.trans yl)) _ _ c3
        have d2 := (((y3.trans y4).trans y5).trans (sG.trans yl)) _ _ c2
        have d1 := ((((y2.trans y3).trans y4).trans y5).trans (sG.trans yl)) _ _ c1
        have LG' := LG.sm yl
        refine ⟨a, l, _, rfl, B3.sm zl, .inl (.inl (by rw [msk_ne n7 n7]; exact cl)), (by show 0 < 9; decide), (by show 9 ≤ 1000; decide), fun j v H' hj B' e' => ?_⟩
        have tot : Sm (msk a a H) (msk a a H') := ((e12.trans e3).trans (zl.msk)).trans e'
        have fin : ∀ d, AV K C (msk a a (upd G l (.lst [V.non, .non, .str (Str.ofString "12"), .int 3, .ref o1, .ref o2, .ref o4, .ref o5, .ref x]))) v d → FinA d → Q v H' := fun d h1 h2 => q v d H' B' tot (h1.sm e') h2
        generalize upd G l (.lst [V.non, .non, .str (Str.ofString "12"), .int 3, .ref o1, .ref o2, .ref o4, .ref o5, .ref x]) = G9 at d1 d2 d3 d4 d5 LG' fin
        have at_ : ∀ {o : Addr} {u : HO}, o ≠ a → G9 o = some u → msk a a G9 o = some u := fun n h => by rw [msk_ne n n]; exact h
        rcases j with _ | _ | _ | _ | _ | _ | _ | _ | _ | j
        · cases hj
          exact fin _ (.dat .non) fin_none
        · cases hj
          exact fin _ (.dat .non) fin_none
        · cases hj
          exact fin _ (.dat (.str _)) (fin_str _)
        · cases hj
          exact fin _ (.dat (.int _)) (fin_int (by decide))
        · cases hj
          exact fin _ (.dat (.lst (.inl (.inl (at_ n1 d1))) (.cons .non .nil))) (fin_list (by decide) (fun y hy => by rw [List.mem_singleton.mp hy]; exact ⟨rfl, by decide⟩))
        · cases hj
          exact fin _ (.dat (.lst (.inl (.inl (at_ n2 d2))) (.cons (.bl true) .nil))) (fin_list (by decide) (fun y hy => by rw [List.mem_singleton.mp hy]; exact ⟨rfl, by decide⟩))
        · cases hj
          exact fin _ (.dat (.lst (.inl (.inl (at_ n4 d4))) (.cons (.tup (.inl (.inl (at_ n3 d3))) (.cons (.int 1) .nil)) .nil))) (fin_list (by decide) (fun y hy => by rw [List.mem_singleton.mp hy]; exact ⟨rfl, by decide⟩))
        · cases hj
          exact fin _ (.dat (.lst (.inl (.inl (at_ n5 d5))) (.cons (.int (-1)) .nil))) (fin_list (by decide) (fun y hy => by rw [List.mem_singleton.mp hy]; exact ⟨rfl, by decide⟩))
        · cases hj
          obtain ⟨dx', tg, te, f1, _, _⟩ := LG'.ex
          exact fin none (.obj (at_ n6 f1)) fin_obj
        · cases hj
      · have e13 := e12.trans e3
        have eD3 := e3 _ _ eDm
        refine ⟨_, rfl, a, 2, rfl, B3, by decide, by decide, fun r2 H4 _ _ B4 e4 => ⟨rfl, _, rfl, iteB (fun hc => ?_) (fun hc => ?_)⟩⟩
        · have eD4 := e4 _ _ eD3
          refine ⟨_, rfl, D, _, rfl, .inl ⟨.inl (.inl (msk_some eD4).1), fun t ht => ?_⟩⟩
          have nt := B4.newNe ht
          refine q _ (some (.tuple (acc.map .int))) _ (B4.sm (Sm.new ht)) ((e13.trans e4).trans (Sm.new ht).msk) (.dat (.tup (.inl (.inl (by rw [msk_ne nt nt]; exact upd_same))) (dpAll_ints _))) (fin_tup (by rw [List.length_map]; exact lacc) (lay_ints _))
        · exact ⟨_, rfl, q _ (some (.list (acc.map .int))) H4 B4 (e13.trans e4) (.dat (.lst (.inl (.inl (e4 _ _ eD3))) (dpAll_ints _))) (fin_list (by rw [List.length_map]; exact lacc) (lay_ints _))⟩
end
end Z
set_option Elab.async false
set_option linter.all false
set_option maxRecDepth 100000
set_option maxHeartbeats 4000000
set_option autoImplicit false
namespace Z
open PySem PySem.Spec PyProof.Rows L2
open C8 (Cal pe_c Mak pe_mk Met pe_mt pe_mt0 pe_gc tCut pss_cut)
/-- a comprehension over a range with a step -/
theorem lc_rngC {lo c : Int} {n : Nat} {g : TG} {tt : TT} {te : TE} {vs : List Nat} {σ : L2.St} {H1 : Hp} {D : Addr} {Qd : Hp → Prop} (Pv : Nat → Hp → Prop) (start : Pv 0 (upd H1 D (.lst [])))
    (turn : ∀ i H, i < n → Pv i H → g (.int (lo + (i : Nat) * c)) (wipe σ vs) H fun σ2 H2 => wipe σ2 vs = wipe σ vs ∧ tt σ2 H2 fun b H3 =>
      if b = true then te σ2 H3 fun y H4 => ∃ acc, H4 D = some (.lst acc) ∧ acc.length < sizeLine ∧ Pv (i + 1) (upd H4 D (.lst (acc ++ [y]))) else Pv (i + 1) H3) (after : ∀ H, Pv n H → Qd H) :
    ∃ W : Nat → Nat → Hp → Prop, (∃ m, W 0 m (upd H1 D (.lst []))) ∧ ∀ i m H, W i m H →
      ((Itc lo c n).stop i H ∧ Qd H) ∨ ((Itc lo c n).go i H ∧ ∃ Nx : Hp → Prop, (∀ H', Nx H' → ∃ m', m' < m ∧ W (i + 1) m' H') ∧ ∀ x H', (Itc lo c n).yld i H x H' → g x (wipe σ vs) H' fun σ2 H2 => wipe σ2 vs = wipe σ vs ∧ tt σ2 H2 fun b H3 =>
        if b = true then te σ2 H3 fun y H4 => ∃ acc, H4 D = some (.lst acc) ∧ acc.length < sizeLine ∧ Nx (upd H4 D (.lst (acc ++ [y]))) else Nx H3) := by
  refine ⟨fun i m H => m + i = n ∧ Pv i H, ⟨n, rfl, start⟩, fun i m H h => ?_⟩
  obtain ⟨e, p⟩ := h
  rcases Nat.lt_or_ge i n with lt | ge
  · refine .inr ⟨lt, Pv (i + 1), fun H' p' => ⟨m - 1, by omega, by omega, p'⟩, fun x H' y => ?_⟩
    obtain ⟨rfl, rfl⟩ := y
    exact turn i _ lt p
  · obtain rfl : i = n := by omega
    exact .inl ⟨Nat.le_refl _, after H p⟩
section
variable {P : Program} {w : World} {K : PySem.W.Frag} {mg : Str → Option Value} {base : Heap} {CI C KE CT : Addr}
abbrev s_edg : Stmt := topS 23
abbrev n_edg : List Str := ["_law_box", "_law_size", "_law_goes", "_law_known_goes", "_law_k"]
abbrev p_edg : List Str := ["_law_box", "_law_size", "_law_goes"]
theorem sc_edg : FnScope n_edg p_edg (defScope s_edg) := ⟨rfl, rfl, rfl, by decide +kernel, rfl, by decide +kernel, by decide +kernel⟩
def spEdg (K : PySem.W.Frag) (C : Addr) : Sp := fun vs H Q _ => ∃ (a : Addr) (n : Int) (vg : V) (g : Option PyData), vs = [.ref a, .int n, vg] ∧ BoxAt H a ∧ 0 ≤ n ∧ n ≤ 5 ∧ AV K C (msk a a H) vg g ∧ FinA g ∧
  ∀ v d H', BoxAt H' a → Sm (msk a a H) (msk a a H') → AV K C (msk a a H') v d → FinA d → Q v H'
theorem ok_edg {f : Addr} {fd : FuncData} (F : Fun K "_law_edges" "_law_edges" s_edg f fd) (T : Bt mg)
    (Ct : Cal P w K mg base 1 "_law_take" spTake []) (Cs : Cal P w K mg base 5 "_law_some" (spSome K C) []) (Cg : Cal P w K mg base 1 "_law_is_good" (spGood K C) []) : FnOk P w K mg base CX0 6 f fd p_edg (spEdg K C) := by
  refine F.ok sc_edg (fun vs H Q E h => ?_) (fun cdv A outer s H vs Q E hr h => ?_)
  · obtain ⟨a, n, vg, g, rfl, _⟩ := h
    rfl
  · obtain ⟨a, n, vg, g, rfl, hB, n0, n5, hg, Fg, q⟩ := h
    refine ⟨_, (pss_cons (ps_if (pt_cmpR op_eq (pe_c Ct hr (by decide) (by rfl) (pa_cons (pv 0) (pa_cons pe_int pa_nil))) pe_int (nomark _))
        (pss_one (ps_ret (pe_c Cs hr (by decide) (by rfl) (pa_cons (pv 0) (pa_cons pe_int (pa_cons (pv 1) pa_nil))))))
        pss_nil)
      (pss_cut (ps_set (i := 3) sc_edg.nd rfl (Or.inr rfl) (pe_ifExp ((pw_or (pt_cmpR op_isN (pv 2) pe_non (nomark _)) (pw_or1 (pt_not (pt_val (pe_c Cg hr (by decide) (by rfl) (pa_cons (pv 2) (pa_cons pe_int (pa_cons (pv 1) pa_nil))))))))).pt (pe_listRg rfl (by rfl) T.n_list (prg_1 (by rfl) T.n_range (pe_op op_add (pv 1) pe_int))) (pe_callTy call_list_of (by rfl) T.n_list (by decide +kernel) (pa_cons (pv 2) pa_nil))))
      (pss_one (ps_ret (pe_lc (own := [("_law_k", 4)]) (by rfl) sc_edg.nd (pi_range3 rfl T.n_range (pa_cons (pv 1) (pa_cons pe_int (pa_cons (pe_op op_sub pe_int pe_int) pa_nil)))) (blkOk_by (N := n_edg) (sc := defScope s_edg) (own := [("_law_k", 4)]) (by decide +kernel)) (fun _ _ _ _ _ => pg_name (i := 4) sc_edg.nd rfl (Or.inl rfl)) (fun _ _ _ _ _ => (pts_one ((pw_and (pt_cmpR (op_in_seqK K) (pv 4) (pv 3) rfl) (pw_and (pt_cmpR (op_in_seqK K) (pe_op op_sub (pv 4) pe_int) (pv 3) rfl) (pw_and1 (pt_cmpR op_gt (pe_c Ct hr (by decide) (by rfl) (pa_cons (pv 0) (pa_cons pe_int pa_nil))) pe_int (nomark _)))))).pt)) (fun _ _ _ _ _ => (pv 4))))))), ?_⟩
    refine ⟨_, rfl, a, 3, rfl, hB, by decide, by decide, fun r H1 _ _ B1 e1 => ⟨rfl, _, rfl, iteB (fun hb => ?_) (fun hb => ?_)⟩⟩
    · exact ⟨_, rfl, _, rfl, a, 1, n, rfl, B1, by decide, by decide, n0, n5, fun v d H' B' e' hv hF => q v d H' B' (e1.trans e') hv hF⟩
    · refine ⟨fun σ H2 => BoxAt H2 a ∧ Sm (msk a a H) (msk a a H2) ∧ ∃ (l : Addr) (ks : List Int), σ = [some (.ref a), some (.int n), some vg, some (.ref l), none] ∧ msk a a H2 l = some (.lst (ks.map V.int)), ?_, ?_⟩
      · have range : ∀ H2, Sm H1 H2 → ∀ l, H2 l = none → (BoxAt (upd H2 l (.lst (rgV 0 (n + 1)))) a ∧ Sm (msk a a H) (msk a a (upd H2 l (.lst (rgV 0 (n + 1))))) ∧ ∃ (l' : Addr) (ks : List Int), [some (V.ref a), some (.int n), some vg, some (.ref l), none] = [some (.ref a), some (.int n), some vg, some (.ref l'), none] ∧
            msk a a (upd H2 l (.lst (rgV 0 (n + 1)))) l' = some (.lst (ks.map V.int))) := fun H2 s2 l hl => by
          have nl := (B1.sm s2).newNe hl
          exact ⟨(B1.sm s2).sm (Sm.new hl), (e1.trans s2.msk).trans (Sm.new hl).msk, l, upto 0 n, rfl, by rw [msk_ne nl nl, upd_same, rgV_upto, show n + 1 - 1 = n by omega]⟩
        refine ⟨_, rfl, rfl, _, rfl, iteB (fun hc => ?_) (fun hc => ?_)⟩
        · exact ⟨_, rfl, n, 1, rfl, rfl, _, rfl, RgOk.of_le (by decide) (by omega) (by decide) (by omega), fun l hl => range H1 (Sm.refl _) l hl⟩
        · have hg1 := av_msk (hg.sm e1)
          refine ⟨_, rfl, _, rfl, vg, g, 0, n, rfl, hg1, Fg, fun H2 s2 => ⟨_, rfl, iteB (fun hd => ?_) (fun hd => ?_)⟩⟩
          · exact ⟨_, rfl, n, 1, rfl, rfl, _, rfl, RgOk.of_le (by decide) (by omega) (by decide) (by omega), fun l hl => range H2 s2 l hl⟩
          · have hf : fromB 0 n g = true := by simpa using hd
            obtain ⟨lg, rfl, hS, _⟩ := from_seq (hg1.sm s2) hf
            refine ⟨_, rfl, lg, _, rfl, hS, fun l hl => ?_⟩
            have nl := (B1.sm s2).newNe hl
            exact ⟨(B1.sm s2).sm (Sm.new hl), (e1.trans s2.msk).trans (Sm.new hl).msk, l, intsA g, rfl, by rw [msk_ne nl nl, upd_same]⟩
      · rintro σ H2 ⟨B2, e2, l, ks, rfl, el⟩
        refine ⟨_, rfl, 0, 1, rfl, rfl, n, 0, -1, n.toNat, rfl, ?_, fun D hD => ?_⟩
        · have := RgC.neg (i := n) (j := 0) (by omega) (by omega) (by omega) (by omega)
          rw [Int.sub_zero] at this
          exact this
        have hDa := B2.newNe hD
        have hDm : msk a a H2 D = none := by rw [msk_ne hDa hDa]; exact hD
        refine lc_rngC (lo := n) (c := -1) (n := n.toNat) (fun i H3 => BoxAt H3 a ∧ Sm (msk a a H2) (msk a a H3) ∧ ∃ acc : List Int, msk a a H3 D = some (.lst (acc.map V.int)) ∧ acc.length ≤ i) ⟨B2.sm (Sm.new hD), msk_new hD, [], by rw [msk_ne hDa hDa]; exact upd_same, Nat.le_refl _⟩ ?_ ?_
        · rintro i H3 hi ⟨B3, e3, acc, ea, la⟩
          have sq : ∀ {H'}, Sm (msk a a H2) (msk a a H') → SqL K H' l (ks.map V.int) := fun e => .inl (.inl (msk_some (e _ _ el)).1)
          refine ⟨rfl, _, rfl, _, rfl, l, _, rfl, .inl (sq e3), rfl, flat_ints _, _, rfl, iteB (fun h1 => ?_) (fun h1 => ?_)⟩
          · refine ⟨_, rfl, _, 1, rfl, rfl, _, rfl, l, _, rfl, .inl (sq e3), rfl, flat_ints _, _, rfl, iteB (fun h2 => ?_) (fun h2 => ?_)⟩
            · refine ⟨_, rfl, a, 3, rfl, B3, by decide, by decide, fun r H4 _ _ B4 e4 => ⟨_, 0, rfl, rfl, _, rfl, iteB (fun h3 => ⟨_, rfl, acc.map V.int, (msk_some (e4 _ _ ea)).1, small1000 (by rw [List.length_map]; omega), box_put B4 hDa, msk_put (e3.trans e4) hD, acc ++ [n + (i : Int) * -1], ?_, ?_⟩) (fun h3 => ⟨B4, e3.trans e4, acc, e4 _ _ ea, by omega⟩)⟩⟩
              · rw [msk_ne hDa hDa, upd_same, List.map_append]
                rfl
              · rw [List.length_append, List.length_singleton]
                omega
            · exact ite0 rfl ⟨B3, e3, acc, ea, by omega⟩
          · exact ite0 rfl ⟨B3, e3, acc, ea, by omega⟩
        · rintro H3 ⟨B3, e3, acc, ea, la⟩
          exact q _ (some (.list (acc.map .int))) H3 B3 (e2.trans e3) (.dat (.lst (.inl (.inl ea)) (dpAll_ints _))) (fin_list (by rw [List.length_map]; omega) (lay_ints _))
end
end Z
set_option Elab.async false
set_option linter.all false
set_option maxRecDepth 100000
set_option maxHeartbeats 4000000
set_option autoImplicit false
/-! repr of plain data, where no repr is under way -/
namespace Z
open PySem PySem.Spec PyProof.Rows L2
structure Pl (n W : Nat) (d : PyData) : Prop where
  sh : d.showable = true
  nd : d.hasDict = false
  ls : d.leavesShort 32 = true
  dp : d.depth ≤ n
  wt : d.weight ≤ W
  cl : d.canLay0 = true
theorem Pl.mono {n m W U : Nat} {d : PyData} (h : Pl n W d) (a : n ≤ m) (b : W ≤ U) : Pl m U d :=
  ⟨h.sh, h.nd, h.ls, Nat.le_trans h.dp a, Nat.le_trans h.wt b, h.cl⟩
theorem Pl.all {n W : Nat} : ∀ {ds : List PyData}, (∀ d ∈ ds, Pl n W d) →
    PyData.showableAll ds = true ∧ PyData.hasDictAll ds = false ∧ PyData.leavesShortAll 32 ds = true ∧ PyData.depthAll ds ≤ n ∧
      PyData.weightAll ds ≤ (W + 1) * ds.length ∧ PyData.canLayAll0 ds = true
  | [], _ => by simp [PyData.showableAll, PyData.hasDictAll, PyData.leavesShortAll, PyData.depthAll, PyData.weightAll, PyData.canLayAll0]
  | d :: ds, h => by
    have a := h d (by simp)
    obtain ⟨b1, b2, b3, b4, b5, b6⟩ := Pl.all (ds := ds) fun e he => h e (by simp [he])
    have w := a.wt
    have p := a.dp
    refine ⟨by simp [PyData.showableAll, a.sh, b1], by simp [PyData.hasDictAll, a.nd, b2], by simp [PyData.leavesShortAll, a.ls, b3], ?_, ?_, by simp [PyData.canLayAll0, a.cl, b6]⟩
    · show max d.depth (PyData.depthAll ds) ≤ n
      omega
    · show d.weight + 1 + PyData.weightAll ds ≤ (W + 1) * (ds.length + 1)
      rw [Nat.mul_add]
      omega
theorem Pl.list {n W : Nat} {ds : List PyData} (h : ∀ d ∈ ds, Pl n W d) : Pl (n + 1) ((W + 1) * ds.length) (.list ds) := by
  obtain ⟨b1, b2, b3, b4, b5, b6⟩ := Pl.all h
  exact ⟨b1, b2, b3, Nat.succ_le_succ b4, b5, b6⟩
theorem Pl.tuple {n W : Nat} {ds : List PyData} (h : ∀ d ∈ ds, Pl n W d) : Pl (n + 1) ((W + 1) * ds.length) (.tuple ds) := by
  obtain ⟨b1, b2, b3, b4, b5, b6⟩ := Pl.all h
  exact ⟨b1, b2, b3, Nat.succ_le_succ b4, b5, b6⟩
theorem Pl.fits {n W : Nat} {d : PyData} (h : Pl n W d) (w : W ≤ 400000) : d.shown.length ≤ sizeLine := by
  have z := PyData.shown_le 32 (by decide) d h.ls
  have y := h.wt
  rw [sizeLine_eq]
  omega
theorem call_repr_pl {X : Cx} (hg : X.A.guards = some []) (hu : X.A.units + 64 < cLine) :
    CallR X (.builtin "repr") (fun xs H Q => ∃ v d, xs = [v] ∧ Dp X.K H v d ∧ Pl 40 400000 d ∧ Q (.str d.shown) H) := by
  intro pins s σ H xs us Q I r h
  obtain ⟨v, d, rfl, hd, pl, q⟩ := h
  obtain ⟨u, rfl, ru⟩ := vals1 r
  have fit := pl.fits (Nat.le_refl _)
  cases hd with
  | non =>
    cases ru
    exact PySem.P.repr_of_none ⟨.str "None", H, I.tok _, ⟨_, rfl⟩, q⟩
  | bl b =>
    cases ru
    exact PySem.P.repr_of_bool ⟨.str (if b then "True" else "False"), H, I.tok _, ⟨_, rfl⟩, q⟩
  | int i =>
    obtain ⟨t, rfl⟩ := ru
    have hz : i.natAbs.log2 < 1920 := of_decide_eq_true pl.sh
    exact PySem.P.repr_of_int hz ⟨.str (toString i), H, I.tok _, ⟨_, rfl⟩, q⟩
  | str x =>
    obtain ⟨t, rfl⟩ := ru
    exact PySem.P.repr_of_str ⟨.str (reprText x), H, I.tok _, ⟨_, rfl⟩, q⟩ fit
  | lst hs ha =>
    cases ru
    have hd : Dp X.K H (.ref _) (.list _) := .lst hs ha
    obtain ⟨as, hr⟩ := Dp.reads I _ _ _ hd rfl
    refine repr_of_reads' hr pl.sh (PyData.noDict_hsm pl.nd) hg (by have := pl.dp; omega) (fun _ _ e => e) (fun h' u tk hk => ?_) fit
    exact ⟨.str _, H, I.kept hk, ⟨_, rfl⟩, q⟩
  | tup hs ha =>
    cases ru
    have hd : Dp X.K H (.ref _) (.tuple _) := .tup hs ha
    obtain ⟨as, hr⟩ := Dp.reads I _ _ _ hd rfl
    refine repr_of_reads' hr pl.sh (PyData.noDict_hsm pl.nd) hg (by have := pl.dp; omega) (fun _ _ e => e) (fun h' u tk hk => ?_) fit
    exact ⟨.str _, H, I.kept hk, ⟨_, rfl⟩, q⟩
end Z
set_option Elab.async false
set_option linter.all false
set_option maxRecDepth 100000
set_option maxHeartbeats 4000000
set_option autoImplicit false
namespace Z
open PySem PySem.Spec PyProof.Rows L2
/-- repr(e) of plain data -/
def tRepr (K : PySem.W.Frag) (te : TE) : TE := tCB (fun xs H Q => ∃ v d, xs = [v] ∧ Dp K H v d ∧ Pl 40 400000 d ∧ Q (V.str d.shown) H) (tCons te tNil)
theorem pe_reprP {X : Cx} (K : PySem.W.Frag) {e : Expr} {te : TE} {p pos : Pos} (hg : X.A.guards = some []) (hu : X.A.units + 64 < cLine) (g : Gl X "repr") (hm : X.mg "repr" = none) (he : PE X e te)
    (hs : starEach (e :: []) X.env = (false, eval e X.env) :: starEach [] X.env := by rfl) (hK : X.K = K := by rfl) : PE X (.Call (.Name "repr" p) [e] [] pos) (tRepr K te) := by
  subst hK
  exact pe_callB (he := hs) (call_repr_pl hg hu) g hm (by decide +kernel) (pa_cons he pa_nil hs)
theorem pl_nat {k : Nat} (h : k ≤ 40) : Pl 1 70 (.int (k : Int)) := by
  have z : ∀ k : Fin 41, ((PyData.int (k.val : Int)).showable && (!(PyData.int (k.val : Int)).hasDict && ((PyData.int (k.val : Int)).leavesShort 32 && (decide ((PyData.int (k.val : Int)).depth ≤ 1) && (decide ((PyData.int (k.val : Int)).weight ≤ 70) && (PyData.int (k.val : Int)).canLay0))))) = true := by decide +kernel
  have y := z ⟨k, by omega⟩
  simp only [Bool.and_eq_true, decide_eq_true_eq, Bool.not_eq_true'] at y
  obtain ⟨y1, y2, y3, y4, y5, y6⟩ := y
  exact ⟨y1, y2, y3, y4, y5, y6⟩
theorem pl_ints {l : List Int} (h : ∀ x ∈ l, 0 ≤ x ∧ x ≤ 40) : ∀ d ∈ l.map PyData.int, Pl 1 70 d := fun d hd => by
  obtain ⟨x, hx, rfl⟩ := List.mem_map.mp hd
  obtain ⟨h1, h2⟩ := h x hx
  obtain ⟨k, rfl⟩ := Int.eq_ofNat_of_zero_le h1
  exact pl_nat (by omega)
end Z
set_option Elab.async false
set_option linter.all false
set_option maxRecDepth 100000
set_option maxHeartbeats 4000000
set_option autoImplicit false
/-! A law whose body asks repr: its end, where it is known that no repr is under way. -/
namespace L2
open PySem PySem.Spec PyProof.Rows
/-- a def's promise where no display is under way -/
structure FnG (P : Program) (w : World) (K : PySem.W.Frag) (mg : Str → Option Value) (base : Heap) (k : Nat) (f : Addr) (fd : FuncData) (ps : List Str) (sp : Sp) : Prop where
  run : ∀ (A : Around) (outer : List Env) (s : Shared) (H : Hp) (args : Args) (us : List Value) (vs : List V) (Q : VK), A.guards = some [] → Room k A →
    Env0 P w K mg base A outer s H → BindsTo s fd args (ps.zip us) → Vals vs us → sp vs H Q (fun _ _ _ => False) →
    codeAny (model P w) A (.call (.ref f) args) (CR CX0 outer P w H s Q (fun _ _ _ => False)) s
section
variable {P : Program} {w : World} {K : PySem.W.Frag} {mg : Str → Option Value} {base : Heap}
theorem Fun.okG {x qual : Str} {st : Stmt} {f : Addr} {fd : FuncData} {N ps : List Str} {k : Nat} {sp : Sp} (F : Fun K x qual st f fd)
    (S : FnScope N ps (defScope st)) (len : ∀ vs H Q E, sp vs H Q E → vs.length = ps.length)
    (hbody : ∀ (cdv : Value) (A : Around) (outer : List Env) (s : Shared) (H : Hp) (vs : List V) (Q : VK) (E : XK), A.guards = some [] →
      Room k (A.deeper (envOfC qual (defScope st) s.heap.objs.size f cdv)) → sp vs H Q E →
      ∃ t, PSs (cxOf CX0 P w K mg base N qual (defScope st) f cdv A outer s H E).nox (defBody st) t ∧
        t { nx := fun _ H' => Q .non H', rt := Q } (start N vs) H) : FnG P w K mg base (k + 1) f fd ps sp := by
  obtain ⟨oc, od, kV, doc, pm, an, cdv, ct, osl, rfl, lk, hcd⟩ := F.ex
  refine ⟨fun A outer s H args us vs Q gd hr e0 hb r hsp => ?_⟩
  have hl := len _ _ _ _ hsp
  have inK : K.In s.heap := e0.mod.kin.keeps fun b o e => (e0.bs b o e).1
  have nl : s.heap.NoLimit := e0.mod.nolimit.keeps fun b o e => (e0.bs b o e).1
  have kinds : ∀ y ∈ ps.zip us, (defScope st).names.lookup y.1 = some .local ∨
      ((defScope st).names.lookup y.1 = some .cell ∧ ((cellsFrom (s.heap.objs.size + 1) (defScope st).names []).lookup y.1).isSome = true) := by
    rintro ⟨n, v⟩ hy
    cases S.par n (List.of_mem_zip hy).1 with
    | inl q => exact .inl q
    | inr q => exact .inr ⟨q, PySem.W.cellsFrom_some _ _ _ (.inl q)⟩
  refine codeAny_call_function hr.depth (inK _ _ lk) rfl S.co S.gen rfl (PySem.W.codeRec_of inK hcd) (hb _ _ _ _ ?_)
  refine wpAny_newFunctionEnv_cells S.kind kinds fun env he s1 x => ?_
  subst he
  refine ⟨nl.keeps x.toInCall.keep, codeAny_func ?_⟩
  obtain ⟨t, ht0, hq⟩ := hbody cdv A outer s H vs Q _ gd (hr.deeper _) hsp
  have ht := ht0.nox
  have I := inv_start S hr.hd e0 hl r x (CX := CX0) (E := fun _ _ _ => False)
  refine wpAny_mono (ht.run [] s1 (start N vs) H _ I hq) (fun fl s' hs => ?_) fun e s' hs => hs
  cases fl with
  | ret u =>
    obtain ⟨v, σ', H', J, rv, q⟩ := hs
    exact ⟨v, H', J.os, J.bare, J.base, J.hok, rv, q⟩
  | next =>
    obtain ⟨σ', H', J, q⟩ := hs
    exact ⟨V.non, H', J.os, J.bare, J.base, J.hok, rfl, q⟩
  | brk =>
    obtain ⟨_, _, _, q⟩ := hs
    exact False.elim q
  | cont =>
    obtain ⟨_, _, _, q⟩ := hs
    exact False.elim q
end

/-- the heap that the call finds: nothing is tracked but perhaps the script at a -/
structure Found (P : Program) (w : World) (K : PySem.W.Frag) (s : Shared) (a : Addr) (ns : List Int) (H : Hp) : Prop where
  only : Only H
  seq : SqL K H a (ns.map V.int)
  ok : HOk P w H s.heap
  at_ : ∀ b, H b ≠ none → b = a
  out : H a ≠ none → K.lookup a = none
theorem found_ex {P : Program} {w : World} {K : PySem.W.Frag} {s : Shared} {a : Addr} {vs : List Value} {ns : List Int} (KX : K.In s.heap)
    (ha : s.heap.get? a = some { cls := .type "list", data := .seq vs.toArray }) (hi : IntsAre vs ns) (hl : ns.length ≤ sizeLine) : ∃ H, Found P w K s a ns H := by
  have rv := vals_ints hi
  have len := hi.length
  cases e : K.lookup a with
  | some o =>
    have z := KX a o e
    rw [ha] at z
    cases z
    refine ⟨fun _ => none, fun _ => .inl rfl, .inr ⟨_, vs.toArray, _, e, rfl, rfl, rfl, ?_, by simpa using rv⟩, fun b u z => ?_, fun b z => absurd rfl z, fun z => absurd rfl z⟩
    · rw [List.size_toArray, len]
      exact hl
    · exact absurd z (by simp)
  | none =>
    let o : Obj := { cls := .type "list", data := .seq vs.toArray }
    let H : Hp := fun b => if b = a then some (.frz o (.lst (ns.map V.int))) else none
    have h1 : H a = some (.frz o (.lst (ns.map V.int))) := if_pos rfl
    have h2 : ∀ {b}, b ≠ a → H b = none := fun {b} hb => if_neg hb
    refine ⟨H, fun b => ?_, .inl (.inr ⟨o, h1⟩), fun b u z => ?_, fun b z => ?_, fun _ => e⟩
    · by_cases hb : b = a
      · rw [hb]
        exact .inr ⟨_, _, h1⟩
      · exact .inl (h2 hb)
    · by_cases hb : b = a
      · subst hb
        rw [h1] at z
        cases z
        exact ⟨ha, by rw [List.length_map]; exact hl, vs, _, rv, ha⟩
      · rw [h2 hb] at z
        cases z
    · by_cases hb : b = a
      · exact hb
      · exact absurd (h2 hb) z
/-- the law is called -/
theorem law_callG {P : Program} {w : World} {K : PySem.W.Frag} {mg mb : Str → Option Value} {k : Nat} {fa a : Addr} {fd : FuncData} {x : Str} {sp : Sp} {s : Shared} {vs : List Value} {ns : List Int}
    (KX : K.In s.heap) (hns : s.heap.Ns mainGlobals mg) (hb : s.heap.Ns builtinsNs mb) (hbb : ∀ x : Str, x ≠ "__name__" → mb x = bootBuiltins x)
    (hlim : s.heap.NoLimit) (hg : s.gens = #[]) (ha : s.heap.get? a = some { cls := .type "list", data := .seq vs.toArray }) (hi : IntsAre vs ns)
    (hl : ns.length ≤ sizeLine) (hr : Room k callerA) (F : ∀ base : Heap, K.In base → base.Ns mainGlobals mg → FnG P w K mg base k fa fd [x] sp)
    (hbind : ∀ (s : Shared) (u : Value), BindsTo s fd ⟨[u], []⟩ [(x, u)])
    (hsp : ∀ H : Hp, Only H → SqL K H a (ns.map V.int) → sp [.ref a] H (fun v _ => v = .bl true) fun _ _ _ => False) :
    codeAny (model P w) callerA (.call (.ref fa) ⟨[.ref a], []⟩)
      (fun r s' => r = .ok (.ret (.bool true)) ∧ OldK s.heap s'.heap ∧ s'.os = s.os ∧ AllBare s'.gens) s := by
  obtain ⟨H, fo⟩ := found_ex (P := P) (w := w) KX ha hi hl
  have isA : ∀ {b : Addr} {u : HO}, H b = some u → b = a := fun q => fo.at_ _ (by rw [q]; simp)
  have noDict : ∀ {b : Addr} {o : Obj} {es : Array DictEntry} {ep : Nat}, s.heap.get? b = some o → o.data = .dict es ep → H b = none := by
    intro b o es ep e d
    cases q : H b with
    | none => rfl
    | some u =>
      rw [isA q, ha] at e
      cases e
      cases (show Data.seq vs.toArray _ = Data.dict es ep from d)
  have spaces : ∀ {b : Addr} {m : Str → Option Value}, s.heap.Ns b m → (hidT s.heap H).Ns b m := by
    rintro b m ⟨o, es, ep, e, d, r⟩
    exact ⟨o, es, ep, hidT_get e (noDict e d), d, r⟩
  have inB : K.In (hidT s.heap H) := by
    intro b o e
    refine hidT_get (KX b o e) ?_
    cases q : H b with
    | none => rfl
    | some u =>
      have z := isA q
      subst z
      rw [fo.out (by rw [q]; simp)] at e
      cases e
  obtain ⟨mc, l1, l2⟩ := hlim
  have hM : Mod K mg (hidT s.heap H) := ⟨inB, spaces hns, ⟨mb, spaces hb, hbb⟩, ⟨mc, spaces l1, l2⟩⟩
  have noF : ∀ {b : Addr}, b ∉ frs [] := fun {b} z => absurd (show b ∈ ([] : List Addr) from z) (by simp)
  have e0 : Env0 P w K mg (hidT s.heap H) callerA [] s H := ⟨rfl, hM, fun b o e => of_hidT e, Nat.le_of_eq (hidT_size _ _), trivial, fun b z => absurd z noF, fo.ok, .of_eq hg⟩
  have run := (F _ inB (spaces hns)).run callerA [] s H ⟨[.ref a], []⟩ [.ref a] [.ref a] _ rfl hr e0 (hbind s (.ref a)) (.cons rfl .nil) (hsp H fo.only fo.seq)
  refine codeAny_mono run fun r s' h => ?_
  cases r with
  | error e => exact False.elim h
  | ok fl =>
    cases fl with
    | next => exact False.elim h
    | brk => exact False.elim h
    | cont => exact False.elim h
    | ret u =>
      obtain ⟨v, H', os, bare, un, hok', r', q⟩ := h
      obtain rfl : v = .bl true := q
      obtain rfl : u = Value.bool true := r'
      refine ⟨rfl, OldK.of_keep fun b o e => ?_, os, bare⟩
      cases q : H b with
      | none => exact un.keep b o e q noF (by simp)
      | some u =>
        rcases fo.only b with z | ⟨ob, xs, z⟩
        · rw [q] at z
          cases z
        · have same := fo.ok b _ z
          have same' := hok' b _ (un.frzs b ob _ z)
          have y := same.1
          rw [e] at y
          cases y
          exact same'.1
theorem walk_ofG {l : PySem.W.OpenLaw} {n k : Nat} {q : Program} {loose : List Str} {XP : (Str → Option Value) → Heap → Prop} {YP : World → Heap → Prop} {d : DefRec} {K : Params → PySem.W.Frag} {sp : PySem.W.Frag → Sp} {x : Str}
    (hn : l.most = some n) (hn2 : n ≤ sizeLine) (hdf : d.params.defaults = []) (hr : Room k callerA) (hY : ∀ (w : World) (h : Heap), YP w h → (K w.params).In h)
    (F : ∀ (w : World) (mg : Str → Option Value) (fa : Addr) (h : Heap), (K w.params).In h → h.Ns mainGlobals mg → mg d.name = some (.ref fa) →
      ∃ fd : FuncData, (∀ (s : Shared) (u : Value), BindsTo s fd ⟨[u], []⟩ [(x, u)]) ∧
        ∀ base : Heap, (K w.params).In base → base.Ns mainGlobals mg → FnG l.prog w (K w.params) mg base k fa fd [x] (sp (K w.params)))
    (hsp : ∀ (K : PySem.W.Frag) (H : Hp) (a : Addr) (ns : List Int), ns.length ≤ n → Only H → SqL K H a (ns.map V.int) → sp K [.ref a] H (fun v _ => v = .bl true) fun _ _ _ => False) :
    PySem.W.WalkO q loose XP YP l.row.toRowW d [] (fun f vs => PySem.call f vs) := by
  refine Att.attach_call hn hdf fun w s₀ s₁ mg mb fa o pm cd doc a vs ns G Y ho hd hcd hmg hobj hints hlen hg => ?_
  obtain ⟨fd, hb, hF⟩ := F w mg fa _ (hY w _ Y) G.T.g hmg
  exact law_callG (hY w _ Y) G.T.g G.T.b G.T.builtins G.T.nolimit hg hobj hints (Nat.le_trans hlen hn2) hr hF hb fun H hO hS => hsp _ H a ns hlen hO hS
end L2
set_option Elab.async false
set_option linter.all false
set_option maxRecDepth 100000
set_option maxHeartbeats 8000000
set_option autoImplicit false
/-! The law itself. -/
namespace Z
open PySem PySem.Spec PyProof.Rows L2
open C8 (Cal pe_c Mak pe_mk Met pe_mt pe_mt0 pe_gc tCut pss_cut)
/-- a line as data -/
def dataL (L : Int × List Int × List Int) : PyData := .tuple [.int L.1, .tuple (L.2.1.map .int), .tuple (L.2.2.map .int)]
theorem eqvL (L M : Int × List Int × List Int) : PyData.eqv (dataL L) (dataL M) = decide (L = M) := by
  rw [dec3, dataL, dataL, PyData.eqv]
  show ((L.1 == M.1) && ((PyData.eqv (.tuple (L.2.1.map .int)) (.tuple (M.2.1.map .int))) && ((PyData.eqv (.tuple (L.2.2.map .int)) (.tuple (M.2.2.map .int))) && true))) = _
  rw [eqv_tups, eqv_tups, Bool.and_true]
  rfl
theorem shapedL (L : Int × List Int × List Int) : SeqAt.shaped (dataL L) = true := by
  obtain ⟨a1, a2⟩ := Bool.and_eq_true_iff.mp (shaped_tup L.2.1)
  obtain ⟨b1, b2⟩ := Bool.and_eq_true_iff.mp (shaped_tup L.2.2)
  have dep : ∀ l : List Int, (PyData.tuple (l.map .int)).depth ≤ 2 := fun l => by
    have : PyData.depthAll (l.map PyData.int) ≤ 1 := by
      induction l with
      | nil => simp [PyData.depthAll]
      | cons x l ih => simp [PyData.depthAll, PyData.depth] <;> omega
    show PyData.depthAll _ + 1 ≤ 2
    omega
  have d1 := dep L.2.1
  have d2 := dep L.2.2
  unfold SeqAt.shaped
  rw [Bool.and_eq_true]
  refine ⟨by simp [dataL, PyData.canLay0, PyData.canLayAll0] at a1 b1 ⊢; exact ⟨a1, b1⟩, decide_eq_true ?_⟩
  show max (PyData.int L.1).depth (max (PyData.tuple (L.2.1.map .int)).depth (max (PyData.tuple (L.2.2.map .int)).depth 0)) + 1 ≤ 64
  have : (PyData.int L.1).depth = 0 := rfl
  omega
/-- a pair of a line and the same as data -/
def MadeAt (K : PySem.W.Frag) (C : Addr) (H : Hp) (t : V) (L : Int × List Int × List Int) : Prop :=
  ∃ p l u, t = .ref p ∧ H p = some (.tup [.ref l, .ref u]) ∧ LineAt H C l L ∧ Dp K H (.ref u) (dataL L)
theorem MadeAt.sm {K : PySem.W.Frag} {C : Addr} {H H' : Hp} {t : V} {L : Int × List Int × List Int} (h : MadeAt K C H t L) (e : Sm H H') : MadeAt K C H' t L :=
  let ⟨p, l, u, a, b, c, d⟩ := h
  ⟨p, l, u, a, e _ _ b, c.sm e, dp_mono e d⟩
theorem sm_two {d m : Addr} {H H' : Hp} (e : Sm (msk d d H) (msk d d H')) : Sm (msk d m H) (msk d m H') := fun b o h => by
  obtain ⟨h1, n1, n2⟩ := msk_some h
  rw [msk_ne n1 n2]
  exact (msk_some (e b o (by rw [msk_ne n1 n1]; exact h1))).1
theorem due_bd {p g e : Option PyData} {n : Int} {ws bs : List Int} {K : PySem.W.Frag} {C : Addr} {H : Hp} {vg : V} (hg : AV K C H vg g) (ep : p = some (.int n)) (h : dueD p g e = .inr (ws, bs)) :
    0 ≤ n ∧ (∀ k ∈ ws, 0 ≤ k ∧ k ≤ n) ∧ (∀ k ∈ bs, 0 ≤ k ∧ k ≤ n) ∧ ws.length ≤ (n + 1).toNat ∧ bs.length ≤ (n + 1).toNat := by
  subst ep
  by_cases hn : 0 ≤ n
  · rw [due_at hn] at h
    cases hgs : goesI n g with
    | none =>
      rw [hgs] at h
      cases h
    | some gs =>
      rw [hgs] at h
      have hin := goes_walks hg hgs
      have wl := walks_len n gs
      have hb : ∀ k ∈ betwI n (walksI n gs), 0 ≤ k ∧ k ≤ n := fun k hk => hin k ((mem_betw hin).mp hk).1
      have bl := betw_len n (walksI n gs)
      have h' : edgesI n (walksI n gs) e = .inr (ws, bs) := h
      unfold edgesI at h'
      split at h'
      · cases h'
        exact ⟨hn, hin, hb, wl, by omega⟩
      · split at h'
        · cases h'
          have := List.length_filter_le (fun k => decide (k ∈ intsA e)) (betwI n (walksI n gs))
          exact ⟨hn, hin, fun k hk => hb k (List.mem_filter.mp hk).1, wl, by omega⟩
        · cases h'
  · have : dueD (some (.int n)) g e = .inl "people" := due_num (decide_eq_false hn)
    rw [this] at h
    cases h
theorem due_int {p g e : Option PyData} {ws bs : List Int} (h : dueD p g e = .inr (ws, bs)) : ∃ n : Int, p = some (.int n) := by
  cases hb : numA p with
  | true => exact let ⟨n, a, _⟩ := num_int hb; ⟨n, a⟩
  | false =>
    rw [due_num hb] at h
    cases h
theorem due_words {p g e : Option PyData} {z : Str} (h : dueD p g e = .inl z) : z = "people" ∨ z = "goes" ∨ z = "edges" := by
  have key : ∀ n W, edgesI n W e = .inl z → z = "edges" := fun n W h => by
    unfold edgesI at h
    split at h
    · cases h
    · split at h
      · cases h
      · cases h; rfl
  cases hb : numA p with
  | false =>
    rw [due_num hb] at h
    cases h
    exact .inl rfl
  | true =>
    obtain ⟨n, rfl, hn⟩ := num_int hb
    rw [due_at hn] at h
    cases hgs : goesI n g with
    | none =>
      rw [hgs] at h
      cases h
      exact .inr (.inl rfl)
    | some gs =>
      rw [hgs] at h
      exact .inr (.inr (key _ _ h))
theorem pl_due {p g e : Option PyData} {K : PySem.W.Frag} {C : Addr} {H : Hp} {vg : V} (hg : AV K C H vg g) (Fp : FinA p) : Pl 40 400000 (dataS (dueD p g e)) := by
  cases h : dueD p g e with
  | inl z =>
    rcases due_words h with rfl | rfl | rfl
    all_goals exact ⟨by decide +kernel, by decide +kernel, by decide +kernel, by decide +kernel, by decide +kernel, by decide +kernel⟩
  | inr r =>
    obtain ⟨ws, bs⟩ := r
    obtain ⟨n, ep⟩ := due_int h
    obtain ⟨n0, w1, b1, w2, b2⟩ := due_bd hg ep h
    have n40 := Fp.int n ep
    have pw : Pl 2 3000 (.tuple (ws.map .int)) := (Pl.tuple (pl_ints fun x hx => by have := w1 x hx; omega)).mono (by decide) (by rw [List.length_map]; omega)
    have pb : Pl 2 3000 (.tuple (bs.map .int)) := (Pl.tuple (pl_ints fun x hx => by have := b1 x hx; omega)).mono (by decide) (by rw [List.length_map]; omega)
    refine (Pl.tuple (n := 2) (W := 3000) (ds := [.tuple (ws.map .int), .tuple (bs.map .int)]) fun d hd => ?_).mono (by decide) (by show 3001 * 2 ≤ 400000; decide)
    rcases List.mem_cons.mp hd with q | q
    · rw [q]; exact pw
    · rw [List.mem_singleton.mp q]; exact pb
theorem LineAt.put {H : Hp} {C a h : Addr} {L : Int × List Int × List Int} {xs : List V} {o : HO} (l : LineAt H C a L) (e : H h = some (.lst xs)) : LineAt (upd H h o) C a L := by
  obtain ⟨dx, tg, te, h1, h2, h3⟩ := l.ex
  have ne : ∀ {b : Addr} {u : HO}, H b = some u → (∀ xs, u ≠ .lst xs) → upd H h o b = some u := fun {b u} q n => by
    rw [upd_ne (fun z => by
      rw [z, e] at q
      cases q
      exact n _ rfl)]
    exact q
  exact ⟨dx, tg, te, ne h1 (fun _ z => nomatch z), ne h2 (fun _ z => nomatch z), ne h3 (fun _ z => nomatch z)⟩
theorem seq_put {K : PySem.W.Frag} {H G : Hp} {a h : Addr} {xs : List V} {o : HO} (s : SqL K H a xs) (n : H h = none) (e : Sm H G) : SqL K (upd G h o) a xs := by
  refine Sm.seq (H := H) (fun b u hb => ?_) s
  rw [upd_ne (ne_of_none hb n)]
  exact e b u hb
theorem ne_lst {H : Hp} {d b : Addr} {ys : List V} {o : HO} (hd : H d = some (.lst ys)) (hb : H b = some o) (n : ∀ ys, o ≠ .lst ys) : b ≠ d := fun z => by
  rw [z, hd] at hb
  cases hb
  exact n _ rfl
theorem sqT_msk {K : PySem.W.Frag} {H : Hp} {d m a : Addr} {xs ys zs : List V} (hd : H d = some (.lst ys)) (hm : H m = some (.lst zs)) (h : SqT K H a xs) : SqT K (msk d m H) a xs := by
  rcases h with (h | ⟨o, h⟩) | h
  · exact .inl (.inl (by rw [msk_ne (ne_lst hd h (fun _ z => nomatch z)) (ne_lst hm h (fun _ z => nomatch z))]; exact h))
  · exact .inl (.inr ⟨o, by rw [msk_ne (ne_lst hd h (fun _ z => nomatch z)) (ne_lst hm h (fun _ z => nomatch z))]; exact h⟩)
  · exact .inr h
theorem LineAt.msk {H : Hp} {C d m a : Addr} {L : Int × List Int × List Int} {ys zs : List V} (hd : H d = some (.lst ys)) (hm : H m = some (.lst zs)) (l : LineAt H C a L) : LineAt (msk d m H) C a L := by
  obtain ⟨dx, tg, te, h1, h2, h3⟩ := l.ex
  have go : ∀ {b : Addr} {u : HO}, H b = some u → (∀ xs, u ≠ .lst xs) → Z.msk d m H b = some u := fun {b u} q n => by
    rw [msk_ne (ne_lst hd q n) (ne_lst hm q n)]
    exact q
  exact ⟨dx, tg, te, go h1 (fun _ z => nomatch z), go h2 (fun _ z => nomatch z), go h3 (fun _ z => nomatch z)⟩
theorem dp_tupI {K : PySem.W.Frag} {H : Hp} {v : V} {l : List Int} (h : Dp K H v (.tuple (l.map .int))) : ∃ a, v = .ref a ∧ SqT K H a (l.map V.int) := by
  generalize e : PyData.tuple (l.map .int) = dd at h
  cases h with
  | tup s a =>
    cases e
    rw [dpAll_intV a] at s
    exact ⟨_, rfl, s⟩
  | _ => cases e
section
variable {P : Program} {w : World} {K : PySem.W.Frag} {mg : Str → Option Value} {base : Heap} {CI C KE CT : Addr}
abbrev s_law : Stmt := topS 24
abbrev n_law : List Str := ["_law_script", "_law_k", "_law_box", "_law_made", "_law_turn", "_law_size", "_law_people", "_law_goes", "_law_edges_here", "_law_due_here", "_law_one", "_law_first", "_law_other", "_law_last", "_law_handed", "_law_kept"]
abbrev p_law : List Str := ["_law_script"]
theorem sc_law : FnScope n_law p_law (defScope s_law) := ⟨rfl, rfl, rfl, by decide +kernel, rfl, by decide +kernel, by decide +kernel⟩
def spLaw (K : PySem.W.Frag) : Sp := fun vs H Q _ => ∃ (a : Addr) (ns : List Int), vs = [.ref a] ∧ SqL K H a (ns.map V.int) ∧ ns.length ≤ 63 ∧ ∀ H', Q (.bl true) H'
theorem ok_law {f fI fE : Addr} {fd fdI fdE : FuncData} (F : Fun K "law" "law" s_law f fd) (T : Bt mg) (L : LnC K C) (gC : mg "Line" = some (.ref C)) (M : Mk K C fI) (FI : FnOk P w K mg base (L2.CX P w) 3 fI fdI p_ini (spIni K CI C))
    (b0 : Binds K fdI p_ini []) (b1 : Binds K fdI p_ini [.none, .none]) (b2 : Binds K fdI p_ini [.none]) (O : EqC K C fE) (EK : EqK K C) (FE : FnOk P w K mg base CX0 1 fE fdE ["self", "other"] (spEqL K C)) (bE : Binds K fdE ["self", "other"] [])
    (Cfeed : Cal P w K mg base 1 "_law_feed" (spFeed K) []) (Ctake : Cal P w K mg base 1 "_law_take" spTake []) (Cpick : Cal P w K mg base 2 "_law_pick" (spPick K) []) (Csome : Cal P w K mg base 5 "_law_some" (spSome K C) [])
    (Cedg : Cal P w K mg base 6 "_law_edges" (spEdg K C) []) (Cdue : Cal P w K mg base 2 "_law_due" (spDue K C) []) (Cans : Cal P w K mg base 5 "_law_answer" (spDue K C) []) : FnG P w K mg base 7 f fd p_law (spLaw K) := by
  have v2 : Vals [V.non, .non] [Value.none, .none] := .cons rfl (.cons rfl .nil)
  have v1 : Vals [V.non] [Value.none] := .cons rfl .nil
  refine F.okG sc_law (fun vs H Q E h => ?_) (fun cdv A outer s H vs Q E gd hr h => ?_)
  · obtain ⟨a, ns, rfl, _⟩ := h
    rfl
  · obtain ⟨a, ns, rfl, hS, hlen, q⟩ := h
    have hu64 : A.units + 3 + 64 < cLine := by have := hr.un; show A.units + 3 + 64 < _; have e : (A.deeper (envOfC "law" (defScope s_law) s.heap.objs.size f cdv)).units = A.units + 3 := rfl; omega
    have hr4 := hr.mono (show 4 ≤ 6 by decide)
    have OE := @op_eqO (cxOf CX0 P w K mg base n_law "law" (defScope s_law) f cdv A outer s H E).nox C fE fdE ["self", "other"] (spEqL K C) 1 O FE bE (hr.mono (by decide))
    have ON := @op_neO (cxOf CX0 P w K mg base n_law "law" (defScope s_law) f cdv A outer s H E).nox C fE fdE ["self", "other"] (spEqL K C) 1 O FE bE (hr.mono (by decide))
    refine ⟨_, (pss_cons (ps_for PassesOwn.never rfl (pi_range1 rfl T.n_range (pa_cons (pe_callB (call_max2 rfl) (by rfl) T.n_max (by decide +kernel) (pa_cons pe_int (pa_cons (pe_callB (call_min2 rfl) (by rfl) T.n_min (by decide +kernel) (pa_cons pe_int (pa_cons (pe_callB call_len_seq (by rfl) T.n_len (by decide +kernel) (pa_cons (pv 0) pa_nil)) pa_nil))) pa_nil))) pa_nil)) (pg_name (i := 1) sc_law.nd rfl (Or.inl rfl))
        (pss_cons (ps_set (i := 2) sc_law.nd rfl (Or.inl rfl) (pe_c Cfeed hr (by decide) (by rfl) (pa_cons (pv 0) (pa_cons (pv 1) pa_nil))))
        (pss_cons (ps_set (i := 3) sc_law.nd rfl (Or.inl rfl) (pe_lst pa_nil))
        (pss_cons (ps_for PassesOwn.never rfl (pi_range1 rfl T.n_range (pa_cons pe_int pa_nil)) (pg_name (i := 4) sc_law.nd rfl (Or.inl rfl))
          (pss_cons (ps_set (i := 5) sc_law.nd rfl (Or.inl rfl) (pe_c Ctake hr (by decide) (by rfl) (pa_cons (pv 2) (pa_cons pe_int pa_nil))))
          (pss_cons (ps_set (i := 6) sc_law.nd rfl (Or.inl rfl) (pe_c Cpick hr (by decide) (by rfl) (pa_cons (pv 2) (pa_cons (pe_lst (pa_cons (pv 5) (pa_cons (pv 5) (pa_cons (pv 5) (pa_cons (pv 5) (pa_cons (pv 5) (pa_cons (pe_op op_sub pe_int pe_int) (pa_cons pe_bl (pa_cons pe_non (pa_cons pe_str (pa_cons (pe_tup (pa_cons pe_int pa_nil)) pa_nil))))))))))) pa_nil))))
          (pss_cut (ps_set (i := 7) sc_law.nd rfl (Or.inl rfl) (pe_ifExp (pt_cmpR op_eq (pe_c Ctake hr (by decide) (by rfl) (pa_cons (pv 2) (pa_cons pe_int pa_nil))) pe_int (nomark _)) pe_non (pe_c Csome hr (by decide) (by rfl) (pa_cons (pv 2) (pa_cons pe_int (pa_cons (pv 5) pa_nil))))))
          (pss_cut (ps_set (i := 8) sc_law.nd rfl (Or.inl rfl) (pe_ifExp (pt_cmpR op_eq (pe_c Ctake hr (by decide) (by rfl) (pa_cons (pv 2) (pa_cons pe_int pa_nil))) pe_int (nomark _)) pe_non (pe_c Cedg hr (by decide) (by rfl) (pa_cons (pv 2) (pa_cons (pv 5) (pa_cons (pv 7) pa_nil))))))
          (pss_cons (ps_set (i := 9) sc_law.nd rfl (Or.inl rfl) (pe_c Cdue hr (by decide) (by rfl) (pa_cons (pv 6) (pa_cons (pv 7) (pa_cons (pv 8) pa_nil)))))
          (pss_cons (ps_if (pt_cmpR op_ne (pe_reprP K gd hu64 (by rfl) T.n_repr (pe_c Cans hr (by decide) (by rfl) (pa_cons (pv 6) (pa_cons (pv 7) (pa_cons (pv 8) pa_nil))))) (pe_reprP K gd hu64 (by rfl) T.n_repr (pv 9)) (nomark _))
            (pss_one (ps_ret pe_bl))
            pss_nil)
          (pss_one (ps_if (pt_not (pt_val (pe_callB call_isi (by rfl) T.n_isinstance (by decide +kernel) (pa_cons (pv 9) (pa_cons (pe_bltn (v := .ty "str") (by rfl) T.n_str (by decide +kernel) rfl) pa_nil)))))
            (pss_one (ps_expr (pe_bm PySem.F.plainAttrs_list PySem.F.slot_list_append PySem.F.type_list_append mt_append (pv 3) (pa_cons (pe_tup (pa_cons (pe_make M FI hr4 (by rfl) gC b0 .nil passF (pa_cons (pv 6) (pa_cons (pv 7) (pa_cons (pv 8) pa_nil)))) (pa_cons (pe_op op_catT (pe_tup (pa_cons (pv 6) pa_nil)) (pv 9)) pa_nil))) pa_nil))))
            pss_nil)))))))))
        (pss_cons (ps_for PassesOwn.never rfl (pi_list (pv 3)) (pg_tup rfl (pgs_cons (pg_name (i := 10) sc_law.nd rfl (Or.inl rfl)) (pgs_cons (pg_name (i := 11) sc_law.nd rfl (Or.inl rfl)) pgs_nil)))
          (pss_cons (ps_for PassesOwn.never rfl (pi_list (pv 3)) (pg_tup rfl (pgs_cons (pg_name (i := 12) sc_law.nd rfl (Or.inl rfl)) (pgs_cons (pg_name (i := 13) sc_law.nd rfl (Or.inl rfl)) pgs_nil)))
            (pss_one (ps_if ((pw_or (pt_cmpR op_ne (pe_cmpR OE (pv 10) (pv 12) (nomark _)) (pe_cmpR (op_eqD hu64) (pv 11) (pv 13) (nomark _)) (nomark _)) (pw_or1 (pt_cmpR op_eq (pe_cmpR ON (pv 10) (pv 12) (nomark _)) (pe_cmpR (op_eqD hu64) (pv 11) (pv 13) (nomark _)) (nomark _))))).pt
              (pss_one (ps_ret pe_bl))
              pss_nil)))
          (pss_one (ps_if ((pw_or (pt_cmpR OE (pv 10) (pv 11) (nomark _)) (pw_or (pt_cmpR OE (pv 10) pe_non (nomark _)) (pw_or1 (pt_cmpR OE (pv 10) (pe_fld (pv 10) rfl) (nomark _)))))).pt
            (pss_one (ps_ret pe_bl))
            pss_nil))))
        (pss_cons (ps_set (i := 14) sc_law.nd rfl (Or.inl rfl) (pe_lst (pa_cons pe_int (pa_cons pe_int (pa_cons pe_int (pa_cons pe_int pa_nil))))))
        (pss_cons (ps_set (i := 15) sc_law.nd rfl (Or.inl rfl) (pe_make M FI hr4 (by rfl) gC b0 .nil passF (pa_cons pe_int (pa_cons (pv 14) (pa_cons (pe_lst (pa_cons pe_int pa_nil)) pa_nil)))))
        (pss_cons (ps_expr (pe_bm PySem.F.plainAttrs_list PySem.F.slot_list_append PySem.F.type_list_append mt_append (pv 14) (pa_cons pe_int pa_nil)))
        (pss_one (ps_if ((pw_or (pt_cmpR ON (pv 15) (pe_make M FI hr4 (by rfl) gC b0 .nil passF (pa_cons pe_int (pa_cons (pe_tup (pa_cons pe_int (pa_cons pe_int (pa_cons pe_int pa_nil)))) (pa_cons (pe_tup (pa_cons pe_int pa_nil)) pa_nil)))) (nomark _)) (pw_or (pt_cmpR (op_neD hu64) (pe_fld (pv 15) rfl) (pe_tup (pa_cons pe_int (pa_cons pe_int (pa_cons pe_int pa_nil)))) (nomark _)) (pw_or1 (pt_cmpR (op_neD hu64) (pe_fld (pe_make M FI hr4 (by rfl) gC b1 v2 passF (pa_cons pe_int pa_nil)) rfl) (pe_tup (pa_cons pe_int (pa_cons pe_int (pa_cons pe_int (pa_cons pe_int pa_nil))))) (nomark _)))))).pt
          (pss_one (ps_ret pe_bl))
          pss_nil))))))))))
      (pss_one (ps_ret (pe_and (pe_cmpR OE (pe_make M FI hr4 (by rfl) gC b1 v2 passF (pa_cons pe_int pa_nil)) (pe_make M FI hr4 (by rfl) gC b0 .nil passF (pa_cons pe_int (pa_cons (pe_lst (pa_cons pe_int pa_nil)) (pa_cons (pe_tup pa_nil) pa_nil)))) (nomark _)) (pe_one (pe_cmpR (op_eqD hu64) (pe_fld (pe_make M FI hr4 (by rfl) gC b2 v1 passF (pa_cons pe_int (pa_cons (pe_lst pa_nil) pa_nil))) rfl) (pe_tup pa_nil) (nomark _))))))), ?_⟩
    have bound : ∃ X : Int, X = (if (if ((ns.map V.int).length : Int) < 5 then ((ns.map V.int).length : Int) else 5) > 2 then (if ((ns.map V.int).length : Int) < 5 then ((ns.map V.int).length : Int) else 5) else 2) ∧ X ≤ 5 ∧ 2 ≤ X := ⟨_, rfl, by split <;> split <;> omega, by split <;> split <;> omega⟩
    obtain ⟨X, eX, X5, X2⟩ := bound
    refine ⟨_, rfl, a, _, rfl, .inl hS, 5, _, rfl, 2, _, rfl, X, by rw [eX], by omega, by omega, for_range (lo := 0) (n := X.toNat) (fun i σ H' => (∃ x1 x2 x3 x4 x5 x6 x7 x8 x9 x10 x11 x12 x13 x14 x15, σ = [some (.ref a), x1, x2, x3, x4, x5, x6, x7, x8, x9, x10, x11, x12, x13, x14, x15]) ∧ SqL K H' a (ns.map V.int)) ?_ ?_ ?_⟩
    · exact ⟨⟨none, none, none, none, none, none, none, none, none, none, none, none, none, none, none, rfl⟩, hS⟩
    · rintro i σ H1 hi ⟨⟨x1, x2, x3, x4, x5, x6, x7, x8, x9, x10, x11, x12, x13, x14, x15, rfl⟩, hS1⟩
      refine ⟨_, rfl, _, rfl, a, ns, _, rfl, hS1, by omega, by omega, fun d H2 s2 nd B2 => ⟨Nat.zero_le _, fun m hm => ?_⟩⟩
      have nmd : m ≠ d := B2.newNe hm
      have B3 : BoxAt (upd H2 m (.lst [])) d := B2.sm (Sm.new hm)
      have S3 : Sm H1 (msk d m (upd H2 m (.lst []))) := fun b o hb => by
        have nb : b ≠ d := fun z => by rw [z, nd] at hb; cases hb
        have nm : b ≠ m := fun z => by rw [z] at hb; rw [s2 _ _ hb] at hm; cases hm
        rw [msk_ne nb nm, upd_ne nm]
        exact s2 b o hb
      have e3 : upd H2 m (.lst []) m = some (.lst []) := upd_same
      generalize upd H2 m (.lst []) = H3 at B3 S3 e3 ⊢
      refine ⟨8, rfl, by decide, by decide, for_range (lo := 0) (n := 8) (fun j σ H' => (∃ x4 x5 x6 x7 x8 x9, σ = [some (.ref a), some (.int (0 + (i : Int))), some (.ref d), some (.ref m), x4, x5, x6, x7, x8, x9, x10, x11, x12, x13, x14, x15]) ∧
        BoxAt H' d ∧ Sm (msk d m H3) (msk d m H') ∧ ∃ ts, H' m = some (.lst ts) ∧ ts.length ≤ j ∧ ∀ t ∈ ts, ∃ L, MadeAt K C (msk d m H') t L) ?_ ?_ ?_⟩
      · exact ⟨⟨_, _, _, _, _, _, rfl⟩, B3, Sm.refl _, [], e3, Nat.le_refl _, fun t h => nomatch h⟩
      · rintro j σ H4 hj ⟨⟨x4, x5, x6, x7, x8, x9, rfl⟩, B4, S4, ts, em, lts, hts⟩
        have m4 : msk d d H4 m = some (.lst ts) := by rw [msk_ne nmd nmd]; exact em
        refine ⟨_, rfl, d, 6, rfl, B4, by decide, by decide, fun n H5 n0 n5 B5 e5 => ?_⟩
        refine ⟨_, rfl, _, rfl, _, rfl, _, rfl, _, rfl, _, rfl, 0, 1, rfl, rfl, (show 1 ≤ sizeLine by decide), fun o ho => ⟨(show 10 ≤ sizeLine by decide), fun l hl => ?_⟩⟩
        have no : o ≠ d := B5.newNe ho
        have c1 : upd H5 o (.tup [V.int 2]) o = some (.tup [V.int 2]) := upd_same
        have y1 : Sm H5 (upd H5 o (.tup [V.int 2])) := Sm.new ho
        generalize upd H5 o (.tup [V.int 2]) = G1 at c1 y1 hl ⊢
        have nl : l ≠ d := (B5.sm y1).newNe hl
        have c2 : upd G1 l (.lst [V.int n, .int n, .int n, .int n, .int n, .int (0 - 1), .bl true, .non, .str (Str.ofString "3"), .ref o]) l = some (.lst [V.int n, .int n, .int n, .int n, .int n, .int (0 - 1), .bl true, .non, .str (Str.ofString "3"), .ref o]) := upd_same
        have y2 : Sm G1 (upd G1 l (.lst [V.int n, .int n, .int n, .int n, .int n, .int (0 - 1), .bl true, .non, .str (Str.ofString "3"), .ref o])) := Sm.new hl
        have c1' := y2 _ _ c1
        have z2 := y1.trans y2
        refine ⟨_, l, _, rfl, B5.sm z2, .inl (.inl (by rw [msk_ne nl nl]; exact c2)), (by show 0 < 10; decide), (by show 10 ≤ 1000; decide), fun jj vp H6 hjj B6 e6 => ?_⟩
        have e46 : Sm (msk d d H4) (msk d d H6) := (e5.trans z2.msk).trans e6
        have hp : ∃ p, AV K C (msk d d H6) vp p ∧ FinA p := by
          have c1m : msk d d H6 o = some (.tup [V.int 2]) := e6 _ _ (by rw [msk_ne no no]; exact c1')
          have key : ∀ x ∈ ([V.int n, .int n, .int n, .int n, .int n, .int (0 - 1), .bl true, .non, .str (Str.ofString "3"), .ref o] : List V), ∃ p, AV K C (msk d d H6) x p ∧ FinA p := fun x hx => by
            simp only [List.mem_cons, List.not_mem_nil, or_false] at hx
            rcases hx with rfl | rfl | rfl | rfl | rfl | rfl | rfl | rfl | rfl | rfl
            all_goals first
              | exact ⟨_, .dat (.int _), fin_int (by omega)⟩
              | exact ⟨_, .dat (.bl _), fin_bool _⟩
              | exact ⟨_, .dat .non, fin_none⟩
              | exact ⟨_, .dat (.str _), fin_str _⟩
              | exact ⟨_, .dat (.tup (.inl (.inl c1m)) (.cons (.int 2) .nil)), fin_tup (by decide) (fun y hy => by rw [List.mem_singleton.mp hy]; exact ⟨rfl, by decide⟩)⟩
          exact key vp (List.mem_of_getElem? hjj)
        obtain ⟨p, hp, Fp⟩ := hp
        -- goes
        refine ⟨fun σ H' => ∃ vg g, σ = [some (.ref a), some (.int (0 + (i : Int))), some (.ref d), some (.ref m), some (.int (0 + (j : Int))), some (.int n), some vp, some vg, x8, x9, x10, x11, x12, x13, x14, x15] ∧ BoxAt H' d ∧ Sm (msk d d H4) (msk d d H') ∧
          AV K C (msk d d H') vp p ∧ AV K C (msk d d H') vg g ∧ FinA g, ?_, ?_⟩
        · refine ⟨_, rfl, d, 3, rfl, B6, by decide, by decide, fun r H7 _ _ B7 e7 => ⟨rfl, _, rfl, iteB (fun hb => ?_) (fun hb => ?_)⟩⟩
          · exact ⟨_, _, rfl, B7, e46.trans e7, hp.sm e7, .dat .non, fin_none⟩
          · exact ⟨_, rfl, _, rfl, d, 0, n, rfl, B7, by decide, by decide, n0, by omega, fun vg g H8 B8 e8 hg Fg => ⟨_, _, rfl, B8, (e46.trans e7).trans e8, hp.sm (e7.trans e8), hg, Fg⟩⟩
        rintro σ H7 ⟨vg, g, rfl, B7, e47, hp, hg, Fg⟩
        -- edges
        refine ⟨fun σ H' => ∃ ve e, σ = [some (.ref a), some (.int (0 + (i : Int))), some (.ref d), some (.ref m), some (.int (0 + (j : Int))), some (.int n), some vp, some vg, some ve, x9, x10, x11, x12, x13, x14, x15] ∧ BoxAt H' d ∧ Sm (msk d d H4) (msk d d H') ∧
          AV K C (msk d d H') vp p ∧ AV K C (msk d d H') vg g ∧ AV K C (msk d d H') ve e ∧ FinA e, ?_, ?_⟩
        · refine ⟨_, rfl, d, 3, rfl, B7, by decide, by decide, fun r H8 _ _ B8 e8 => ⟨rfl, _, rfl, iteB (fun hb => ?_) (fun hb => ?_)⟩⟩
          · exact ⟨_, _, rfl, B8, e47.trans e8, hp.sm e8, hg.sm e8, .dat .non, fin_none⟩
          · exact ⟨_, rfl, _, rfl, _, rfl, d, n, vg, g, rfl, B8, n0, by omega, hg.sm e8, Fg, fun ve e H9 B9 e9 he Fe => ⟨_, _, rfl, B9, (e47.trans e8).trans e9, hp.sm (e8.trans e9), hg.sm (e8.trans e9), he, Fe⟩⟩
        rintro σ H8 ⟨ve, e, rfl, B8, e48, hp, hg, he, Fe⟩
        have hp' := av_msk hp
        have hg' := av_msk hg
        have he' := av_msk he
        refine ⟨_, rfl, _, rfl, _, rfl, vp, vg, ve, p, g, e, rfl, hp', hg', he', Fp, Fg, Fe, fun vd H9 s9 hd => ?_⟩
        refine ⟨_, rfl, _, rfl, _, rfl, vp, vg, ve, p, g, e, rfl, hp'.sm s9, hg'.sm s9, he'.sm s9, Fp, Fg, Fe, fun va H10 s10 hda => ?_⟩
        have pl := pl_due (e := e) hg' Fp
        refine ⟨va, _, rfl, hda, pl, _, rfl, vd, _, rfl, dp_mono s10 hd, pl, rfl, _, rfl, ite0 (by simp) ?_⟩
        have hd10 := dp_mono s10 hd
        have s8 := s9.trans s10
        have B10 := B8.sm s8
        have e10 : Sm (msk d d H4) (msk d d H10) := e48.trans s8.msk
        have hp10 := hp'.sm s8
        have hg10 := hg'.sm s8
        have he10 := he'.sm s8
        have em10 : H10 m = some (.lst ts) := (msk_some (e10 _ _ m4)).1
        have S10 := S4.trans (sm_two (m := m) e10)
        have hts10 : ∀ t ∈ ts, ∃ L, MadeAt K C (msk d m H10) t L := fun t ht => let ⟨L, h⟩ := hts t ht; ⟨L, h.sm (sm_two (m := m) e10)⟩
        refine ⟨_, rfl, vd, .ty "str", _, _, _, rfl, .ty "str", dp_ty hd10, kit_str hd10, _, rfl, ?_⟩
        cases hdue : dueD p g e with
        | inl z => exact ite0 rfl ⟨⟨_, _, _, _, _, _, rfl⟩, B10, S10, ts, em10, by omega, hts10⟩
        | inr r =>
          obtain ⟨ws, bs⟩ := r
          obtain ⟨k, rfl⟩ := due_int hdue
          obtain rfl : vp = .int k := by
            cases hp10 with
            | dat h => cases h; rfl
          rw [hdue] at hd10
          obtain ⟨du, xs, rfl, hxs, hdu⟩ : ∃ du xs, vd = .ref du ∧ DpAll K H10 xs [.tuple (ws.map .int), .tuple (bs.map .int)] ∧ SqT K H10 du xs := by
            cases hd10 with
            | tup s a => exact ⟨_, _, rfl, a, s⟩
          refine ite1 rfl ⟨_, rfl, .inl ⟨rfl, _, .inl (.inl em10)⟩, _, rfl, _, rfl, _, rfl, fun x dx nx ndx ne => ?_⟩
          refine ini_good nx ndx ne hp10 hg10 he10 Fp Fg Fe rfl hdue (fun G sG LG => ⟨_, rfl, (show 1 ≤ sizeLine by decide), fun o1 ho1 => ?_⟩)
          have l2 : xs.length = 2 := dpAll_len hxs
          have y1 : Sm G (upd G o1 (.tup [V.int k])) := Sm.new ho1
          have c1 : upd G o1 (.tup [V.int k]) o1 = some (.tup [V.int k]) := upd_same
          generalize upd G o1 (.tup [V.int k]) = G1 at y1 c1 ⊢
          have s11 := sG.trans y1
          refine ⟨_, rfl, o1, du, [V.int k], xs, rfl, rfl, .inl (.inl c1), s11.tup hdu, by simp, by rw [l2]; show 1 + 2 ≤ sizeLine; decide, fun z => (by rw [z] at l2; cases l2), fun _ pp hpp => ⟨(show 2 ≤ sizeLine by decide), fun tt htt => ?_⟩⟩
          have y2 : Sm G1 (upd G1 pp (.tup ([V.int k] ++ xs))) := Sm.new hpp
          have c2 : upd G1 pp (.tup ([V.int k] ++ xs)) pp = some (.tup ([V.int k] ++ xs)) := upd_same
          generalize upd G1 pp (.tup ([V.int k] ++ xs)) = G2 at y2 c2 htt ⊢
          have y3 : Sm G2 (upd G2 tt (.tup [V.ref x, .ref pp])) := Sm.new htt
          have c3 : upd G2 tt (.tup [V.ref x, .ref pp]) tt = some (.tup [V.ref x, .ref pp]) := upd_same
          generalize upd G2 tt (.tup [V.ref x, .ref pp]) = G3 at y3 c3 ⊢
          have s13 := s11.trans (y2.trans y3)
          have B13 := B10.sm s13
          have em13 := s13 _ _ em10
          obtain ⟨q0, q1, hB13⟩ := id B13
          refine ⟨m, ts, _, rfl, rfl, em13, small1000 (by omega), ⟨_, _, _, _, _, _, rfl⟩, box_put B13 nmd, ?_, ts ++ [V.ref tt], upd_same, by rw [List.length_append, List.length_singleton]; omega, fun t ht => ?_⟩
          · rw [msk_in (.inr rfl)]
            exact S10.trans s13.msk
          · rw [msk_in (.inr rfl)]
            rcases List.mem_append.mp ht with h | h
            · exact let ⟨L, h⟩ := hts10 t h; ⟨L, h.sm s13.msk⟩
            · rw [List.mem_singleton.mp h]
              refine ⟨(k, ws, bs), tt, x, pp, rfl, ?_, (LG.sm (y1.trans (y2.trans y3))).msk hB13.ha em13, ?_⟩
              · rw [msk_ne (ne_lst hB13.ha c3 (fun _ z => nomatch z)) (ne_lst em13 c3 (fun _ z => nomatch z))]
                exact c3
              · refine .tup (sqT_msk hB13.ha em13 (.inl (.inl (y3 _ _ c2)))) (.cons (.int k) ?_)
                have hx3 := dpAll_mono s13 hxs
                cases hx3 with
                | cons h1 hr =>
                  cases hr with
                  | cons h2 hn =>
                    cases hn
                    obtain ⟨b1, rfl, q1⟩ := dp_tupI h1
                    obtain ⟨b2, rfl, q2⟩ := dp_tupI h2
                    exact .cons (.tup (sqT_msk hB13.ha em13 q1) (dpAll_ints _)) (.cons (.tup (sqT_msk hB13.ha em13 q2) (dpAll_ints _)) .nil)
      · rintro σ H4 ⟨⟨x4, x5, x6, x7, x8, x9, rfl⟩, B4, S4, ts, em, lts, hts⟩
        have hts4 : ∀ t ∈ ts, ∃ L, MadeAt K C H4 t L := fun t ht => let ⟨L, h⟩ := hts t ht; ⟨L, h.sm msk_le⟩
        have hS4 : SqL K H4 a (ns.map V.int) := ((S3.trans S4).trans msk_le).seq hS1
        refine ⟨_, rfl, m, rfl, ⟨_, .inl (.inl em)⟩, for_list (K := K) (a := m) (xs := ts) (fun i' σ H' => (∃ z4 z5 z6 z7 z8 z9 z10 z11 z12 z13 z14 z15, σ = [some (.ref a), some (.int (0 + (i : Int))), some (.ref d), some (.ref m), z4, z5, z6, z7, z8, z9, z10, z11, z12, z13, z14, z15]) ∧ H' = H4) ?_ ?_ ?_ ?_⟩
        · exact ⟨⟨_, _, _, _, _, _, _, _, _, _, _, _, rfl⟩, rfl⟩
        · exact fun i' σ H' _ h => by rw [h.2]; exact .inl (.inl em)
        · rintro i1 t1 σ H' ht1 ⟨⟨z4, z5, z6, z7, z8, z9, z10, z11, z12, z13, z14, z15, rfl⟩, rfl⟩
          obtain ⟨L1, p1, l1, u1, rfl, ep1, LA1, D1⟩ := hts4 t1 (List.mem_of_getElem? ht1)
          obtain ⟨dx1, tg1, te1, f1, f2, f3⟩ := LA1.ex
          refine ⟨p1, _, rfl, .inl (.inl ep1), rfl, _, _, rfl, _, _, rfl, rfl, ?_⟩
          refine ⟨_, rfl, m, rfl, ⟨_, .inl (.inl em)⟩, for_list (K := K) (a := m) (xs := ts) (fun i' σ H'' => (∃ z12 z13, σ = [some (.ref a), some (.int (0 + (i : Int))), some (.ref d), some (.ref m), z4, z5, z6, z7, z8, z9, some (.ref l1), some (.ref u1), z12, z13, z14, z15]) ∧ H'' = H') ?_ ?_ ?_ ?_⟩
          · exact ⟨⟨_, _, rfl⟩, rfl⟩
          · exact fun i' σ H'' _ h => by rw [h.2]; exact .inl (.inl em)
          · rintro i2 t2 σ H'' ht2 ⟨⟨z12, z13, rfl⟩, rfl⟩
            obtain ⟨L2, p2, l2, u2, rfl, ep2, LA2, D2⟩ := hts4 t2 (List.mem_of_getElem? ht2)
            obtain ⟨dx2, tg2, te2, g1, g2, g3⟩ := LA2.ex
            refine ⟨p2, _, rfl, .inl (.inl ep2), rfl, _, _, rfl, _, _, rfl, rfl, ?_⟩
            refine ⟨_, rfl, _, rfl, l1, dx1, _, .ref C, rfl, f1, L.i.ty g1, self_first, l1, L1, .ref l2, _, rfl, LA1, .inl ⟨l2, L2, rfl, LA2, rfl⟩, _, rfl, _, rfl, _, rfl, dataL L1, dataL L2, D1, D2, shapedL _, shapedL _, rfl, _, rfl, ite0 (by rw [eqvL]; simp) ?_⟩
            refine ⟨_, rfl, _, rfl, l1, dx1, _, .ref C, rfl, f1, L.i.ty g1, self_first, l1, L1, .ref l2, _, rfl, LA1, .inl ⟨l2, L2, rfl, LA2, rfl⟩, _, rfl, _, rfl, _, rfl, dataL L1, dataL L2, D1, D2, shapedL _, shapedL _, rfl, _, rfl, ite0 (by rw [eqvL]; simp) ?_⟩
            exact ⟨⟨_, _, rfl⟩, rfl⟩
          · rintro σ H'' ⟨⟨z12, z13, rfl⟩, rfl⟩
            refine ⟨_, rfl, _, rfl, l1, dx1, _, .type "tuple", rfl, f1, ?_, EK.ft, l1, L1, .ref u1, false, rfl, LA1, .inr ⟨rfl, .inr ?_⟩, _, rfl, _, rfl, ite0 rfl ?_⟩
            · exact dp_ty D1
            · cases D1 with
              | tup s _ => exact ⟨_, _, rfl, s⟩
            refine ⟨_, rfl, l1, dx1, _, .type "NoneType", rfl, f1, .base .non, EK.fn, l1, L1, .non, false, rfl, LA1, .inr ⟨rfl, .inl rfl⟩, _, rfl, _, rfl, ite0 rfl ?_⟩
            refine ⟨_, rfl, _, rfl, l1, C, dx1, _, _, rfl, f1, L.i.c, L.n2, rfl, l1, dx1, _, .type "tuple", rfl, f1, .base (.tup f2), EK.ft, l1, L1, .ref tg1, false, rfl, LA1, .inr ⟨rfl, .inr ⟨_, _, rfl, .inl (.inl f2)⟩⟩, _, rfl, _, rfl, ite0 rfl ?_⟩
            exact ⟨⟨_, _, _, _, _, _, _, _, _, _, _, _, rfl⟩, rfl⟩
        · rintro σ H' ⟨⟨z4, z5, z6, z7, z8, z9, z10, z11, z12, z13, z14, z15, rfl⟩, rfl⟩
          -- what was handed in and changed then
          refine ⟨(show 4 ≤ sizeLine by decide), fun h hh => ?_⟩
          have y1 : Sm H' (upd H' h (.lst [V.int 2, .int 0, .int 1, .int 1])) := Sm.new hh
          have c1 : upd H' h (.lst [V.int 2, .int 0, .int 1, .int 1]) h = some (.lst [V.int 2, .int 0, .int 1, .int 1]) := upd_same
          generalize upd H' h (.lst [V.int 2, .int 0, .int 1, .int 1]) = G1 at y1 c1 ⊢
          refine ⟨_, rfl, (show 1 ≤ sizeLine by decide), fun o1 ho1 => fun x dx nx ndx ne => ?_⟩
          have y2 : Sm G1 (upd G1 o1 (.lst [V.int 1])) := Sm.new ho1
          have c2 : upd G1 o1 (.lst [V.int 1]) o1 = some (.lst [V.int 1]) := upd_same
          change upd G1 o1 (.lst [V.int 1]) x = none at nx
          change upd G1 o1 (.lst [V.int 1]) dx = none at ndx
          show spIni K CI C [.ref x, .int 3, .ref h, .ref o1] (upd (upd (upd G1 o1 (.lst [V.int 1])) dx (.own x)) x (.ins C dx [])) _ _
          generalize upd G1 o1 (.lst [V.int 1]) = G2 at y2 c2 nx ndx ⊢
          have c1' := y2 _ _ c1
          refine ini_good nx ndx ne (p := some (.int 3)) (g := some (.list ([2, 0, 1, 1].map .int))) (e := some (.list ([1].map .int))) (.dat (.int 3)) (.dat (.lst (.inl (.inl c1')) (dpAll_ints [2, 0, 1, 1]))) (.dat (.lst (.inl (.inl c2)) (dpAll_ints [1]))) (fin_int (by decide)) (fin_list (by decide) (lay_ints _)) (fin_list (by decide) (lay_ints _)) rfl
            (show _ = Sum.inr ([0, 1, 2], [1]) by decide +kernel) (fun G3 s3 LG3 => ?_)
          have c1'' := s3 _ _ c1'
          refine ⟨_, rfl, .inl ⟨rfl, _, .inl (.inl c1'')⟩, h, _, _, rfl, rfl, c1'', (by show 4 < sizeLine; decide), ?_⟩
          have LG4 := LG3.put (o := .lst ([V.int 2, .int 0, .int 1, .int 1] ++ [V.int 3])) c1''
          have hS5 : SqL K (upd G3 h (.lst ([V.int 2, .int 0, .int 1, .int 1] ++ [V.int 3]))) a (ns.map V.int) := seq_put hS4 hh (y1.trans (y2.trans s3))
          generalize upd G3 h (.lst ([V.int 2, .int 0, .int 1, .int 1] ++ [V.int 3])) = G4 at LG4 hS5 ⊢
          refine ⟨_, rfl, (show 3 ≤ sizeLine by decide), fun t1 ht1 => ⟨(show 1 ≤ sizeLine by decide), fun t2 ht2 => fun x2 dx2 nx2 ndx2 ne2 => ?_⟩⟩
          have y5 : Sm G4 (upd G4 t1 (.tup [V.int 0, .int 1, .int 2])) := Sm.new ht1
          have c5 : upd G4 t1 (.tup [V.int 0, .int 1, .int 2]) t1 = some (.tup [V.int 0, .int 1, .int 2]) := upd_same
          change upd (upd G4 t1 (.tup [V.int 0, .int 1, .int 2])) t2 (.tup [V.int 1]) x2 = none at nx2
          change upd (upd G4 t1 (.tup [V.int 0, .int 1, .int 2])) t2 (.tup [V.int 1]) dx2 = none at ndx2
          show spIni K CI C [.ref x2, .int 3, .ref t1, .ref t2] (upd (upd (upd (upd G4 t1 (.tup [V.int 0, .int 1, .int 2])) t2 (.tup [V.int 1])) dx2 (.own x2)) x2 (.ins C dx2 [])) _ _
          generalize upd G4 t1 (.tup [V.int 0, .int 1, .int 2]) = G5 at y5 c5 ht2 nx2 ndx2 ⊢
          have y6 : Sm G5 (upd G5 t2 (.tup [V.int 1])) := Sm.new ht2
          have c6 : upd G5 t2 (.tup [V.int 1]) t2 = some (.tup [V.int 1]) := upd_same
          generalize upd G5 t2 (.tup [V.int 1]) = G6 at y6 c6 nx2 ndx2 ⊢
          refine ini_good nx2 ndx2 ne2 (p := some (.int 3)) (g := some (.tuple ([0, 1, 2].map .int))) (e := some (.tuple ([1].map .int))) (.dat (.int 3)) (.dat (.tup (.inl (.inl (y6 _ _ c5))) (dpAll_ints [0, 1, 2]))) (.dat (.tup (.inl (.inl c6)) (dpAll_ints [1]))) (fin_int (by decide)) (fin_tup (by decide) (lay_ints _)) (fin_tup (by decide) (lay_ints _)) rfl
            (show _ = Sum.inr ([0, 1, 2], [1]) by decide +kernel) (fun G7 s7 LG7 => ?_)
          have s47 := y5.trans (y6.trans s7)
          have LK7 := LG4.sm s47
          obtain ⟨kx, kg, ke, f1, f2, f3⟩ := LK7.ex
          obtain ⟨mx, mg', me, g1, g2, g3⟩ := LG7.ex
          refine ⟨x, kx, _, .ref C, rfl, f1, L.i.ty g1, self_first, x, _, .ref x2, true, rfl, LK7, .inl ⟨x2, _, rfl, LG7, by simp⟩, _, rfl, _, rfl, ite0 rfl ?_⟩
          refine ⟨_, rfl, x, C, kx, _, _, rfl, f1, L.i.c, L.n2, rfl, (show 3 ≤ sizeLine by decide), fun t3 ht3 => ?_⟩
          have y8 : Sm G7 (upd G7 t3 (.tup [V.int 0, .int 1, .int 2])) := Sm.new ht3
          refine ⟨.tuple ([0, 1, 2].map .int), .tuple ([0, 1, 2].map .int), .tup (.inl (.inl (y8 _ _ f2))) (dpAll_ints _), .tup (.inl (.inl upd_same)) (dpAll_ints [0, 1, 2]), shaped_tup _, shaped_tup _, _, rfl, ite0 (by rw [eqv_tups]; rfl) ?_⟩
          have hS8 := (s47.trans y8).seq hS5
          intro x3 dx3 nx3 ndx3 ne3
          refine ini_good nx3 ndx3 ne3 (.dat (.int 4)) (.dat .non) (.dat .non) (fin_int (by decide)) fin_none fin_none rfl (due_nn (by decide)) (fun G9 s9 LG9 => ?_)
          obtain ⟨lx, lg, le, k1, k2, k3⟩ := LG9.ex
          refine ⟨x3, C, lx, _, _, rfl, k1, L.i.c, L.n3, rfl, (show 4 ≤ sizeLine by decide), fun t4 ht4 => ?_⟩
          have y9 : Sm G9 (upd G9 t4 (.tup [V.int 1, .int 2, .int 3, .int 4])) := Sm.new ht4
          refine ⟨.tuple ((betwI 4 (upto 0 4)).map .int), .tuple ([1, 2, 3, 4].map .int), .tup (.inl (.inl (y9 _ _ k3))) (dpAll_ints _), .tup (.inl (.inl upd_same)) (dpAll_ints [1, 2, 3, 4]), shaped_tup _, shaped_tup _, _, rfl, ite0 (by rw [eqv_tups]; decide +kernel) ?_⟩
          exact ⟨⟨_, _, _, _, _, _, _, _, _, _, _, _, _, _, _, rfl⟩, (s9.trans y9).seq hS8⟩
    · rintro σ H1 ⟨⟨x1, x2, x3, x4, x5, x6, x7, x8, x9, x10, x11, x12, x13, x14, x15, rfl⟩, hS1⟩
      intro y1 dy1 ny1 ndy1 ne1
      refine ini_good ny1 ndy1 ne1 (.dat (.int 0)) (.dat .non) (.dat .non) (fin_int (by decide)) fin_none fin_none rfl (due_nn (by decide)) (fun G1 s1 LG1 => ?_)
      refine ⟨(show 1 ≤ sizeLine by decide), fun o1 ho1 => ⟨(show 0 ≤ sizeLine by decide), fun o2 ho2 => fun y2 dy2 ny2 ndy2 ne2 => ?_⟩⟩
      have z1 : Sm G1 (upd G1 o1 (.lst [V.int 0])) := Sm.new ho1
      have c1 : upd G1 o1 (.lst [V.int 0]) o1 = some (.lst [V.int 0]) := upd_same
      change upd (upd G1 o1 (.lst [V.int 0])) o2 (.tup []) y2 = none at ny2
      change upd (upd G1 o1 (.lst [V.int 0])) o2 (.tup []) dy2 = none at ndy2
      show spIni K CI C [.ref y2, .int 0, .ref o1, .ref o2] (upd (upd (upd (upd G1 o1 (.lst [V.int 0])) o2 (.tup [])) dy2 (.own y2)) y2 (.ins C dy2 [])) _ _
      generalize upd G1 o1 (.lst [V.int 0]) = G2 at z1 c1 ho2 ny2 ndy2 ⊢
      have z2 : Sm G2 (upd G2 o2 (.tup [])) := Sm.new ho2
      have c2 : upd G2 o2 (.tup []) o2 = some (.tup []) := upd_same
      generalize upd G2 o2 (.tup []) = G3 at z2 c2 ny2 ndy2 ⊢
      refine ini_good ny2 ndy2 ne2 (p := some (.int 0)) (g := some (.list ([0].map .int))) (e := some (.tuple (([] : List Int).map .int))) (.dat (.int 0)) (.dat (.lst (.inl (.inl (z2 _ _ c1))) (dpAll_ints [0]))) (.dat (.tup (.inl (.inl c2)) (dpAll_ints []))) (fin_int (by decide)) (fin_list (by decide) (lay_ints _)) (fin_tup (by decide) (lay_ints _)) rfl
        (show _ = Sum.inr (upto 0 0, betwI 0 (upto 0 0)) by decide +kernel) (fun G4 s4 LG4 => ?_)
      have s14 := z1.trans (z2.trans s4)
      have LK4 := LG1.sm s14
      obtain ⟨kx, kg, ke, f1, f2, f3⟩ := LK4.ex
      obtain ⟨mx, mg', me, g1, g2, g3⟩ := LG4.ex
      refine ⟨y1, kx, _, .ref C, rfl, f1, L.i.ty g1, self_first, y1, _, .ref y2, true, rfl, LK4, .inl ⟨y2, _, rfl, LG4, by simp⟩, _, rfl, _, rfl, ite1 rfl ?_⟩
      refine ⟨(show 0 ≤ sizeLine by decide), fun o3 ho3 => fun y3 dy3 ny3 ndy3 ne3 => ?_⟩
      change upd G4 o3 (.lst []) y3 = none at ny3
      change upd G4 o3 (.lst []) dy3 = none at ndy3
      show spIni K CI C [.ref y3, .int 0, .ref o3, .non] (upd (upd (upd G4 o3 (.lst [])) dy3 (.own y3)) y3 (.ins C dy3 [])) _ _
      have c3 : upd G4 o3 (.lst []) o3 = some (.lst []) := upd_same
      generalize upd G4 o3 (.lst []) = G5 at c3 ny3 ndy3 ⊢
      refine ini_good ny3 ndy3 ne3 (p := some (.int 0)) (g := some (.list (([] : List Int).map .int))) (e := some .none) (.dat (.int 0)) (.dat (.lst (.inl (.inl c3)) (dpAll_ints []))) (.dat .non) (fin_int (by decide)) (fin_list (by decide) (lay_ints _)) fin_none rfl
        (show _ = Sum.inr (([] : List Int), ([] : List Int)) by decide +kernel) (fun G6 s6 LG6 => ?_)
      obtain ⟨lx, lg, le, k1, k2, k3⟩ := LG6.ex
      refine ⟨y3, C, lx, _, _, rfl, k1, L.i.c, L.n2, rfl, (show 0 ≤ sizeLine by decide), fun t4 ht4 => ?_⟩
      refine ⟨.tuple (([] : List Int).map .int), .tuple (([] : List Int).map .int), .tup (.inl (.inl (Sm.new ht4 _ _ k2))) (dpAll_ints _), .tup (.inl (.inl upd_same)) (dpAll_ints []), shaped_tup _, shaped_tup _, ?_⟩
      rw [eqv_tups]
      exact q _
end
end Z
set_option Elab.async false
set_option linter.all false
set_option maxRecDepth 100000
set_option maxHeartbeats 8000000
set_option autoImplicit false
/-! All that the top has written, put together. -/
namespace Z
open PySem PySem.Spec PyProof.Rows L2
open C8 (Cal pe_c Mak pe_mk Met pe_mt pe_mt0 pe_gc)
abbrev s_ie : Stmt := inC (topS 8) 0
theorem sc_ie : FnScope ["self", "word"] ["self", "word"] (defScope s_ie) := ⟨rfl, rfl, rfl, by decide +kernel, rfl, by decide +kernel, by decide +kernel⟩
theorem ok_ie {P : Program} {w : World} {K : PySem.W.Frag} {mg : Str → Option Value} {base : Heap} {C : Addr} {f : Addr} {fd : FuncData} (F : Fun K "__init__" "InvalidLine.__init__" s_ie f fd) (T : ErrC K C) (nf : PySem.W.findIn K (.ref C) "word" = some none) :
    FnOk P w K mg base CX0 1 f fd ["self", "word"] (spErrInit C "word") := by
  refine F.ok sc_ie (fun vs H Q E h => ?_) (fun cdv A outer s H vs Q E hr h => ?_)
  · obtain ⟨a, v, rfl, _⟩ := h
    rfl
  · obtain ⟨a, v, rfl, ea, q⟩ := h
    exact ⟨_, pss_one (ps_errSet (pv 0) (pv 1)), ⟨_, rfl, _, rfl, a, C, rfl, T, nf, ea, fun dx hd ne => q dx hd ne⟩⟩
theorem all_mk {P : Program} {w : World} {K : PySem.W.Frag} {h : Heap} {mg : Str → Option Value} {fa : Addr} (X : K.In h) (G : h.Ns mainGlobals mg) (hfa : mg "law" = some (.ref fa))
    {KE CI CT C TD : Addr}
    {nm0 q0 : Str} {N0 : Addr} {bs0 : List Value} {sn0 : List Str} {sub0 : List Value} {ab0 : Bool} {col0 : Option Bool} {dd0 : Option Addr} {v0a v0b v0c v0d v0e : Option Value}
    {fI : Addr} {ocI kVI dcI pmI cdI ctI : Value} {odI anI : Option Addr} {slI : Array (Option Value)}
    {fC : Addr} {ocC kVC dcC pmC cdC ctC : Value} {odC anC : Option Addr} {slC : Array (Option Value)}
    {ocT : Value} {odT : Option Addr} {nT : Nat} {slT : Array (Option Value)}
    {fE : Addr} {ocE kVE dcE pmE cdE ctE : Value} {odE anE : Option Addr} {slE : Array (Option Value)}
    {f_isint : Addr} {oc_isint kV_isint dc_isint pm_isint cd_isint ct_isint : Value} {od_isint an_isint : Option Addr} {sl_isint : Array (Option Value)}
    {f_isnum : Addr} {oc_isnum kV_isnum dc_isnum pm_isnum cd_isnum ct_isnum : Value} {od_isnum an_isnum : Option Addr} {sl_isnum : Array (Option Value)}
    {f_isseq : Addr} {oc_isseq kV_isseq dc_isseq pm_isseq cd_isseq ct_isseq : Value} {od_isseq an_isseq : Option Addr} {sl_isseq : Array (Option Value)}
    {f_from : Addr} {oc_from kV_from dc_from pm_from cd_from ct_from : Value} {od_from an_from : Option Addr} {sl_from : Array (Option Value)}
    {f_eb : Addr} {oc_eb kV_eb dc_eb pm_eb cd_eb ct_eb : Value} {od_eb an_eb : Option Addr} {sl_eb : Array (Option Value)}
    {f_bits : Addr} {oc_bits kV_bits dc_bits pm_bits cd_bits ct_bits : Value} {od_bits an_bits : Option Addr} {sl_bits : Array (Option Value)}
    {f_nums : Addr} {oc_nums kV_nums dc_nums pm_nums cd_nums ct_nums : Value} {od_nums an_nums : Option Addr} {sl_nums : Array (Option Value)}
    {f_feed : Addr} {oc_feed kV_feed dc_feed pm_feed cd_feed ct_feed : Value} {od_feed an_feed : Option Addr} {sl_feed : Array (Option Value)}
    {f_take : Addr} {oc_take kV_take dc_take pm_take cd_take ct_take : Value} {od_take an_take : Option Addr} {sl_take : Array (Option Value)}
    {f_pick : Addr} {oc_pick kV_pick dc_pick pm_pick cd_pick ct_pick : Value} {od_pick an_pick : Option Addr} {sl_pick : Array (Option Value)}
    {f_some : Addr} {oc_some kV_some dc_some pm_some cd_some ct_some : Value} {od_some an_some : Option Addr} {sl_some : Array (Option Value)}
    {f_due : Addr} {oc_due kV_due dc_due pm_due cd_due ct_due : Value} {od_due an_due : Option Addr} {sl_due : Array (Option Value)}
    {f_good : Addr} {oc_good kV_good dc_good pm_good cd_good ct_good : Value} {od_good an_good : Option Addr} {sl_good : Array (Option Value)}
    {f_ans : Addr} {oc_ans kV_ans dc_ans pm_ans cd_ans ct_ans : Value} {od_ans an_ans : Option Addr} {sl_ans : Array (Option Value)}
    {f_edg : Addr} {oc_edg kV_edg dc_edg pm_edg cd_edg ct_edg : Value} {od_edg an_edg : Option Addr} {sl_edg : Array (Option Value)}
    {f_law : Addr} {oc_law kV_law dc_law pm_law cd_law ct_law : Value} {od_law an_law : Option Addr} {sl_law : Array (Option Value)}
    (aK : PySem.W.nsIn K mainGlobals "KnowError" = some (some (.ref KE)))
    (aI : PySem.W.nsIn K mainGlobals "InvalidLine" = some (some (.ref CI)))
    (aT : PySem.W.nsIn K mainGlobals "InvalidTalk" = some (some (.ref CT)))
    (xI : K.lookup CI = some (excClassObj nm0 q0 CI N0 bs0 (.ref KE :: PySem.HandSPX.veTail) true sn0 sub0 ab0 col0 dd0 v0a v0b v0c v0d v0e "ValueError.__new__"))
    (kI : PySem.W.keepIn K (.ref CI) = true)
    (gaI : PySem.W.findIn K (.ref CI) "__getattribute__" = some (some (.builtin "BaseException.__getattribute__")))
    (ggI : PySem.W.findIn K (.ref CI) "__getattr__" = some none)
    (exI : PySem.W.subIn K (.ref CI) (.type "BaseException") = some true)
    (hdI : PySem.W.hasDictIn K CI = true)
    (saI : PySem.W.findIn K (.ref CI) "__setattr__" = some (some (.builtin "object.__setattr__")))
    (tyI : PySem.W.typeIn K (.ref CI) = some (.type "type"))
    (ssI : PySem.W.subIn K (.ref CI) (.ref CI) = some true)
    (nfI : PySem.W.findIn K (.ref CI) "word" = some none)
    (haI : PySem.W.findIn K (.ref CI) "__class__" = some (some (.builtin "object.__class__")))
    (hmI : PySem.W.mroIn K CI (.type "object") = some true)
    (k1I : PySem.W.kitOne K (.ref CI) (.ref KE) = some true)
    (k2I : PySem.W.kitOne K (.ref CI) (.ref CT) = some false)
    (iiI : PySem.W.findIn K (.ref CI) "__init__" = some (some (.ref fI)))
    (tiI : PySem.W.typeIn K (.ref fI) = some (.type "function"))
    (liI : K.lookup fI = some ⟨ocI, odI, .func (PySem.W.fnOf "__init__" "InvalidLine.__init__" (defArgs s_ie) (defBody s_ie) (defScope s_ie) .none kVI dcI pmI anI cdI ctI), slI⟩)
    (ciI : PySem.W.codeIn K cdI "InvalidLine.__init__" = true)
    (kiI : PySem.W.keepIn K (.ref fI) = true)
    (hn : PySem.W.specialIn K (.builtin "object.__class__") "__get__" = some (some (.builtin "getset_descriptor.__get__")))
    (ht : PySem.W.takesIn K (.builtin "object.__class__") = some true)
    (aC : PySem.W.nsIn K mainGlobals "Line" = some (some (.ref C)))
    (pgC : PySem.W.plainGet K C Str.empty = true)
    (hdC : PySem.W.hasDictIn K C = true)
    (poC : PySem.W.plainOver K C = true)
    (saC : PySem.W.findIn K (.ref C) "__setattr__" = some (some (.builtin "object.__setattr__")))
    (n1C : PySem.W.findIn K (.ref C) "people" = some none)
    (n2C : PySem.W.findIn K (.ref C) "goes" = some none)
    (n3C : PySem.W.findIn K (.ref C) "edges" = some none)
    (mkC : PySem.W.makesIn K C = true)
    (kcC : PySem.W.keepIn K (.ref C) = true)
    (caC : PySem.W.findIn K (.ref C) "__class__" = some (some (.builtin "object.__class__")))
    (cmC : PySem.W.mroIn K C (.type "object") = some true)
    (kiC1 : PySem.W.kitOne K (.ref C) (.type "int") = some false)
    (kbC : PySem.W.kitOne K (.ref C) (.type "bool") = some false)
    (ksC : PySem.W.kitOne K (.ref C) (.type "str") = some false)
    (kqC : PySem.W.kitAny K (.ref C) [.type "list", .type "tuple"] = some false)
    (ktC : PySem.W.kitOne K (.type "tuple") (.ref C) = some false)
    (knC : PySem.W.kitOne K (.type "NoneType") (.ref C) = some false)
    (ftC : PySem.W.notFirst K C (.type "tuple") = true)
    (fnN : PySem.W.notFirst K C (.type "NoneType") = true)
    (iiC : PySem.W.findIn K (.ref C) "__init__" = some (some (.ref fC)))
    (fnC : PySem.W.isFn K (.ref fC) = true)
    (liC : K.lookup fC = some ⟨ocC, odC, .func (PySem.W.fnOf "__init__" "Line.__init__" (defArgs s_ini) (defBody s_ini) (defScope s_ini) (.ref TD) kVC dcC pmC anC cdC ctC), slC⟩)
    (ciC : PySem.W.codeIn K cdC "Line.__init__" = true)
    (kiC : PySem.W.keepIn K (.ref fC) = true)
    (ltT : K.lookup TD = some ⟨ocT, odT, .seq [Value.none, Value.none].toArray nT, slT⟩)
    (iiE : PySem.W.findIn K (.ref C) "__eq__" = some (some (.ref fE)))
    (neE : PySem.W.findIn K (.ref C) "__ne__" = some (some (.builtin "object.__ne__")))
    (fnE : PySem.W.isFn K (.ref fE) = true)
    (liE : K.lookup fE = some ⟨ocE, odE, .func (PySem.W.fnOf "__eq__" "Line.__eq__" (defArgs s_eq) (defBody s_eq) (defScope s_eq) .none kVE dcE pmE anE cdE ctE), slE⟩)
    (ciE : PySem.W.codeIn K cdE "Line.__eq__" = true)
    (kiE : PySem.W.keepIn K (.ref fE) = true)
    (z_int : PySem.W.nsIn K mainGlobals "int" = some none)
    (z_len : PySem.W.nsIn K mainGlobals "len" = some none)
    (z_range : PySem.W.nsIn K mainGlobals "range" = some none)
    (z_tuple : PySem.W.nsIn K mainGlobals "tuple" = some none)
    (z_isinstance : PySem.W.nsIn K mainGlobals "isinstance" = some none)
    (z_list : PySem.W.nsIn K mainGlobals "list" = some none)
    (z_bool : PySem.W.nsIn K mainGlobals "bool" = some none)
    (z_str : PySem.W.nsIn K mainGlobals "str" = some none)
    (z_all : PySem.W.nsIn K mainGlobals "all" = some none)
    (z_set : PySem.W.nsIn K mainGlobals "set" = some none)
    (z_sorted : PySem.W.nsIn K mainGlobals "sorted" = some none)
    (z_max : PySem.W.nsIn K mainGlobals "max" = some none)
    (z_min : PySem.W.nsIn K mainGlobals "min" = some none)
    (z_repr : PySem.W.nsIn K mainGlobals "repr" = some none)
    (a_isint : PySem.W.nsIn K mainGlobals "is_integer" = some (some (.ref f_isint)))
    (l_isint : K.lookup f_isint = some ⟨oc_isint, od_isint, .func (PySem.W.fnOf "is_integer" "is_integer" (defArgs s_isint) (defBody s_isint) (defScope s_isint) .none kV_isint dc_isint pm_isint an_isint cd_isint ct_isint), sl_isint⟩)
    (c_isint : PySem.W.codeIn K cd_isint "is_integer" = true)
    (k_isint : PySem.W.keepIn K (.ref f_isint) = true)
    (a_isnum : PySem.W.nsIn K mainGlobals "is_number" = some (some (.ref f_isnum)))
    (l_isnum : K.lookup f_isnum = some ⟨oc_isnum, od_isnum, .func (PySem.W.fnOf "is_number" "is_number" (defArgs s_isnum) (defBody s_isnum) (defScope s_isnum) .none kV_isnum dc_isnum pm_isnum an_isnum cd_isnum ct_isnum), sl_isnum⟩)
    (c_isnum : PySem.W.codeIn K cd_isnum "is_number" = true)
    (k_isnum : PySem.W.keepIn K (.ref f_isnum) = true)
    (a_isseq : PySem.W.nsIn K mainGlobals "is_sequence" = some (some (.ref f_isseq)))
    (l_isseq : K.lookup f_isseq = some ⟨oc_isseq, od_isseq, .func (PySem.W.fnOf "is_sequence" "is_sequence" (defArgs s_isseq) (defBody s_isseq) (defScope s_isseq) .none kV_isseq dc_isseq pm_isseq an_isseq cd_isseq ct_isseq), sl_isseq⟩)
    (c_isseq : PySem.W.codeIn K cd_isseq "is_sequence" = true)
    (k_isseq : PySem.W.keepIn K (.ref f_isseq) = true)
    (a_from : PySem.W.nsIn K mainGlobals "_are_from" = some (some (.ref f_from)))
    (l_from : K.lookup f_from = some ⟨oc_from, od_from, .func (PySem.W.fnOf "_are_from" "_are_from" (defArgs s_from) (defBody s_from) (defScope s_from) .none kV_from dc_from pm_from an_from cd_from ct_from), sl_from⟩)
    (c_from : PySem.W.codeIn K cd_from "_are_from" = true)
    (k_from : PySem.W.keepIn K (.ref f_from) = true)
    (a_eb : PySem.W.nsIn K mainGlobals "_edges_between" = some (some (.ref f_eb)))
    (l_eb : K.lookup f_eb = some ⟨oc_eb, od_eb, .func (PySem.W.fnOf "_edges_between" "_edges_between" (defArgs s_eb) (defBody s_eb) (defScope s_eb) .none kV_eb dc_eb pm_eb an_eb cd_eb ct_eb), sl_eb⟩)
    (c_eb : PySem.W.codeIn K cd_eb "_edges_between" = true)
    (k_eb : PySem.W.keepIn K (.ref f_eb) = true)
    (a_bits : PySem.W.nsIn K mainGlobals "_bits" = some (some (.ref f_bits)))
    (l_bits : K.lookup f_bits = some ⟨oc_bits, od_bits, .func (PySem.W.fnOf "_bits" "_bits" (defArgs s_bits) (defBody s_bits) (defScope s_bits) .none kV_bits dc_bits pm_bits an_bits cd_bits ct_bits), sl_bits⟩)
    (c_bits : PySem.W.codeIn K cd_bits "_bits" = true)
    (k_bits : PySem.W.keepIn K (.ref f_bits) = true)
    (a_nums : PySem.W.nsIn K mainGlobals "_numbers" = some (some (.ref f_nums)))
    (l_nums : K.lookup f_nums = some ⟨oc_nums, od_nums, .func (PySem.W.fnOf "_numbers" "_numbers" (defArgs s_nums) (defBody s_nums) (defScope s_nums) .none kV_nums dc_nums pm_nums an_nums cd_nums ct_nums), sl_nums⟩)
    (c_nums : PySem.W.codeIn K cd_nums "_numbers" = true)
    (k_nums : PySem.W.keepIn K (.ref f_nums) = true)
    (a_feed : PySem.W.nsIn K mainGlobals "_law_feed" = some (some (.ref f_feed)))
    (l_feed : K.lookup f_feed = some ⟨oc_feed, od_feed, .func (PySem.W.fnOf "_law_feed" "_law_feed" (defArgs s_feed) (defBody s_feed) (defScope s_feed) .none kV_feed dc_feed pm_feed an_feed cd_feed ct_feed), sl_feed⟩)
    (c_feed : PySem.W.codeIn K cd_feed "_law_feed" = true)
    (k_feed : PySem.W.keepIn K (.ref f_feed) = true)
    (a_take : PySem.W.nsIn K mainGlobals "_law_take" = some (some (.ref f_take)))
    (l_take : K.lookup f_take = some ⟨oc_take, od_take, .func (PySem.W.fnOf "_law_take" "_law_take" (defArgs s_take) (defBody s_take) (defScope s_take) .none kV_take dc_take pm_take an_take cd_take ct_take), sl_take⟩)
    (c_take : PySem.W.codeIn K cd_take "_law_take" = true)
    (k_take : PySem.W.keepIn K (.ref f_take) = true)
    (a_pick : PySem.W.nsIn K mainGlobals "_law_pick" = some (some (.ref f_pick)))
    (l_pick : K.lookup f_pick = some ⟨oc_pick, od_pick, .func (PySem.W.fnOf "_law_pick" "_law_pick" (defArgs s_pick) (defBody s_pick) (defScope s_pick) .none kV_pick dc_pick pm_pick an_pick cd_pick ct_pick), sl_pick⟩)
    (c_pick : PySem.W.codeIn K cd_pick "_law_pick" = true)
    (k_pick : PySem.W.keepIn K (.ref f_pick) = true)
    (a_some : PySem.W.nsIn K mainGlobals "_law_some" = some (some (.ref f_some)))
    (l_some : K.lookup f_some = some ⟨oc_some, od_some, .func (PySem.W.fnOf "_law_some" "_law_some" (defArgs s_some) (defBody s_some) (defScope s_some) .none kV_some dc_some pm_some an_some cd_some ct_some), sl_some⟩)
    (c_some : PySem.W.codeIn K cd_some "_law_some" = true)
    (k_some : PySem.W.keepIn K (.ref f_some) = true)
    (a_due : PySem.W.nsIn K mainGlobals "_law_due" = some (some (.ref f_due)))
    (l_due : K.lookup f_due = some ⟨oc_due, od_due, .func (PySem.W.fnOf "_law_due" "_law_due" (defArgs s_due) (defBody s_due) (defScope s_due) .none kV_due dc_due pm_due an_due cd_due ct_due), sl_due⟩)
    (c_due : PySem.W.codeIn K cd_due "_law_due" = true)
    (k_due : PySem.W.keepIn K (.ref f_due) = true)
    (a_good : PySem.W.nsIn K mainGlobals "_law_is_good" = some (some (.ref f_good)))
    (l_good : K.lookup f_good = some ⟨oc_good, od_good, .func (PySem.W.fnOf "_law_is_good" "_law_is_good" (defArgs s_good) (defBody s_good) (defScope s_good) .none kV_good dc_good pm_good an_good cd_good ct_good), sl_good⟩)
    (c_good : PySem.W.codeIn K cd_good "_law_is_good" = true)
    (k_good : PySem.W.keepIn K (.ref f_good) = true)
    (a_ans : PySem.W.nsIn K mainGlobals "_law_answer" = some (some (.ref f_ans)))
    (l_ans : K.lookup f_ans = some ⟨oc_ans, od_ans, .func (PySem.W.fnOf "_law_answer" "_law_answer" (defArgs s_ans) (defBody s_ans) (defScope s_ans) .none kV_ans dc_ans pm_ans an_ans cd_ans ct_ans), sl_ans⟩)
    (c_ans : PySem.W.codeIn K cd_ans "_law_answer" = true)
    (k_ans : PySem.W.keepIn K (.ref f_ans) = true)
    (a_edg : PySem.W.nsIn K mainGlobals "_law_edges" = some (some (.ref f_edg)))
    (l_edg : K.lookup f_edg = some ⟨oc_edg, od_edg, .func (PySem.W.fnOf "_law_edges" "_law_edges" (defArgs s_edg) (defBody s_edg) (defScope s_edg) .none kV_edg dc_edg pm_edg an_edg cd_edg ct_edg), sl_edg⟩)
    (c_edg : PySem.W.codeIn K cd_edg "_law_edges" = true)
    (k_edg : PySem.W.keepIn K (.ref f_edg) = true)
    (a_law : PySem.W.nsIn K mainGlobals "law" = some (some (.ref f_law)))
    (l_law : K.lookup f_law = some ⟨oc_law, od_law, .func (PySem.W.fnOf "law" "law" (defArgs s_law) (defBody s_law) (defScope s_law) .none kV_law dc_law pm_law an_law cd_law ct_law), sl_law⟩)
    (c_law : PySem.W.codeIn K cd_law "law" = true)
    (k_law : PySem.W.keepIn K (.ref f_law) = true) :
    ∃ fd : FuncData, (∀ (s : Shared) (u : Value), BindsTo s fd ⟨[u], []⟩ [("_law_script", u)]) ∧ ∀ base : Heap, K.In base → base.Ns mainGlobals mg → FnG P w K mg base 7 fa fd p_law (spLaw K) := by
  have e := hfa.symm.trans (PySem.W.mg_of X G a_law)
  cases e
  have F_isint := fun_mk (st := s_isint) l_isint c_isint k_isint
  have b_isint := F_isint.binds (ps := ["value"]) fun _ _ _ _ _ _ us hl => match us, hl with | [_], _ => rfl
  have F_isnum := fun_mk (st := s_isnum) l_isnum c_isnum k_isnum
  have b_isnum := F_isnum.binds (ps := ["value"]) fun _ _ _ _ _ _ us hl => match us, hl with | [_], _ => rfl
  have F_isseq := fun_mk (st := s_isseq) l_isseq c_isseq k_isseq
  have b_isseq := F_isseq.binds (ps := ["value"]) fun _ _ _ _ _ _ us hl => match us, hl with | [_], _ => rfl
  have F_from := fun_mk (st := s_from) l_from c_from k_from
  have b_from := F_from.binds (ps := p_from) fun _ _ _ _ _ _ us hl => match us, hl with | [_, _, _], _ => rfl
  have F_eb := fun_mk (st := s_eb) l_eb c_eb k_eb
  have b_eb := F_eb.binds (ps := ["crowds"]) fun _ _ _ _ _ _ us hl => match us, hl with | [_], _ => rfl
  have F_bits := fun_mk (st := s_bits) l_bits c_bits k_bits
  have b_bits := F_bits.binds (ps := ["numbers"]) fun _ _ _ _ _ _ us hl => match us, hl with | [_], _ => rfl
  have F_nums := fun_mk (st := s_nums) l_nums c_nums k_nums
  have b_nums := F_nums.binds (ps := ["bits"]) fun _ _ _ _ _ _ us hl => match us, hl with | [_], _ => rfl
  have F_feed := fun_mk (st := s_feed) l_feed c_feed k_feed
  have b_feed := F_feed.binds (ps := p_feed) fun _ _ _ _ _ _ us hl => match us, hl with | [_, _], _ => rfl
  have F_take := fun_mk (st := s_take) l_take c_take k_take
  have b_take := F_take.binds (ps := p_take) fun _ _ _ _ _ _ us hl => match us, hl with | [_, _], _ => rfl
  have F_pick := fun_mk (st := s_pick) l_pick c_pick k_pick
  have b_pick := F_pick.binds (ps := p_pick) fun _ _ _ _ _ _ us hl => match us, hl with | [_, _], _ => rfl
  have F_some := fun_mk (st := s_some) l_some c_some k_some
  have b_some := F_some.binds (ps := p_some) fun _ _ _ _ _ _ us hl => match us, hl with | [_, _, _], _ => rfl
  have F_due := fun_mk (st := s_due) l_due c_due k_due
  have b_due := F_due.binds (ps := p_due) fun _ _ _ _ _ _ us hl => match us, hl with | [_, _, _], _ => rfl
  have F_good := fun_mk (st := s_good) l_good c_good k_good
  have b_good := F_good.binds (ps := p_good) fun _ _ _ _ _ _ us hl => match us, hl with | [_, _, _], _ => rfl
  have F_ans := fun_mk (st := s_ans) l_ans c_ans k_ans
  have b_ans := F_ans.binds (ps := p_ans) fun _ _ _ _ _ _ us hl => match us, hl with | [_, _, _], _ => rfl
  have F_edg := fun_mk (st := s_edg) l_edg c_edg k_edg
  have b_edg := F_edg.binds (ps := p_edg) fun _ _ _ _ _ _ us hl => match us, hl with | [_, _, _], _ => rfl
  have F_law := fun_mk (st := s_law) l_law c_law k_law
  have F_C : FunD K "__init__" "Line.__init__" (defArgs s_ini) (defBody s_ini) (defScope s_ini) [.non, .non] [] fC _ :=
    ⟨⟨ocC, odC, .ref TD, kVC, dcC, pmC, anC, cdC, ctC, slC, rfl, liC, ciC, .inr ⟨by simp, TD, _, [.none, .none], nT, rfl, ltT, rfl, .cons rfl (.cons rfl .nil)⟩, .inl rfl⟩, kiC⟩
  obtain ⟨d0, v0, b_C0⟩ := F_C.binds1 (ps := p_ini) 4 2 (by simp) rfl fun T kV doc pm an cdv ct us its hu hi => match us, its, hu, hi with | [_, _, _, _], [_, _], _, _ => ⟨_, rfl, rfl⟩
  obtain ⟨d1, v1, b_C1⟩ := F_C.binds1 (ps := p_ini) 2 0 (by simp) rfl fun T kV doc pm an cdv ct us its hu hi => match us, its, hu, hi with | [_, _], [_, _], _, _ => ⟨_, rfl, rfl⟩
  obtain ⟨d2, v2, b_C2⟩ := F_C.binds1 (ps := p_ini) 3 1 (by simp) rfl fun T kV doc pm an cdv ct us its hu hi => match us, its, hu, hi with | [_, _, _], [_, _], _, _ => ⟨_, rfl, rfl⟩
  obtain rfl : d0 = [] := by cases v0; rfl
  obtain rfl : d1 = [.none, .none] := by
    cases v1 with
    | cons r1 v1 =>
      cases v1 with
      | cons r2 v1 =>
        cases v1
        cases r1
        cases r2
        rfl
  obtain rfl : d2 = [.none] := by
    cases v2 with
    | cons r1 v2 =>
      cases v2
      cases r1
      rfl
  have F_I := fun_mk (st := s_ie) liI ciI kiI
  have b_I := F_I.binds (ps := ["self", "word"]) fun _ _ _ _ _ _ us hl => match us, hl with | [_, _], _ => rfl
  have F_E := fun_mk (st := s_eq) liE ciE kiE
  have b_E := F_E.binds (ps := ["self", "other"]) fun _ _ _ _ _ _ us hl => match us, hl with | [_, _], _ => rfl
  have EI : ErrC K CI := ⟨⟨_, _, _, _, _, _, _, _, _, _, _, _, _, _, _, _, _, _, _, PySem.F.excBase_ValueError, (chain_VE (bm := .ref KE :: PySem.HandSPX.veTail) rfl), xI⟩, saI, gaI, ggI, exI, kI, hdI⟩
  have OI : OexC K CI := ⟨⟨nm0, q0, N0, bs0, _, sn0, sub0, ab0, col0, dd0, v0a, v0b, v0c, v0d, v0e, xI, rfl⟩, saI, exI, tyI, kI⟩
  have XI : XfC K CI := ⟨gaI, ggI, exI, hdI⟩
  have XC : ExcC K CI := ⟨gaI, ggI, exI, hdI, haI, hn, ht, hmI⟩
  have ER : ErK K CI KE CT := ⟨XI, XC, nfI, PySem.W.exm_ref (cls := .ref CI) exI hdI tyI ssI, k1I, k2I⟩
  have LC : LnC K C := ⟨⟨⟨pgC, hdC, poC, saC⟩, caC, hn, ht, cmC⟩, ⟨kiC1, kbC, ksC, kqC⟩, n1C, n2C, n3C⟩
  have EQ : EqC K C fE := ⟨iiE, fnE, neE, cmC⟩
  have EK : EqK K C := ⟨ktC, knC, ftC, fnN⟩
  have gC := PySem.W.mg_of X G aC
  have T : Bt mg := ⟨PySem.W.mg_none_of X G z_int, PySem.W.mg_none_of X G z_len, PySem.W.mg_none_of X G z_range, PySem.W.mg_none_of X G z_tuple, PySem.W.mg_none_of X G z_isinstance, PySem.W.mg_none_of X G z_list, PySem.W.mg_none_of X G z_bool, PySem.W.mg_none_of X G z_str, PySem.W.mg_none_of X G z_all, PySem.W.mg_none_of X G z_set, PySem.W.mg_none_of X G z_sorted, PySem.W.mg_none_of X G z_max, PySem.W.mg_none_of X G z_min, PySem.W.mg_none_of X G z_repr⟩
  refine ⟨PySem.W.fnOf "law" "law" (defArgs s_law) (defBody s_law) (defScope s_law) .none kV_law dc_law pm_law an_law cd_law ct_law, fun s u => .of_eq rfl, fun base _ _ => ?_⟩
  have B : BadE P w K mg base "InvalidLine" "word" CI := ⟨OI, PySem.W.mg_of X G aI, _, _, iiI, tiI, ok_ie F_I EI nfI, b_I⟩
  have Cisint : Cal P w K mg base 1 "is_integer" (spAskA K C intA) [] := ⟨⟨_, _, _, [], ok_isint F_isint T LC, PySem.W.mg_of X G a_isint, k_isint, b_isint, .nil⟩⟩
  have Cisnum : Cal P w K mg base 2 "is_number" (spAskA K C numA) [] := ⟨⟨_, _, _, [], ok_isnum F_isnum Cisint, PySem.W.mg_of X G a_isnum, k_isnum, b_isnum, .nil⟩⟩
  have Cisseq : Cal P w K mg base 1 "is_sequence" (spAskA K C fun d => (itemsA d).isSome) [] := ⟨⟨_, _, _, [], ok_isseq F_isseq T LC, PySem.W.mg_of X G a_isseq, k_isseq, b_isseq, .nil⟩⟩
  have Cfrom : Cal P w K mg base 2 "_are_from" (spFrom K C) [] := ⟨⟨_, _, _, [], ok_from F_from T Cisseq Cisint, PySem.W.mg_of X G a_from, k_from, b_from, .nil⟩⟩
  have Ceb : Cal P w K mg base 1 "_edges_between" spEb [] := ⟨⟨_, _, _, [], ok_eb F_eb, PySem.W.mg_of X G a_eb, k_eb, b_eb, .nil⟩⟩
  have Cbits : Cal P w K mg base 1 "_bits" (spBits K) [] := ⟨⟨_, _, _, [], ok_bits F_bits, PySem.W.mg_of X G a_bits, k_bits, b_bits, .nil⟩⟩
  have Cnums : Cal P w K mg base 1 "_numbers" spNums [] := ⟨⟨_, _, _, [], ok_nums F_nums T, PySem.W.mg_of X G a_nums, k_nums, b_nums, .nil⟩⟩
  have FI := ok_ini (P := P) (w := w) (base := base) F_C T B LC Cisnum Cfrom Cbits Ceb Cnums
  have M : Mk K C fC := ⟨mkC, iiC, fnC, kcC⟩
  have FE := ok_eq (P := P) (w := w) (base := base) (k := 0) F_E T LC gC EK
  have Cfeed : Cal P w K mg base 1 "_law_feed" (spFeed K) [] := ⟨⟨_, _, _, [], ok_feed F_feed T, PySem.W.mg_of X G a_feed, k_feed, b_feed, .nil⟩⟩
  have Ctake : Cal P w K mg base 1 "_law_take" spTake [] := ⟨⟨_, _, _, [], ok_take F_take T, PySem.W.mg_of X G a_take, k_take, b_take, .nil⟩⟩
  have Cpick : Cal P w K mg base 2 "_law_pick" (spPick K) [] := ⟨⟨_, _, _, [], ok_pick F_pick T Ctake, PySem.W.mg_of X G a_pick, k_pick, b_pick, .nil⟩⟩
  have Csome : Cal P w K mg base 5 "_law_some" (spSome K C) [] := ⟨⟨_, _, _, [], ok_some F_some T gC M FI b_C1 Ctake Cpick, PySem.W.mg_of X G a_some, k_some, b_some, .nil⟩⟩
  have Cgood : Cal P w K mg base 1 "_law_is_good" (spGood K C) [] := ⟨⟨_, _, _, [], ok_good F_good T LC, PySem.W.mg_of X G a_good, k_good, b_good, .nil⟩⟩
  have Cdue : Cal P w K mg base 2 "_law_due" (spDue K C) [] := ⟨⟨_, _, _, [], ok_due F_due T LC Cgood, PySem.W.mg_of X G a_due, k_due, b_due, .nil⟩⟩
  have Cans : Cal P w K mg base 5 "_law_answer" (spDue K C) [] := ⟨⟨_, _, _, [], ok_ans F_ans T LC (PySem.W.mg_of X G aI) (PySem.W.mg_of X G aK) (PySem.W.mg_of X G aT) gC ER M FI b_C0, PySem.W.mg_of X G a_ans, k_ans, b_ans, .nil⟩⟩
  have Cedg : Cal P w K mg base 6 "_law_edges" (spEdg K C) [] := ⟨⟨_, _, _, [], ok_edg F_edg T Ctake Csome Cgood, PySem.W.mg_of X G a_edg, k_edg, b_edg, .nil⟩⟩
  exact ok_law F_law T LC gC M FI b_C0 b_C1 b_C2 EQ EK FE b_E Cfeed Ctake Cpick Csome Cedg Cdue Cans
theorem walk_law {l : PySem.W.OpenLaw} {q : Program} {loose : List Str} {XP : (Str → Option Value) → Heap → Prop} {YP : World → Heap → Prop} {d : DefRec} {K : Params → PySem.W.Frag} (hn : l.most = some 63) (hdf : d.params.defaults = [])
    (hY : ∀ (w : World) (h : Heap), YP w h → (K w.params).In h)
    (F : ∀ (w : World) (mg : Str → Option Value) (fa : Addr) (h : Heap), (K w.params).In h → h.Ns mainGlobals mg → mg d.name = some (.ref fa) →
      ∃ fd : FuncData, (∀ (s : Shared) (u : Value), BindsTo s fd ⟨[u], []⟩ [("_law_script", u)]) ∧ ∀ base : Heap, (K w.params).In base → base.Ns mainGlobals mg → FnG l.prog w (K w.params) mg base 7 fa fd p_law (spLaw (K w.params))) :
    PySem.W.WalkO q loose XP YP l.row.toRowW d [] (fun f vs => PySem.call f vs) :=
  L2.walk_ofG (n := 63) (k := 7) (x := "_law_script") (sp := fun K => spLaw K) hn (by decide) hdf ⟨rfl, by decide, by decide⟩ hY F (fun _ _ a ns hl _ hS => ⟨a, ns, rfl, hS, hl, fun _ => rfl⟩)
end Z
set_option Elab.async false
set_option linter.all false
open PySem PySem.W PyProof.Rows
set_option maxRecDepth 100000 in
set_option maxHeartbeats 16000000 in
theorem PySem.Challenge.cw_foreheads_k30_lines_made_and_refused_holds : PySem.Challenge.rw_foreheads_k30_lines_made_and_refused.Holds := by
  w_on; o_law; k_head; (case hw => w_witness2)
  k_fill
  refine Z.walk_law (l := PySem.Challenge.rw_foreheads_k30_lines_made_and_refused) rfl rfl (fun w h Y => PySem.W.kIn_of Y) ?F
  case F =>
    intro w mg fa h KX G hmg
    refine' Z.all_mk KX G hmg ?aK ?aI ?aT ?xI ?kI ?gaI ?ggI ?exI ?hdI ?saI ?tyI ?ssI ?nfI ?haI ?hmI ?k1I ?k2I ?iiI ?tiI ?liI ?ciI ?kiI ?hn ?ht ?aC ?pgC ?hdC ?poC ?saC ?n1C ?n2C ?n3C ?mkC ?kcC ?caC ?cmC ?kiC1 ?kbC ?ksC ?kqC ?ktC ?knC ?ftC ?fnN ?iiC ?fnC ?liC ?ciC ?kiC ?ltT ?iiE ?neE ?fnE ?liE ?ciE ?kiE ?z_int ?z_len ?z_range ?z_tuple ?z_isinstance ?z_list ?z_bool ?z_str ?z_all ?z_set ?z_sorted ?z_max ?z_min ?z_repr ?a_isint ?l_isint ?c_isint ?k_isint ?a_isnum ?l_isnum ?c_isnum ?k_isnum ?a_isseq ?l_isseq ?c_isseq ?k_isseq ?a_from ?l_from ?c_from ?k_from ?a_eb ?l_eb ?c_eb ?k_eb ?a_bits ?l_bits ?c_bits ?k_bits ?a_nums ?l_nums ?c_nums ?k_nums ?a_feed ?l_feed ?c_feed ?k_feed ?a_take ?l_take ?c_take ?k_take ?a_pick ?l_pick ?c_pick ?k_pick ?a_some ?l_some ?c_some ?k_some ?a_due ?l_due ?c_due ?k_due ?a_good ?l_good ?c_good ?k_good ?a_ans ?l_ans ?c_ans ?k_ans ?a_edg ?l_edg ?c_edg ?k_edg ?a_law ?l_law ?c_law ?k_law
    (case aK => k_is)
    (case aI => k_is)
    (case aT => k_is)
    (case xI => k_is)
    (case kI => k_is)
    (case gaI => k_is)
    (case ggI => k_is)
    (case exI => k_is)
    (case hdI => k_is)
    (case saI => k_is)
    (case tyI => k_is)
    (case ssI => first | rfl | k_is)
    (case nfI => k_is)
    (case haI => k_is)
    (case hmI => k_is)
    (case k1I => first | kit_is | k_is)
    (case k2I => first | kit_is | k_is)
    (case iiI => k_is)
    (case tiI => k_is)
    (case liI => k_is)
    (case ciI => k_is)
    (case kiI => k_is)
    (case hn => k_is)
    (case ht => k_is)
    (case aC => k_is)
    (case pgC => k_is)
    (case hdC => k_is)
    (case poC => k_is)
    (case saC => k_is)
    (case n1C => k_is)
    (case n2C => k_is)
    (case n3C => k_is)
    (case mkC => k_is)
    (case kcC => k_is)
    (case caC => k_is)
    (case cmC => k_is)
    (case kiC1 => first | kit_is | k_is)
    (case kbC => first | kit_is | k_is)
    (case ksC => first | kit_is | k_is)
    (case kqC => first | kit_is | k_is)
    (case ktC => first | kit_is | k_is)
    (case knC => first | kit_is | k_is)
    (case ftC => k_is)
    (case fnN => k_is)
    (case iiC => k_is)
    (case fnC => k_is)
    (case liC => k_is)
    (case ciC => k_is)
    (case kiC => k_is)
    (case ltT => k_is)
    (case iiE => k_is)
    (case neE => k_is)
    (case fnE => k_is)
    (case liE => k_is)
    (case ciE => k_is)
    (case kiE => k_is)
    (case z_int => k_is)
    (case z_len => k_is)
    (case z_range => k_is)
    (case z_tuple => k_is)
    (case z_isinstance => k_is)
    (case z_list => k_is)
    (case z_bool => k_is)
    (case z_str => k_is)
    (case z_all => k_is)
    (case z_set => k_is)
    (case z_sorted => k_is)
    (case z_max => k_is)
    (case z_min => k_is)
    (case z_repr => k_is)
    (case a_isint => k_is)
    (case l_isint => k_is)
    (case c_isint => k_is)
    (case k_isint => k_is)
    (case a_isnum => k_is)
    (case l_isnum => k_is)
    (case c_isnum => k_is)
    (case k_isnum => k_is)
    (case a_isseq => k_is)
    (case l_isseq => k_is)
    (case c_isseq => k_is)
    (case k_isseq => k_is)
    (case a_from => k_is)
    (case l_from => k_is)
    (case c_from => k_is)
    (case k_from => k_is)
    (case a_eb => k_is)
    (case l_eb => k_is)
    (case c_eb => k_is)
    (case k_eb => k_is)
    (case a_bits => k_is)
    (case l_bits => k_is)
    (case c_bits => k_is)
    (case k_bits => k_is)
    (case a_nums => k_is)
    (case l_nums => k_is)
    (case c_nums => k_is)
    (case k_nums => k_is)
    (case a_feed => k_is)
    (case l_feed => k_is)
    (case c_feed => k_is)
    (case k_feed => k_is)
    (case a_take => k_is)
    (case l_take => k_is)
    (case c_take => k_is)
    (case k_take => k_is)
    (case a_pick => k_is)
    (case l_pick => k_is)
    (case c_pick => k_is)
    (case k_pick => k_is)
    (case a_some => k_is)
    (case l_some => k_is)
    (case c_some => k_is)
    (case k_some => k_is)
    (case a_due => k_is)
    (case l_due => k_is)
    (case c_due => k_is)
    (case k_due => k_is)
    (case a_good => k_is)
    (case l_good => k_is)
    (case c_good => k_is)
    (case k_good => k_is)
    (case a_ans => k_is)
    (case l_ans => k_is)
    (case c_ans => k_is)
    (case k_ans => k_is)
    (case a_edg => k_is)
    (case l_edg => k_is)
    (case c_edg => k_is)
    (case k_edg => k_is)
    (case a_law => k_is)
    (case l_law => k_is)
    (case c_law => k_is)
    (case k_law => k_is)
