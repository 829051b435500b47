import PyProof.Rows.All
import Wide.All
import OpenK.AllK
import Wide.FinOn
import HandS.Base
import HandS.Call
import HandS.List
import HandS.Comp
import HandS.Ends
import HandS.Iter
import HandS.Text
import HandS.IsInst
import HandS.Codes
import HandS.Words
import HandS.More
import HandS.SlotsOwn
import KE.KCallOwn
import KE.KOpsOwn
import KE.KFmtOwn
import HandS.Wide
import HandS.Style
import HandS.WordsList
import PyProof.EqAt
import PyProof.EqKinds
import PyProof.TupleCall
import KE.KFromBytes
import KE.KExcInit
import HandS.Exc
import HandS.ExcInit
import HandS.ExcIs
import HandS.ExcOwn
import HandS.ExcField
import HandS.MakeKwOnly
import KE.KExcIs
import PyProof.ExcBaseAll.IndexError
import PyProof.ExcBaseAll.LookupError
import HandS.Walk
import HandS.WordsExc
import HandS.FStr
import HandS.RaiseMore
import PyProof.ReprRoads
import PyProof.ReprLen
import PyProof.CallFns
import HandS.ClsMeth
import HandS.DictComp
import PyProof.Rows.StrStep
import PyProof.JoinWalk
import PyProof.DictWalks
import HandS.StrMore
import HandS.Deep
import PyProof.Rows.StrReprJoin
import HandS.Defaults
import HandS.Head0
import HandS.Head1
import HandS.Head2
import HandS.Head3
import HandS.HeadHook1
import HandS.HeadHook2
import HandS.HeadNt
import PySem.Challenge.RW_foreheads_k14_sayings_refused
set_option Elab.async false
set_option linter.all false
set_option maxRecDepth 100000
set_option maxHeartbeats 4000000
namespace Z
open PySem PySem.Spec PyProof.Rows L2
def Sm (H H' : Hp) : Prop := ∀ b o, H b = some o → H' b = some o
theorem Sm.refl (H : Hp) : Sm H H := fun _ _ h => h
theorem Sm.trans {H H1 H2 : Hp} (a : Sm H H1) (b : Sm H1 H2) : Sm H H2 := fun c o h => b c o (a c o h)
theorem Sm.new {H : Hp} {p : Addr} {o : HO} (h : H p = none) : Sm H (upd H p o) := fun b u e => by
  rw [upd_ne (ne_of_none e h)]; exact e
theorem Sm.rd {H H' : Hp} {a : Addr} {u : HO} (e : Sm H H') (h : Rd H a u) : Rd H' a u := by
  rcases h with h | ⟨o, h⟩
  · exact .inl (e a _ h)
  · exact .inr ⟨o, e a _ h⟩
theorem Sm.seq {K : PySem.W.Frag} {H H' : Hp} {a : Addr} {xs : List V} (e : Sm H H') (h : SqL K H a xs) : SqL K H' a xs := by
  rcases h with h | h
  · exact .inl (e.rd h)
  · exact .inr h
theorem Sm.tup {K : PySem.W.Frag} {H H' : Hp} {a : Addr} {xs : List V} (e : Sm H H') (h : SqT K H a xs) : SqT K H' a xs := by
  rcases h with h | h
  · exact .inl (e.rd h)
  · exact .inr h
theorem Sm.free {H H' : Hp} (e : Sm H H') {l : Addr} (h : H' l = none) : H l = none := by
  cases q : H l with
  | none => rfl
  | some o => rw [e l o q] at h; cases h
mutual
theorem dp_mono {K : PySem.W.Frag} {H H' : Hp} (e : Sm H H') : ∀ {v : V} {d : PyData}, Dp K H v d → Dp K H' v d
  | _, _, .non => .non
  | _, _, .bl b => .bl b
  | _, _, .int i => .int i
  | _, _, .str x => .str x
  | _, _, .lst s a => .lst (e.seq s) (dpAll_mono e a)
  | _, _, .tup s a => .tup (e.tup s) (dpAll_mono e a)
theorem dpAll_mono {K : PySem.W.Frag} {H H' : Hp} (e : Sm H H') : ∀ {vs : List V} {ds : List PyData}, DpAll K H vs ds → DpAll K H' vs ds
  | _, _, .nil => .nil
  | _, _, .cons h t => .cons (dp_mono e h) (dpAll_mono e t)
end
theorem dpAll_ints {K : PySem.W.Frag} {H : Hp} : ∀ l : List Int, DpAll K H (l.map V.int) (l.map PyData.int)
  | [] => .nil
  | x :: l => .cons (.int x) (dpAll_ints l)
theorem dpAll_strs {K : PySem.W.Frag} {H : Hp} : ∀ l : List Str, DpAll K H (l.map V.str) (l.map PyData.str)
  | [] => .nil
  | x :: l => .cons (.str x) (dpAll_strs l)
theorem dpAll_bools {K : PySem.W.Frag} {H : Hp} : ∀ l : List Bool, DpAll K H (l.map V.bl) (l.map PyData.bool)
  | [] => .nil
  | x :: l => .cons (.bl x) (dpAll_bools l)
theorem dpAll_len {K : PySem.W.Frag} {H : Hp} : ∀ {vs : List V} {ds : List PyData}, DpAll K H vs ds → vs.length = ds.length
  | _, _, .nil => rfl
  | _, _, .cons _ t => by rw [List.length_cons, List.length_cons, dpAll_len t]
theorem dpAll_get {K : PySem.W.Frag} {H : Hp} : ∀ {vs : List V} {ds : List PyData} {i : Nat} {d : PyData}, DpAll K H vs ds → ds[i]? = some d → ∃ v, vs[i]? = some v ∧ Dp K H v d
  | _, _, _, _, .nil, e => by simp at e
  | _, _, 0, _, .cons h t, e => by
    have e' : _ = _ := Option.some.inj e
    subst e'
    exact ⟨_, rfl, h⟩
  | _, _, i + 1, d, .cons h t, e => dpAll_get (i := i) t e
theorem dpAll_append {K : PySem.W.Frag} {H : Hp} : ∀ {vs ws : List V} {ds es : List PyData}, DpAll K H vs ds → DpAll K H ws es → DpAll K H (vs ++ ws) (ds ++ es)
  | _, _, _, _, .nil, h => h
  | _, _, _, _, .cons h t, k => .cons h (dpAll_append t k)
/-! the heap without two addresses -/
def msk (a c : Addr) (H : Hp) : Hp := fun b => if b = a ∨ b = c then none else H b
theorem msk_ne {a c b : Addr} {H : Hp} (h1 : b ≠ a) (h2 : b ≠ c) : msk a c H b = H b := by
  unfold msk; rw [if_neg (fun h => h.elim h1 h2)]
theorem msk_some {a c b : Addr} {H : Hp} {o : HO} (h : msk a c H b = some o) : H b = some o ∧ b ≠ a ∧ b ≠ c := by
  unfold msk at h
  split at h
  · cases h
  · rename_i n
    exact ⟨h, fun e => n (.inl e), fun e => n (.inr e)⟩
theorem msk_le {a c : Addr} {H : Hp} : Sm (msk a c H) H := fun _ _ h => (msk_some h).1
theorem msk_new {a c p : Addr} {H : Hp} {o : HO} (h : H p = none) : Sm (msk a c H) (msk a c (upd H p o)) := fun b u e => by
  obtain ⟨e1, n1, n2⟩ := msk_some e
  rw [msk_ne n1 n2, upd_ne (ne_of_none e1 h)]; exact e1
theorem msk_in {a c p : Addr} {H : Hp} {o : HO} (h : p = a ∨ p = c) : msk a c (upd H p o) = msk a c H := by
  funext b
  unfold msk
  by_cases hb : b = a ∨ b = c
  · rw [if_pos hb, if_pos hb]
  · rw [if_neg hb, if_neg hb, upd_ne]
    intro e
    subst e
    exact hb h
theorem msk_at {a c p : Addr} {H : Hp} {o : HO} (h1 : p ≠ a) (h2 : p ≠ c) : msk a c (upd H p o) p = some o := by
  rw [msk_ne h1 h2, upd_same]
theorem Sm.msk {a c : Addr} {H H' : Hp} (h : Sm H H') : Sm (msk a c H) (msk a c H') := fun b o e => by
  obtain ⟨e1, n1, n2⟩ := msk_some e
  rw [msk_ne n1 n2]; exact h b o e1
/-! the source of draws: a list of a list of numbers and a number -/
structure DealS (H : Hp) (a c : Addr) (cells : List Int) (m : Int) : Prop where
  ha : H a = some (.lst [.ref c, .int m])
  hc : H c = some (.lst (cells.map V.int))
  pos : ∀ x ∈ cells, 0 ≤ x
  len : cells.length ≤ 63
  m0 : 0 ≤ m
  m1 : m < 2147483647
theorem DealS.ne {H : Hp} {a c : Addr} {cells : List Int} {m : Int} (h : DealS H a c cells m) : a ≠ c :=
  ne_of h.ha h.hc (by
    intro e
    injection e with e
    cases cells with
    | nil => cases e
    | cons x r => simp at e)
def DealAt (H : Hp) (a c : Addr) : Prop := ∃ cells m, DealS H a c cells m
theorem DealS.sm {H H' : Hp} {a c : Addr} {cells : List Int} {m : Int} (h : DealS H a c cells m) (e : Sm H H') : DealS H' a c cells m :=
  ⟨e _ _ h.ha, e _ _ h.hc, h.pos, h.len, h.m0, h.m1⟩
theorem DealAt.sm {H H' : Hp} {a c : Addr} (h : DealAt H a c) (e : Sm H H') : DealAt H' a c := let ⟨x, y, z⟩ := h; ⟨x, y, z.sm e⟩
theorem DealAt.newNe {H : Hp} {a c p : Addr} (h : DealAt H a c) (n : H p = none) : p ≠ a ∧ p ≠ c := by
  obtain ⟨x, y, z⟩ := h
  exact ⟨fun e => (by rw [e, z.ha] at n; cases n), fun e => (by rw [e, z.hc] at n; cases n)⟩
def spDraw : Sp := fun vs H Q _ => ∃ (a c : Addr) (n : Int), vs = [.ref a, .int n] ∧ DealAt H a c ∧ 0 < n ∧ n < 1073741824 ∧
  ∀ r H', 0 ≤ r → r < n → DealAt H' a c → Sm (msk a c H) (msk a c H') → Q (.int r) H'
theorem shaped_ints (l : List Int) : SeqAt.shaped (.list (l.map PyData.int)) = true := by
  have h1 : ∀ l : List Int, PyData.canLayAll0 (l.map PyData.int) = true := fun l => by
    induction l with
    | nil => simp [PyData.canLayAll0]
    | cons x l ih => simp [PyData.canLayAll0, PyData.canLay0, ih]
  have h2 : ∀ l : List Int, PyData.depthAll (l.map PyData.int) ≤ 1 := fun l => by
    induction l with
    | nil => simp [PyData.depthAll]
    | cons x l ih => simp [PyData.depthAll, PyData.depth] <;> omega
  unfold SeqAt.shaped
  rw [Bool.and_eq_true]
  refine ⟨by simp [PyData.canLay0, h1], decide_eq_true ?_⟩
  have := h2 l
  simp only [PyData.depth]
  omega
end Z
namespace Z
open PySem PySem.Spec PyProof.Rows L2
theorem ite0 {b : Bool} {A B : Prop} (e : b = false) (h : B) : if b = true then A else B := by
  subst e
  exact iteFF h
where iteFF {A B : Prop} (h : B) : if false = true then A else B := by rw [if_neg Bool.false_ne_true]; exact h
theorem ite1 {b : Bool} {A B : Prop} (e : b = true) (h : A) : if b = true then A else B := by
  subst e
  rw [if_pos rfl]; exact h
theorem iteB {b : Bool} {A B : Prop} (h1 : b = true → A) (h0 : b = false → B) : if b = true then A else B := by
  cases b with
  | true => rw [if_pos rfl]; exact h1 rfl
  | false => rw [if_neg Bool.false_ne_true]; exact h0 rfl
theorem snoc_cases {α : Type} (l : List α) : l = [] ∨ ∃ r z, l = r ++ [z] := by
  rcases h : l.reverse with _ | ⟨z, r⟩
  · left
    exact List.reverse_eq_nil_iff.mp h
  · right
    refine ⟨r.reverse, z, ?_⟩
    have := congrArg List.reverse h
    rw [List.reverse_reverse, List.reverse_cons] at this
    exact this
theorem neq_nil0 {ds : List PyData} (h : ds = []) : (!PyData.eqv (.list ds) (.list [])) = false := by
  subst h; simp [PyData.eqv, PyData.eqvAll]
theorem neq_nil1 {ds : List PyData} (h : ds ≠ []) : (!PyData.eqv (.list ds) (.list [])) = true := by
  cases ds with
  | nil => exact absurd rfl h
  | cons x r => simp [PyData.eqv, PyData.eqvAll]
theorem neq_nil {ds : List PyData} : (!PyData.eqv (.list ds) (.list [])) = !ds.isEmpty := by
  cases ds with
  | nil => simp [PyData.eqv, PyData.eqvAll]
  | cons x r => simp [PyData.eqv, PyData.eqvAll]
theorem shaped_nil : SeqAt.shaped (.list []) = true := by decide +kernel
theorem last_get {α : Type} (l : List α) (z : α) : (l ++ [z])[(l ++ [z]).length - 1]? = some z := by
  rw [List.length_append, List.length_singleton, Nat.add_sub_cancel]
  exact List.getElem?_concat_length
end Z

theorem List.getElem?_map_some {α β : Type} {f : α → β} {l : List α} {i : Nat} {x : β} (h : (l.map f)[i]? = some x) : ∃ y, l[i]? = some y ∧ f y = x := by
  rw [List.getElem?_map] at h
  cases e : l[i]? with
  | none => rw [e] at h; cases h
  | some y => rw [e] at h; exact ⟨y, rfl, Option.some.inj h⟩
set_option Elab.async false
set_option linter.all false
set_option maxRecDepth 100000
set_option maxHeartbeats 4000000
set_option autoImplicit false
/-! Instances of a family of classes, each with a def of its own: o.m(), str(o), ~o. -/
namespace Z
open PySem PySem.Spec PyProof.Rows L2
open C8 (Cal pe_c Mak pe_mk Met pe_mt pe_mt0 pe_gc)
/-- o.m(), o of one of the classes -/
def tMethF {ι : Type} (C : ι → Addr) (m : Str) (sp : ι → Sp) (ta : TE) : TE := fun σ H Q => ta σ H fun x H1 => ∃ (i : ι) (a dx : Addr) (fs : List (Str × V)), x = .ref a ∧ H1 a = some (.ins (C i) dx fs) ∧ fs.lookup m = none ∧ sp i [.ref a] H1 Q E0
/-- str(o) -/
def rStrF {ι : Type} (C : ι → Addr) (sp : ι → Sp) : List V → Hp → VK → Prop := fun xs H Q => ∃ (i : ι) (a dx : Addr) (fs : List (Str × V)), xs = [.ref a] ∧ H a = some (.ins (C i) dx fs) ∧ sp i [.ref a] H (fun z H' => ∃ t : Str, z = .str t ∧ Q z H') E0
/-- ~o -/
def rInvF {ι : Type} (C : ι → Addr) (sp : ι → Sp) : V → Hp → VK → Prop := fun x H Q => ∃ (i : ι) (a dx : Addr) (fs : List (Str × V)), x = .ref a ∧ H a = some (.ins (C i) dx fs) ∧ sp i [.ref a] H Q E0
section
variable {X : Cx} {ι : Type} {C : ι → Addr} {sp : ι → Sp} {k j : Nat} {m : Str} {ta : TE} {o : Expr} {apos pos : Pos}
theorem pe_mtF {pl : Sem Bool} (c : ∀ i, Met X.prog X.w X.K X.mg X.base k (C i) m (sp i) []) (hr : Room j X.A) (hk : k ≤ j) (he : PE X o ta)
    (ht : eval (.Call (.Attribute o m apos) [] [] pos) X.env = (do
      let ov ← eval o X.env
      standAt apos.atName
      let (f, first) ← holding [ov] (getMethod ov m pl)
      callWith pos f first (backTo pos (starEach [] X.env)) (backToKw pos (keywordEach [] X.env))) := by rfl) :
    PE X (.Call (.Attribute o m apos) [] [] pos) (tMethF C m sp ta) := by
  refine ⟨fun pins s σ H Q I h => ?_⟩
  refine PySem.W.methodCall_KW (pl := pl) (thn (he.run pins s σ H _ I h) fun u s1 ⟨x, H1, I1, rx, i, a, dx, fs, ex, ea, l, q⟩ => ?_) ht
  subst ex
  obtain rfl : u = Value.ref a := rx
  obtain ⟨f, fd, ps, ds, hc, hm, F, b, d⟩ := (c i).ex
  refine getmeth_ok I1 ea hc hm l ?_
  refine PySem.W.callWith_K0 (first := [.ref a]) I1.kIn hm.kp (run_fn (us := [.ref a]) (vs := [.ref a]) F (hr.mono hk) b d pass0 I1 (.cons rfl .nil) ?_)
  cases d
  exact q
theorem run_metIn {i : ι} {A : Around} {us : List Value} {vs : List V} {pins : List (Addr × Obj)} {σ : L2.St} {H : Hp} {s : Shared} {Q : VK} (c : Met X.prog X.w X.K X.mg X.base k (C i) m (sp i) []) (hr : Room k A)
    (e0 : Env0 X.prog X.w X.K X.mg X.base A X.stack s H) (I : Inv X pins σ H s) (r : Vals vs us) (h : sp i vs H Q E0) :
    ∃ f, PySem.W.findIn X.K (.ref (C i)) m = some (some (.ref f)) ∧ PySem.W.isFn X.K (.ref f) = true ∧ wpAny (model X.prog X.w) A (call (.ref f) us) (EP X pins σ Q) X.xe s := by
  obtain ⟨f, fd, ps, ds, hc, hm, F, b, d⟩ := c.ex
  refine ⟨f, hm.at_, hm.fn, ?_⟩
  have R := F.raw b d
  cases d
  exact wpAny_call (SlX.run_at (us := us) (ws := vs) R hr e0 pass0 I r (by rw [List.append_nil]; exact h))
theorem call_strF (c : ∀ i, Met X.prog X.w X.K X.mg X.base k (C i) "__str__" (sp i) []) (hr : Room j X.A) (hk : k + 2 ≤ j) : CallR X (.type "str") (rStrF C sp) := by
  intro pins s σ H xs us Q I r h
  obtain ⟨i, a, dx, fs, rfl, ea, q⟩ := h
  obtain ⟨u, rfl, ru⟩ := r.one
  cases (show u = Value.ref a from ru)
  obtain ⟨mA, J, _⟩ := ins_get I.hok ea
  obtain ⟨od, J, _⟩ := J.look
  have hr' := hr.mono hk
  have hr2 : Room k X.A.in1.in1 := (show Room (k + 1) X.A.in1 from Room.in1 hr').in1
  obtain ⟨f, hs, hf, run⟩ := run_metIn (us := [.ref a]) (vs := [.ref a]) (c i) hr2 I.env0.in1.in1 I (.cons rfl .nil) q
  refine PySem.W.kso_call hr2.units0 I.kIn J hs hf (wpAny_mono run (fun w s' z => ?_) fun _ _ x => x)
  obtain ⟨z', H', I', rz, t, ez, qz⟩ := z
  subst ez
  obtain ⟨tk, e⟩ := (show ∃ tk, w = Value.str t tk from rz)
  cases e
  exact ⟨.str t, H', I', ⟨tk, rfl⟩, qz⟩
theorem un_invF (c : ∀ i, Met X.prog X.w X.K X.mg X.base k (C i) "__invert__" (sp i) []) (hr : Room j X.A) (hk : k ≤ j) : UnR X (unaryOp .Invert) (rInvF C sp) := by
  intro pins s σ H x u Q I rx h
  obtain ⟨i, a, dx, fs, rfl, ea, q⟩ := h
  cases (show u = Value.ref a from rx)
  obtain ⟨mA, J, _⟩ := ins_get I.hok ea
  obtain ⟨od, J, _⟩ := J.look
  obtain ⟨f, hs, hf, run⟩ := run_metIn (us := [.ref a]) (vs := [.ref a]) (c i) (hr.mono hk) I.env0 I (.cons rfl .nil) q
  obtain ⟨m, hF⟩ := I.fr
  exact PySem.W.ksp_inv hF I.ok.mod.kin J hs hf run
end
end Z
set_option Elab.async false
set_option linter.all false
set_option maxRecDepth 100000
set_option maxHeartbeats 4000000
/-! The draws of a law by boxes: feed, take, pick. -/
namespace Z
open PySem PySem.Spec PyProof.Rows L2
open C8 (Cal pe_c Mak pe_mk Met pe_mt pe_mt0 pe_gc)
def topS (i : Nat) : Stmt := PySem.Challenge.pw_foreheads_k14_sayings_refused.main.body.getD i (.Pass ⟨0, 0, 0, 0⟩)
theorem log_lt {n : Int} (h : n < 1073741824) : n.natAbs.log2 < 9000 ∨ n < 0 := by
  by_cases h0 : n < 0
  · exact .inr h0
  · left
    have : n.natAbs < 2 ^ 30 := by omega
    by_cases hz : n.natAbs = 0
    · rw [hz]; decide
    · have := (Nat.log2_lt hz).mpr this
      omega
structure Bt (mg : Str → Option Value) : Prop where
  n_int : mg "int" = none
  n_len : mg "len" = none
  n_range : mg "range" = none
  n_tuple : mg "tuple" = none
  n_isinstance : mg "isinstance" = none
  n_list : mg "list" = none
  n_bool : mg "bool" = none
  n_str : mg "str" = none
  n_all : mg "all" = none
  n_set : mg "set" = none
  n_sorted : mg "sorted" = none
  n_max : mg "max" = none
  n_min : mg "min" = none
  n_repr : mg "repr" = none
/-- a box: two numbers that are drawn from -/
structure BoxS (H : Hp) (a : Addr) (c0 c1 : Int) : Prop where
  ha : H a = some (.lst [.int c0, .int c1])
  p0 : 0 ≤ c0
  p1 : 0 ≤ c1
  b1 : c1 < 2147483648
def BoxAt (H : Hp) (a : Addr) : Prop := ∃ c0 c1, BoxS H a c0 c1
theorem BoxAt.sm {H H' : Hp} {a : Addr} (h : BoxAt H a) (e : Sm H H') : BoxAt H' a := let ⟨x, y, z⟩ := h; ⟨x, y, e _ _ z.ha, z.p0, z.p1, z.b1⟩
theorem BoxAt.newNe {H : Hp} {a p : Addr} (h : BoxAt H a) (n : H p = none) : p ≠ a := by
  obtain ⟨x, y, z⟩ := h
  exact fun e => by rw [e, z.ha] at n; cases n
def spTake : Sp := fun vs H Q _ => ∃ (a : Addr) (n : Int), vs = [.ref a, .int n] ∧ BoxAt H a ∧ 0 < n ∧ n < 1073741824 ∧
  ∀ r H', 0 ≤ r → r < n → BoxAt H' a → Sm (msk a a H) (msk a a H') → Q (.int r) H'
theorem msk1 {a : Addr} {H : Hp} {o : HO} : msk a a (upd H a o) = msk a a H := msk_in (.inl rfl)
section
variable {P : Program} {w : World} {K : PySem.W.Frag} {mg : Str → Option Value} {base : Heap}
abbrev s_take : Stmt := topS 48
abbrev n_take : List Str := ["_law_box", "_law_many", "_law_digit", "_law_one"]
abbrev p_take : List Str := ["_law_box", "_law_many"]
theorem sc_take : FnScope n_take p_take (defScope s_take) := ⟨rfl, rfl, rfl, by decide +kernel, rfl, by decide +kernel, by decide +kernel⟩
theorem ok_take {f : Addr} {fd : FuncData} {k : Nat} (F : Fun K "_law_take" "_law_take" s_take f fd) (T : Bt mg) : FnOk P w K mg base CX0 (k + 1) f fd p_take spTake := by
  refine F.ok sc_take (fun vs H Q E h => ?_) (fun cdv A outer s H vs Q E hr h => ?_)
  · obtain ⟨a, n, rfl, _⟩ := h
    rfl
  · obtain ⟨a, n, rfl, ⟨c0, c1, hS⟩, n0, n1, q⟩ := h
    refine ⟨_, (pss_cons (ps_if (pt_cmpR op_gt (pe_ix ix_list (pv 0) pe_int (fun _ _ => rfl)) pe_int (nomark _))
        (pss_cons (ps_set (i := 2) sc_take.nd rfl (Or.inl rfl) (pe_op op_mod (pe_callTy call_int1 (by rfl) T.n_int (by decide +kernel) (pa_cons (pe_ix ix_list (pv 0) pe_int (fun _ _ => rfl)) pa_nil)) (pv 1)))
        (pss_cons (ps_asg (pe_op op_fdivW (pe_ix ix_list (pv 0) pe_int (fun _ _ => rfl)) (pv 1)) (pg_sub (pv 0) pe_int set_list))
        (pss_one (ps_ret (pv 2)))))
        pss_nil)
      (pss_cons (ps_set (i := 3) sc_take.nd rfl (Or.inl rfl) (pe_op op_mod (pe_callTy call_int1 (by rfl) T.n_int (by decide +kernel) (pa_cons (pe_op op_mul (pe_ix ix_list (pv 0) pe_int (fun _ _ => rfl)) pe_int) pa_nil)) pe_int))
      (pss_cons (ps_asg (pe_op op_add (pe_op op_mod (pe_callTy call_int1 (by rfl) T.n_int (by decide +kernel) (pa_cons (pe_op op_add (pe_op op_mul (pv 3) pe_int) pe_int) pa_nil)) pe_int) pe_int) (pg_sub (pv 0) pe_int set_list))
      (pss_one (ps_ret (pe_op op_mod (pe_callTy call_int1 (by rfl) T.n_int (by decide +kernel) (pa_cons (pe_op op_fdivW (pe_op op_add (pe_op op_mul (pv 3) pe_int) (pe_ix ix_list (pv 0) pe_int (fun _ _ => rfl))) pe_int) pa_nil)) (pv 1))))))), ?_⟩
    have hL : SqL K H a [.int c0, .int c1] := .inl (.inl hS.ha)
    refine ⟨_, rfl, a, _, 0, _, rfl, rfl, hL, atI_nat (j := 0) rfl, _, _, rfl, rfl, _, rfl, iteB (fun hb => ?_) (fun hb => ?_)⟩
    · have hc : 0 < c0 := of_decide_eq_true hb
      refine ⟨_, rfl, a, _, 0, _, rfl, rfl, hL, atI_nat (j := 0) rfl, .inl ⟨_, rfl, _, rfl, c0, n, rfl, rfl, n0, ?_⟩⟩
      refine ⟨_, rfl, a, _, 0, _, rfl, rfl, hL, atI_nat (j := 0) rfl, _, rfl, c0, n, rfl, rfl, ⟨n0, (log_lt n1).resolve_right (by omega)⟩, _, rfl, a, _, 0, 0, rfl, rfl, hS.ha, rfl, ?_⟩
      refine ⟨_, rfl, q _ _ (Int.emod_nonneg _ (by omega)) (Int.emod_lt_of_pos _ n0) ⟨c0 / n, c1, upd_same, Int.ediv_nonneg hS.p0 (by omega), hS.p1, hS.b1⟩ ?_⟩
      rw [msk1]
      exact Sm.refl _
    · refine ⟨_, rfl, a, _, 1, _, rfl, rfl, hL, atI_nat (j := 1) rfl, c1, 69623, rfl, rfl, .inr ⟨by decide, by decide⟩, .inl ⟨_, rfl, _, _, rfl, rfl, (show (0 : Int) < 2147483647 by decide), ?_⟩⟩
      have m0 : 0 ≤ c1 * 69623 % 2147483647 := Int.emod_nonneg _ (by decide)
      have m1 : c1 * 69623 % 2147483647 < 2147483647 := Int.emod_lt_of_pos _ (by decide)
      refine ⟨_, rfl, _, 48271, rfl, rfl, .inr ⟨by decide, by decide⟩, _, _, rfl, rfl, .inl ⟨_, rfl, _, 2147483629, rfl, rfl, (show (0 : Int) < 2147483629 by decide), _, _, rfl, rfl, _, rfl, a, _, 1, 1, rfl, rfl, hS.ha, rfl, ?_⟩⟩
      obtain ⟨u, hu⟩ : ∃ u, u = (c1 * 69623 % 2147483647 * 48271 + 30103) % 2147483629 := ⟨_, rfl⟩
      have k0 : 0 ≤ u := by rw [hu]; exact Int.emod_nonneg _ (by decide)
      have k1 : u < 2147483629 := by rw [hu]; exact Int.emod_lt_of_pos _ (by decide)
      have hL2 : SqL K (upd H a (.lst [.int c0, .int (u + 1)])) a [.int c0, .int (u + 1)] := .inl (.inl upd_same)
      rw [hu] at hL2 k0 k1
      refine ⟨_, rfl, _, 2147483647, rfl, rfl, .inr ⟨by decide, by decide⟩, _, rfl, a, _, 1, _, rfl, rfl, hL2, atI_nat (j := 1) rfl, _, _, rfl, rfl, _, _, rfl, rfl, ⟨by decide, by decide⟩, .inl ⟨_, rfl, _, rfl, _, n, rfl, rfl, n0, ?_⟩⟩
      refine q _ _ (Int.emod_nonneg _ (by omega)) (Int.emod_lt_of_pos _ n0) ⟨c0, _, upd_same, hS.p0, by omega, by omega⟩ ?_
      show Sm (msk a a H) (msk a a (upd H a _))
      rw [msk1]
      exact Sm.refl _
/-! feed -/
theorem feed_pow (c : Int) {b : Int} (b0 : 0 ≤ b) (b1 : b < 1000) : (0 : Int) ≤ 5 ∧ (5 : Int) ≤ 1000000 ∧ (c % 2147483629 + 104729 * b + 1).natAbs < 2 ^ 64 := by
  have c0 : 0 ≤ c % 2147483629 := Int.emod_nonneg _ (by decide)
  have c1 : c % 2147483629 < 2147483629 := Int.emod_lt_of_pos _ (by decide)
  exact ⟨by decide, by decide, by omega⟩
theorem feed_ix (c : Int) : atI [V.int 0, .int c] (if decide ((10 : Int) ^ (18 : Int).toNat ≤ c) = true then 1 else 0) = some (.int (if 1000000000000000000 ≤ c then c else 0)) := by
  by_cases h : (1000000000000000000 : Int) ≤ c
  · rw [if_pos h, if_pos (decide_eq_true (p := (10 : Int) ^ (18 : Int).toNat ≤ c) h)]
    exact atI_nat (j := 1) rfl
  · rw [if_neg h, if_neg (fun z => h (of_decide_eq_true (p := (10 : Int) ^ (18 : Int).toNat ≤ c) z))]
    exact atI_nat (j := 0) rfl
abbrev s_feed : Stmt := topS 47
abbrev n_feed : List Str := ["_law_script", "_law_k", "_law_cell", "_law_seed"]
abbrev p_feed : List Str := ["_law_script", "_law_k"]
theorem sc_feed : FnScope n_feed p_feed (defScope s_feed) := ⟨rfl, rfl, rfl, by decide +kernel, rfl, by decide +kernel, by decide +kernel⟩
def spFeed (K : PySem.W.Frag) : Sp := fun vs H Q _ => ∃ (a : Addr) (ns : List Int) (k : Int), vs = [.ref a, .int k] ∧ SqL K H a (ns.map V.int) ∧ 0 ≤ k ∧ k < 1000 ∧
  ∀ d H', Sm H H' → H d = none → BoxAt H' d → Q (.ref d) H'
theorem ok_feed {f : Addr} {fd : FuncData} {k : Nat} (F : Fun K "_law_feed" "_law_feed" s_feed f fd) (T : Bt mg) : FnOk P w K mg base CX0 (k + 1) f fd p_feed (spFeed K) := by
  refine F.ok sc_feed (fun vs H Q E h => ?_) (fun cdv A outer s H vs Q E hr h => ?_)
  · obtain ⟨a, ns, b, rfl, _⟩ := h
    rfl
  · obtain ⟨a, ns, b, rfl, hS, b0, b1, q⟩ := h
    refine ⟨_, (pss_cons (ps_set (i := 2) sc_feed.nd rfl (Or.inl rfl) (pe_op op_add (pe_op op_mul pe_int (pv 1)) pe_int))
      (pss_cons (ps_if (pt_cmpR op_lt (pv 1) (pe_callB call_len_seq (by rfl) T.n_len (by decide +kernel) (pa_cons (pv 0) pa_nil)) (nomark _))
        (pss_one (ps_set (i := 2) sc_feed.nd rfl (Or.inl rfl) (pe_ix ix_list (pv 0) (pv 1) (fun _ _ => rfl))))
        (pss_one (ps_if (pt_cmpR op_gt (pe_callB call_len_seq (by rfl) T.n_len (by decide +kernel) (pa_cons (pv 0) pa_nil)) pe_int (nomark _))
          (pss_one (ps_set (i := 2) sc_feed.nd rfl (Or.inl rfl) (pe_op op_add (pv 2) (pe_op op_mul (pe_op op_mod (pe_callTy call_int1 (by rfl) T.n_int (by decide +kernel) (pa_cons (pe_ix ix_list (pv 0) (pe_op op_mod (pv 1) (pe_callB call_len_seq (by rfl) T.n_len (by decide +kernel) (pa_cons (pv 0) pa_nil))) (fun _ _ => rfl)) pa_nil)) pe_int) pe_int))))
          pss_nil)))
      (pss_cons (ps_set (i := 3) sc_feed.nd rfl (Or.inl rfl) (pe_op op_mod (pe_op op_pow (pe_op op_add (pe_op op_add (pe_op op_mod (pe_callTy call_int1 (by rfl) T.n_int (by decide +kernel) (pa_cons (pv 2) pa_nil)) pe_int) (pe_op op_mul pe_int (pv 1))) pe_int) pe_int) pe_int))
      (pss_one (ps_ret (pe_lst (pa_cons (pe_ix ix_list (pe_lst (pa_cons pe_int (pa_cons (pv 2) pa_nil))) (pe_callTy call_int1 (by rfl) T.n_int (by decide +kernel) (pa_cons (pe_cmpR op_ge (pv 2) (pe_op op_pow pe_int pe_int) (nomark _)) pa_nil)) (fun _ _ => rfl)) (pa_cons (pe_op op_add (pe_op op_mod (pe_callTy call_int1 (by rfl) T.n_int (by decide +kernel) (pa_cons (pv 3) pa_nil)) pe_int) pe_int) pa_nil)))))))), ?_⟩
    refine ⟨_, rfl, 7919, b, rfl, rfl, .inl ⟨by decide, by decide⟩, _, _, rfl, rfl, ?_⟩
    have hlen : (ns.map V.int).length = ns.length := List.length_map ..
    have fin : ∀ (c z : Int) (d : Addr) (H1 : Hp), Sm H H1 → H d = none → 0 ≤ z → z < 2147483647 → Q (.ref d) (upd H1 d (.lst [.int (if 1000000000000000000 ≤ c then c else 0), .int (z % 2147483646 + 1)])) := fun c z d H1 e n z0 z1 => by
      have y0 : 0 ≤ z % 2147483646 := Int.emod_nonneg _ (by decide)
      have y1 : z % 2147483646 < 2147483646 := Int.emod_lt_of_pos _ (by decide)
      refine q d _ (fun b o h => ?_) n ⟨_, _, upd_same, ?_, by omega, by omega⟩
      · rw [upd_ne (ne_of_none h n)]
        exact e b o h
      · split <;> omega
    refine ⟨_, rfl, _, rfl, a, _, rfl, .inl hS, b, _, rfl, rfl, _, rfl, iteB (fun hb => ?_) (fun hb => ?_)⟩
    · have hb' : b.toNat < ns.length := by have := of_decide_eq_true hb; omega
      refine ⟨_, rfl, _, rfl, a, _, b, .int ns[b.toNat], rfl, rfl, hS, at_of (j := b.toNat) (by omega) (by rw [List.getElem?_map, List.getElem?_eq_getElem hb']; rfl), ?_⟩
      refine ⟨_, rfl, .inl ⟨_, rfl, _, 2147483629, rfl, rfl, (show (0 : Int) < 2147483629 by decide), _, rfl, 104729, b, rfl, rfl, .inl ⟨by decide, by decide⟩, _, _, rfl, rfl, _, _, rfl, rfl, _, 5, rfl, rfl, feed_pow _ b0 b1, _, 2147483647, rfl, rfl, (show (0 : Int) < 2147483647 by decide), ?_⟩⟩
      refine ⟨_, rfl, (show 2 ≤ sizeLine by decide), fun p hp => ⟨_, rfl, 10, 18, rfl, rfl, ⟨by decide, by decide, by decide⟩, _, _, rfl, rfl, .inr ⟨_, rfl, p, _, _, _, rfl, rfl, .inl (.inl upd_same), feed_ix _, ?_⟩⟩⟩
      refine ⟨_, rfl, .inl ⟨_, rfl, _, 2147483646, rfl, rfl, (show (0 : Int) < 2147483646 by decide), _, _, rfl, rfl, (show 2 ≤ sizeLine by decide), fun d hd => ?_⟩⟩
      exact fin _ _ d _ (Sm.new hp) ((Sm.new hp).free hd) (Int.emod_nonneg _ (by decide)) (Int.emod_lt_of_pos _ (by decide))
    · refine ⟨_, rfl, a, _, rfl, .inl hS, _, _, rfl, rfl, _, rfl, iteB (fun hb2 => ?_) (fun hb2 => ?_)⟩
      · have hl : 0 < ns.length := by have := of_decide_eq_true hb2; omega
        have hj : (b % (((ns.map V.int).length : Nat) : Int)).toNat < ns.length := by
          have h1 := Int.emod_nonneg b (b := (((ns.map V.int).length : Nat) : Int)) (by omega)
          have h2 := Int.emod_lt_of_pos b (b := (((ns.map V.int).length : Nat) : Int)) (by omega)
          omega
        refine ⟨_, rfl, _, rfl, _, rfl, _, rfl, a, _, rfl, .inl hS, b, _, rfl, rfl, (by show (0 : Int) < _; omega), a, _, _, .int ns[(b % (((ns.map V.int).length : Nat) : Int)).toNat], rfl, rfl, hS, at_of (j := (b % (((ns.map V.int).length : Nat) : Int)).toNat) (by have h1 := Int.emod_nonneg b (b := (((ns.map V.int).length : Nat) : Int)) (by omega); omega) (by rw [List.getElem?_map, List.getElem?_eq_getElem hj]; rfl), ?_⟩
        refine .inl ⟨_, rfl, _, 2147483629, rfl, rfl, (show (0 : Int) < 2147483629 by decide), _, 69623, rfl, rfl, .inr ⟨by decide, by decide⟩, _, _, rfl, rfl, ?_⟩
        refine ⟨_, rfl, .inl ⟨_, rfl, _, 2147483629, rfl, rfl, (show (0 : Int) < 2147483629 by decide), _, rfl, 104729, b, rfl, rfl, .inl ⟨by decide, by decide⟩, _, _, rfl, rfl, _, _, rfl, rfl, _, 5, rfl, rfl, feed_pow _ b0 b1, _, 2147483647, rfl, rfl, (show (0 : Int) < 2147483647 by decide), ?_⟩⟩
        refine ⟨_, rfl, (show 2 ≤ sizeLine by decide), fun p hp => ⟨_, rfl, 10, 18, rfl, rfl, ⟨by decide, by decide, by decide⟩, _, _, rfl, rfl, .inr ⟨_, rfl, p, _, _, _, rfl, rfl, .inl (.inl upd_same), feed_ix _, ?_⟩⟩⟩
        refine ⟨_, rfl, .inl ⟨_, rfl, _, 2147483646, rfl, rfl, (show (0 : Int) < 2147483646 by decide), _, _, rfl, rfl, (show 2 ≤ sizeLine by decide), fun d hd => ?_⟩⟩
        exact fin _ _ d _ (Sm.new hp) ((Sm.new hp).free hd) (Int.emod_nonneg _ (by decide)) (Int.emod_lt_of_pos _ (by decide))
      · refine ⟨_, rfl, .inl ⟨_, rfl, _, 2147483629, rfl, rfl, (show (0 : Int) < 2147483629 by decide), _, rfl, 104729, b, rfl, rfl, .inl ⟨by decide, by decide⟩, _, _, rfl, rfl, _, _, rfl, rfl, _, 5, rfl, rfl, feed_pow _ b0 b1, _, 2147483647, rfl, rfl, (show (0 : Int) < 2147483647 by decide), ?_⟩⟩
        refine ⟨_, rfl, (show 2 ≤ sizeLine by decide), fun p hp => ⟨_, rfl, 10, 18, rfl, rfl, ⟨by decide, by decide, by decide⟩, _, _, rfl, rfl, .inr ⟨_, rfl, p, _, _, _, rfl, rfl, .inl (.inl upd_same), feed_ix _, ?_⟩⟩⟩
        refine ⟨_, rfl, .inl ⟨_, rfl, _, 2147483646, rfl, rfl, (show (0 : Int) < 2147483646 by decide), _, _, rfl, rfl, (show 2 ≤ sizeLine by decide), fun d hd => ?_⟩⟩
        exact fin _ _ d _ (Sm.new hp) ((Sm.new hp).free hd) (Int.emod_nonneg _ (by decide)) (Int.emod_lt_of_pos _ (by decide))
/-! pick -/
abbrev s_pick : Stmt := topS 49
abbrev n_pick : List Str := ["_law_box", "_law_some"]
abbrev p_pick : List Str := ["_law_box", "_law_some"]
theorem sc_pick : FnScope n_pick p_pick (defScope s_pick) := ⟨rfl, rfl, rfl, by decide +kernel, rfl, by decide +kernel, by decide +kernel⟩
def spPick (K : PySem.W.Frag) : Sp := fun vs H Q _ => ∃ (a l : Addr) (xs : List V), vs = [.ref a, .ref l] ∧ BoxAt H a ∧ SqL K (msk a a H) l xs ∧ 0 < xs.length ∧ xs.length ≤ 1000 ∧
  ∀ (j : Nat) v H', xs[j]? = some v → BoxAt H' a → Sm (msk a a H) (msk a a H') → Q v H'
theorem ok_pick {f : Addr} {fd : FuncData} (F : Fun K "_law_pick" "_law_pick" s_pick f fd) (T : Bt mg) (C : Cal P w K mg base 1 "_law_take" spTake []) : FnOk P w K mg base CX0 2 f fd p_pick (spPick K) := by
  refine F.ok sc_pick (fun vs H Q E h => ?_) (fun cdv A outer s H vs Q E hr h => ?_)
  · obtain ⟨a, l, xs, rfl, _⟩ := h
    rfl
  · obtain ⟨a, l, xs, rfl, hD, hS, h0, h1, q⟩ := h
    refine ⟨_, (pss_one (ps_ret (pe_ix ix_list (pv 1) (pe_c C hr (Nat.le_refl _) (by rfl) (pa_cons (pv 0) (pa_cons (pe_callB call_len_seq (by rfl) T.n_len (by decide +kernel) (pa_cons (pv 1) pa_nil)) pa_nil))) (fun _ _ => rfl)))), ?_⟩
    refine ⟨_, rfl, _, rfl, _, rfl, l, xs, rfl, .inl (msk_le.seq hS), a, (xs.length : Int), rfl, hD, by omega, by omega, fun r H' r0 r1 hD' e' => ?_⟩
    have hS' : SqL K H' l xs := (e'.trans msk_le).seq hS
    have hj : r.toNat < xs.length := by omega
    refine ⟨l, xs, r, xs[r.toNat], rfl, rfl, hS', at_of (j := r.toNat) (by omega) (List.getElem?_eq_getElem hj), ?_⟩
    exact q r.toNat _ H' (List.getElem?_eq_getElem hj) hD' e'
end
end Z
set_option Elab.async false
set_option linter.all false
set_option maxRecDepth 100000
set_option maxHeartbeats 4000000
set_option autoImplicit false
/-! Plain data and any values: their types, their items. -/
namespace Z
open PySem PySem.Spec PyProof.Rows L2
/-! the type of plain data -/
def tyD : PyData → Value
  | .none => .type "NoneType"
  | .bool _ => .type "bool"
  | .int _ => .type "int"
  | .str _ => .type "str"
  | .list _ => .type "list"
  | .tuple _ => .type "tuple"
  | .dict _ => .type "dict"
theorem tyx_lst {K : PySem.W.Frag} {H : Hp} {a : Addr} {xs : List V} (h : SqL K H a xs) : TyX K H (.ref a) (.type "list") := by
  rcases h with (h | ⟨o, h⟩) | ⟨o, its, n, e, c, _⟩
  · exact .base (.lst h)
  · exact .base (.frz h)
  · exact .kList e c
theorem tyx_tup {K : PySem.W.Frag} {H : Hp} {a : Addr} {xs : List V} (h : SqT K H a xs) : TyX K H (.ref a) (.type "tuple") := by
  rcases h with (h | ⟨o, h⟩) | ⟨o, its, n, e, c, _⟩
  · exact .base (.tup h)
  · exact .fTuple h
  · exact .kTuple e c
theorem dp_ty {K : PySem.W.Frag} {H : Hp} {v : V} {d : PyData} (h : Dp K H v d) : TyX K H v (tyD d) := by
  cases h with
  | non => exact .base .non
  | bl b => exact .base (.bl b)
  | int i => exact .base (.int i)
  | str x => exact .base (.str x)
  | lst s a => exact tyx_lst s
  | tup s a => exact tyx_tup s
def isIntD : PyData → Bool
  | .int _ => true
  | _ => false
def isBlD : PyData → Bool
  | .bool _ => true
  | _ => false
def isStrD : PyData → Bool
  | .str _ => true
  | _ => false
def itemsD : PyData → Option (List PyData)
  | .list ds => some ds
  | .tuple ds => some ds
  | _ => none
theorem kit_int {K : PySem.W.Frag} {H : Hp} {v : V} {d : PyData} (h : Dp K H v d) : PySem.W.kitOne K (tyD d) (.type "int") = some (isIntD d || isBlD d) := by
  cases h <;> rfl
theorem kit_bool {K : PySem.W.Frag} {H : Hp} {v : V} {d : PyData} (h : Dp K H v d) : PySem.W.kitOne K (tyD d) (.type "bool") = some (isBlD d) := by
  cases h <;> rfl
theorem kit_str {K : PySem.W.Frag} {H : Hp} {v : V} {d : PyData} (h : Dp K H v d) : PySem.W.kitOne K (tyD d) (.type "str") = some (isStrD d) := by
  cases h <;> rfl
theorem kit_seq {K : PySem.W.Frag} {H : Hp} {v : V} {d : PyData} (h : Dp K H v d) : PySem.W.kitAny K (tyD d) [.type "list", .type "tuple"] = some (itemsD d).isSome := by
  cases h <;> rfl
theorem dp_items {K : PySem.W.Frag} {H : Hp} {v : V} {d : PyData} {ds : List PyData} (h : Dp K H v d) (e : itemsD d = some ds) :
    ∃ (a : Addr) (xs : List V), v = .ref a ∧ DpAll K H xs ds ∧ ((d = .list ds ∧ SqL K H a xs) ∨ (d = .tuple ds ∧ SqT K H a xs)) := by
  cases h with
  | non => cases e
  | bl b => cases e
  | int i => cases e
  | str x => cases e
  | lst s a =>
    cases e
    exact ⟨_, _, rfl, a, .inl ⟨rfl, s⟩⟩
  | tup s a =>
    cases e
    exact ⟨_, _, rfl, a, .inr ⟨rfl, s⟩⟩
theorem pi_or {X : Cx} {tg l : Expr} {t1 t2 : TI} (h1 : PI X tg l t1) (h2 : PI X tg l t2) : PI X tg l (fun σ H R => t1 σ H R ∨ t2 σ H R) :=
  ⟨fun pins s σ H R I h => h.elim (h1.run pins s σ H R I) (h2.run pins s σ H R I)⟩
/-- isinstance inside a comprehension -/
theorem call_isiK {X : Cx} (K : PySem.W.Frag) (h : X.K = K := by rfl) : CallR X (.builtin "isinstance") (rIsi K) := by
  subst h
  exact call_isi
theorem sm_put {H H' : Hp} {D : Addr} {o : HO} (e : Sm H H') (n : H D = none) : Sm H (upd H' D o) := fun b u h => by
  rw [upd_ne (ne_of_none h n)]
  exact e b u h
theorem dpAll_ix {K : PySem.W.Frag} {H : Hp} : ∀ {vs : List V} {ds : List PyData} {i : Nat} {v : V}, DpAll K H vs ds → vs[i]? = some v → ∃ d, ds[i]? = some d ∧ Dp K H v d
  | _, _, _, _, .nil, e => by simp at e
  | _, _, 0, _, .cons h t, e => by
    have e' : _ = _ := Option.some.inj e
    subst e'
    exact ⟨_, rfl, h⟩
  | _, _, i + 1, d, .cons h t, e => dpAll_ix (i := i) t e
theorem take_snoc {α β : Type} {l : List α} {i : Nat} {x : α} (f : α → β) (h : l[i]? = some x) : (l.take (i + 1)).map f = (l.take i).map f ++ [f x] := by
  rw [List.take_add_one, h, List.map_append]
  rfl
/-! any value: plain data, or an instance of one class -/
/-- the class at C: its instances are neither lists nor tuples nor numbers nor texts -/
structure InsC (K : PySem.W.Frag) (C : Addr) : Prop where
  c : Cls K C
  ca : PySem.W.findIn K (.ref C) "__class__" = some (some (.builtin "object.__class__"))
  cn : PySem.W.specialIn K (.builtin "object.__class__") "__get__" = some (some (.builtin "getset_descriptor.__get__"))
  ct : PySem.W.takesIn K (.builtin "object.__class__") = some true
  cm : PySem.W.mroIn K C (.type "object") = some true
theorem InsC.ty {K : PySem.W.Frag} {C a dx : Addr} {fs : List (Str × V)} {H : Hp} (I : InsC K C) (e : H a = some (.ins C dx fs)) : TyX K H (.ref a) (.ref C) :=
  .base (.ins e I.c I.ca I.cn I.ct I.cm)
/-- any value of a law: plain data, or (none) an instance of the class at C -/
inductive AV (K : PySem.W.Frag) (C : Addr) (H : Hp) : V → Option PyData → Prop where
  | dat {v : V} {d : PyData} (h : Dp K H v d) : AV K C H v (some d)
  | obj {a dx : Addr} {fs : List (Str × V)} (h : H a = some (.ins C dx fs)) : AV K C H (.ref a) none
theorem AV.sm {K : PySem.W.Frag} {C : Addr} {H H' : Hp} {v : V} {d : Option PyData} (h : AV K C H v d) (e : Sm H H') : AV K C H' v d := by
  cases h with
  | dat h => exact .dat (dp_mono e h)
  | obj h => exact .obj (e _ _ h)
def tyA (C : Addr) : Option PyData → Value
  | some d => tyD d
  | none => .ref C
theorem AV.ty {K : PySem.W.Frag} {C : Addr} {H : Hp} {v : V} {d : Option PyData} (I : InsC K C) (h : AV K C H v d) : TyX K H v (tyA C d) := by
  cases h with
  | dat h => exact dp_ty h
  | obj h => exact I.ty h
/-- isinstance of such a value, for the built-in classes that are asked -/
structure KitC (K : PySem.W.Frag) (C : Addr) : Prop where
  i : PySem.W.kitOne K (.ref C) (.type "int") = some false
  b : PySem.W.kitOne K (.ref C) (.type "bool") = some false
  s : PySem.W.kitOne K (.ref C) (.type "str") = some false
  q : PySem.W.kitAny K (.ref C) [.type "list", .type "tuple"] = some false
def intA : Option PyData → Bool
  | some (.int _) => true
  | _ => false
def blA : Option PyData → Bool
  | some (.bool _) => true
  | _ => false
def strA : Option PyData → Bool
  | some (.str _) => true
  | _ => false
def itemsA : Option PyData → Option (List PyData)
  | some d => itemsD d
  | none => none
theorem AV.kint {K : PySem.W.Frag} {C : Addr} {H : Hp} {v : V} {d : Option PyData} (Q : KitC K C) (h : AV K C H v d) : PySem.W.kitOne K (tyA C d) (.type "int") = some (intA d || blA d) := by
  cases h with
  | dat h => cases h <;> rfl
  | obj h => exact Q.i
theorem AV.kbl {K : PySem.W.Frag} {C : Addr} {H : Hp} {v : V} {d : Option PyData} (Q : KitC K C) (h : AV K C H v d) : PySem.W.kitOne K (tyA C d) (.type "bool") = some (blA d) := by
  cases h with
  | dat h => cases h <;> rfl
  | obj h => exact Q.b
theorem AV.kstr {K : PySem.W.Frag} {C : Addr} {H : Hp} {v : V} {d : Option PyData} (Q : KitC K C) (h : AV K C H v d) : PySem.W.kitOne K (tyA C d) (.type "str") = some (strA d) := by
  cases h with
  | dat h => cases h <;> rfl
  | obj h => exact Q.s
theorem AV.kseq {K : PySem.W.Frag} {C : Addr} {H : Hp} {v : V} {d : Option PyData} (Q : KitC K C) (h : AV K C H v d) : PySem.W.kitAny K (tyA C d) [.type "list", .type "tuple"] = some (itemsA d).isSome := by
  cases h with
  | dat h => cases h <;> rfl
  | obj h => exact Q.q
theorem AV.items {K : PySem.W.Frag} {C : Addr} {H : Hp} {v : V} {d : Option PyData} {ds : List PyData} (h : AV K C H v d) (e : itemsA d = some ds) :
    ∃ (a : Addr) (xs : List V), v = .ref a ∧ DpAll K H xs ds ∧ (SqL K H a xs ∨ SqT K H a xs) := by
  cases h with
  | dat h =>
    obtain ⟨a, xs, ev, ha, hs⟩ := dp_items h e
    exact ⟨a, xs, ev, ha, hs.elim (fun z => .inl z.2) (fun z => .inr z.2)⟩
  | obj h => cases e
end Z
set_option Elab.async false
set_option linter.all false
set_option maxRecDepth 100000
set_option maxHeartbeats 4000000
set_option autoImplicit false
/-! What is a list or a tuple, walked. -/
namespace Z
open PySem PySem.Spec PyProof.Rows L2
def SqA (K : PySem.W.Frag) (H : Hp) (a : Addr) (xs : List V) : Prop := SqL K H a xs ∨ SqT K H a xs
theorem SqA.sm {K : PySem.W.Frag} {H H' : Hp} {a : Addr} {xs : List V} (h : SqA K H a xs) (e : Sm H H') : SqA K H' a xs := h.elim (fun z => .inl (e.seq z)) fun z => .inr (e.tup z)
def IsIt (K : PySem.W.Frag) (a : Addr) (xs : List V) (it : It) (H : Hp) : Prop := (it = Itl K a ∧ SqL K H a xs) ∨ (it = Itt K a ∧ SqT K H a xs)
def iSq (K : PySem.W.Frag) (tl : TE) : TI := fun σ H R => tl σ H fun x H1 => ∃ a xs, x = .ref a ∧ SqA K H1 a xs ∧ ∀ it, IsIt K a xs it H1 → R it H1
section
variable {X : Cx} {tg : Expr}
theorem pi_sq {l : Expr} {tl : TE} (hl : PE X l tl) : PI X tg l (iSq X.K tl) := by
  refine ⟨fun pins s σ H R I h => ?_⟩
  refine thn (hl.run pins s σ H _ I h) fun v s1 ⟨x, H1, I1, r1, a, xs, e, hq, q⟩ => ?_
  subst e
  obtain rfl : v = Value.ref a := r1
  have new : ∀ {o : Obj} (b : Addr), b ∈ [s1.heap.objs.size] → FpOk X pins H1 b := fun b hb => by
    rw [List.mem_singleton.mp hb]
    exact I1.fpOk (Nat.le_refl _) (I1.hok.fresh (Nat.le_refl _))
  have old : ∀ {o : Obj}, Inv X pins σ H1 { s1 with heap := s1.heap.push o } := fun {o} => I1.kept (t' := s1.toks) fun b u e => Heap.get?_push_of_some _ e
  rcases hq with hq | hq
  · obtain ⟨its, rv, p, _⟩ := I1.list hq
    exact wpAny_pyIter_list p.isList ⟨_, [s1.heap.objs.size], _, _, H1, rfl, old, turn_list a _, ⟨_, Heap.get?_push_size _ rfl, rfl, rfl⟩, new (o := ⟨.none, none, .plain, #[]⟩), q _ (.inl ⟨rfl, hq⟩)⟩
  · obtain ⟨its, rv, p, _⟩ := I1.tuple hq
    exact wpAny_pyIter_tuple (show s1.heap.IsTuple a its.toArray from p) ⟨_, [s1.heap.objs.size], _, _, H1, rfl, old, turn_tuple a _, ⟨_, Heap.get?_push_size _ rfl, rfl, rfl⟩, new (o := ⟨.none, none, .plain, #[]⟩), q _ (.inr ⟨rfl, hq⟩)⟩
end
theorem lc_sq {K : PySem.W.Frag} {a : Addr} {xs : List V} {it : It} {H0 : Hp} {g : TG} {tt : TT} {te : TE} {vs : List Nat} {σ : L2.St} {H1 : Hp} {D : Addr} {Qd : Hp → Prop} (hI : IsIt K a xs it H0) (Pv : Nat → Hp → Prop)
    (h0 : Pv 0 (upd H1 D (.lst []))) (hk : ∀ i H, Pv i H → Sm H0 H)
    (hs : ∀ i x H, xs[i]? = some x → Pv i H → g x (wipe σ vs) H fun σ2 H2 => wipe σ2 vs = wipe σ vs ∧ tt σ2 H2 fun b H3 =>
      if b = true then te σ2 H3 fun y H4 => ∃ acc, H4 D = some (.lst acc) ∧ acc.length < sizeLine ∧ Pv (i + 1) (upd H4 D (.lst (acc ++ [y]))) else Pv (i + 1) H3) (hd : ∀ H, Pv xs.length H → Qd H) :
    ∃ W : Nat → Nat → Hp → Prop, (∃ m, W 0 m (upd H1 D (.lst []))) ∧ ∀ i m H, W i m H →
      (it.stop i H ∧ Qd H) ∨ (it.go i H ∧ ∃ Nx : Hp → Prop, (∀ H', Nx H' → ∃ m', m' < m ∧ W (i + 1) m' H') ∧ ∀ x H', it.yld i H x H' → g x (wipe σ vs) H' fun σ2 H2 => wipe σ2 vs = wipe σ vs ∧ tt σ2 H2 fun b H3 =>
        if b = true then te σ2 H3 fun y H4 => ∃ acc, H4 D = some (.lst acc) ∧ acc.length < sizeLine ∧ Nx (upd H4 D (.lst (acc ++ [y]))) else Nx H3) := by
  rcases hI with ⟨rfl, h⟩ | ⟨rfl, h⟩
  · exact lc_list Pv h0 (fun i H _ p => (hk i H p).seq h) hs hd
  · exact lc_tup Pv h0 (fun i H _ p => (hk i H p).tup h) hs hd
theorem for_sq {K : PySem.W.Frag} {a : Addr} {xs : List V} {it : It} {H0 : Hp} {g : TG} {tb : TS} {D : Ends} {σ : L2.St} {H : Hp} (hI : IsIt K a xs it H0) (Pv : Nat → L2.St → Hp → Prop) (h0 : Pv 0 σ H) (hk : ∀ i σ H, Pv i σ H → Sm H0 H)
    (hs : ∀ i x σ H, xs[i]? = some x → Pv i σ H → g x σ H fun σ2 H2 => tb { D with nx := Pv (i + 1), ct := Pv (i + 1), bk := D.nx } σ2 H2) (hd : ∀ σ H, Pv xs.length σ H → D.nx σ H) :
    ∃ W : Nat → Nat → L2.St → Hp → Prop, (∃ m, W 0 m σ H) ∧ ∀ i m σ H, W i m σ H →
      (it.stop i H ∧ D.nx σ H) ∨ (it.go i H ∧ ∃ N : L2.St → Hp → Prop, (∀ σ' H', N σ' H' → ∃ m', m' < m ∧ W (i + 1) m' σ' H') ∧ ∀ x H', it.yld i H x H' → g x σ H' fun σ2 H2 => tb { D with nx := N, ct := N, bk := D.nx } σ2 H2) := by
  rcases hI with ⟨rfl, h⟩ | ⟨rfl, h⟩
  · exact for_list Pv h0 (fun i σ H _ p => (hk i σ H p).seq h) hs hd
  · exact for_tup Pv h0 (fun i σ H _ p => (hk i σ H p).tup h) hs hd
/-- what a comprehension that filters and maps has made so far -/
structure PvL {α : Type} (H0 : Hp) (D : Addr) (l : List α) (p : α → Bool) (f : α → V) (i : Nat) (H : Hp) : Prop where
  sm : Sm H0 H
  at_ : H D = some (.lst (((l.take i).filter p).map f))
section
variable {α : Type} {H0 H H' : Hp} {D : Addr} {l : List α} {p : α → Bool} {f : α → V} {i : Nat} {x : α} {y : V}
theorem PvL.start (h : H0 D = none) : PvL H0 D l p f 0 (upd H0 D (.lst [])) := ⟨Sm.new h, upd_same⟩
theorem PvL.start' {H1 : Hp} (h : H1 D = none) (e : Sm H0 H1) : PvL H0 D l p f 0 (upd H1 D (.lst [])) := ⟨e.trans (Sm.new h), upd_same⟩
theorem PvL.yes (h : PvL H0 D l p f i H) (hD : H0 D = none) (e : Sm H H') (hx : l[i]? = some x) (hp : p x = true) (hy : f x = y) (hl : l.length ≤ 900) :
    ∃ acc, H' D = some (.lst acc) ∧ acc.length < sizeLine ∧ PvL H0 D l p f (i + 1) (upd H' D (.lst (acc ++ [y]))) := by
  refine ⟨_, e _ _ h.at_, small1000 ?_, sm_put (h.sm.trans e) hD, ?_⟩
  · rw [List.length_map]
    have := List.length_filter_le p (l.take i)
    rw [List.length_take] at this
    omega
  · rw [upd_same, List.take_add_one, hx, List.filter_append, List.map_append, ← hy]
    simp [hp]
theorem PvL.no (h : PvL H0 D l p f i H) (e : Sm H H') (hx : l[i]? = some x) (hp : p x = false) : PvL H0 D l p f (i + 1) H' := by
  refine ⟨h.sm.trans e, ?_⟩
  rw [e _ _ h.at_, List.take_add_one, hx, List.filter_append]
  simp [hp]
theorem PvL.fin (h : PvL H0 D l p f i H) (hi : i = l.length) : H D = some (.lst ((l.filter p).map f)) := by
  rw [h.at_, hi, List.take_length]
end
end Z
set_option Elab.async false
set_option linter.all false
set_option maxRecDepth 100000
set_option maxHeartbeats 4000000
set_option autoImplicit false
/-! Errors of own classes as plain values: made by place or by name, their field read, isinstance. -/
namespace PySem
namespace ZX
open PySem.W PySem.Calls PyProof.Rows PySem.HandSPX Builtin Builtin.ObjectAttr
/-- what is asked of the bases of a class that a maker of B's makes -/
structure Chain (B : String) (bm : List Value) : Prop where
  hB : bm.contains (.type B) = true
  hA : bm.contains (.type "AttributeError") = false
  hN : bm.contains (.type "NameError") = false
  hO : bm.contains (.type "object") = true
  hS : ∀ self, refuseLoop self "__setattr__" bm = pure ()
section
variable {M : Model} {A : Around} {E : Value → Shared → Prop} {h : Heap} {g : Array GenState} {d : Drawn} {t : Nat} {os : OsState}
variable {nm q : Str} {C N : Addr} {bs bm bmB : List Value} {hdct : Bool} {sn : List Str} {sub : List Value} {ab : Bool} {col : Option Bool} {dd : Option Addr} {k0 k1 k2 k3 k5 : Option Value} {B newId initId : String}
theorem z_checkNew (F : ExcBaseFacts B newId initId bmB) (hT : Chain B bm) {rest : List Value} {kw : List (Str × Value)} {Q : Unit → Shared → Prop}
    (hC : h.get? C = some (excClassObj nm q C N bs bm hdct sn sub ab col dd k0 k1 k2 k3 k5 newId))
    (hq : Q () ⟨h, g, d, t, os⟩) : wpAny M A (checkBuiltinCall newId ⟨.ref C :: rest, kw⟩) Q E ⟨h, g, d, t, os⟩ := by
  have zc : (Value.ref C :: bm).contains (.type B) = true := by
    rw [List.contains_cons, hT.hB, Bool.or_true]
  have zs := F.noStar
  simp only [checkBuiltinCall, F.newKind, F.newSplit, F.newRow]
  repeat (first
    | refine wpAny_loadPart_at hC ?_
    | (refine wpAny_isSubtype_exc hC ?_; rw [zc])
    | refine wpAny_staticBase_exc hC ?_
    | refine wpAny_madeBy_exc hC ?_
    | simp only [bne_self_eq_false, Bool.false_eq_true, if_false]
    | wp_step)
  exact hq
end
section
variable {prog : Program} {w : World} {A : Around} {E : Value → Shared → Prop} {R : Result → Shared → Prop} {h : Heap} {g : Array GenState} {d : Drawn} {t : Nat} {os : OsState}
variable {nm q : Str} {C N : Addr} {bs bm bmB : List Value} {hdct : Bool} {sn : List Str} {sub : List Value} {ab : Bool} {col : Option Bool} {dd : Option Addr} {k0 k1 k2 k3 k5 : Option Value} {B newId initId : String}
theorem z_new (F : ExcBaseFacts B newId initId bmB) (hT : Chain B bm) {rest : List Value} {kw : List (Str × Value)}
    (hC : h.get? C = some (excClassObj nm q C N bs bm hdct sn sub ab col dd k0 k1 k2 k3 k5 newId))
    (hq : R (.ok (.ret (.ref (h.objs.size + 1))))
      ⟨(h.push { cls := .type "tuple", data := .seq rest.toArray }).push (excO C h.objs.size), g, d, t, os⟩)
    (hrest : rest.length ≤ sizeLine) :
    codeAny (model prog w) A (.builtin newId ⟨.ref C :: rest, kw⟩) R ⟨h, g, d, t, os⟩ := by
  have z0 := F.ends
  have z1 : (Value.ref C :: bm).contains (.type B) = true := by
    rw [List.contains_cons, hT.hB, Bool.or_true]
  have z2 : (Value.ref C :: bm).contains (.type "AttributeError") = false := by
    rw [List.contains_cons, hT.hA]; rfl
  have z3 : (Value.ref C :: bm).contains (.type "NameError") = false := by
    rw [List.contains_cons, hT.hN]; rfl
  refine codeAny_builtinAt F.entry ?_
  unfold Builtin.«BaseException.__new__»
  refine wpAt_bind ?_
  show wpAt _ _ _ (stack >>= _) _ _ _
  refine wpAt_bind (wpAt_stack fun p below => wpAt_of_wpAny ?_)
  wp_walk
  refine wpAt_of_wpAny ?_
  rw [F.owner]
  repeat (first
    | with_reducible refine wpAny_madeHere_exc F.canon hC ?_
    | with_reducible refine wpAny_loadPart_at hC ?_
    | (with_reducible refine wpAny_isSubtype_exc hC ?_; first | rw [z1] | rw [z2] | rw [z3])
    | wp_step)
  show R _ _
  rw [Heap.size_push]
  exact hq
theorem z_typeCall (F : ExcBaseFacts B newId initId bmB) (hT : Chain B bm) {rest : List Value} {kw : List (Str × Value)} {fI : Addr} {Q : Fin → Shared → Prop}
    (hC : h.get? C = some (excClassObj nm q C N bs bm hdct sn sub ab col dd k0 k1 k2 k3 k5 newId))
    (hi : W.Looks (model prog w) h (typeLookup (.ref C) "__init__") (some (.ref fI)))
    (hb : ∀ self, W.Looks (model prog w) h (bindSpecial (.ref fI) self) (.ref fI, [self])) (hrest : rest.length ≤ sizeLine)
    (hq : codeAny (model prog w) A (.call (.ref fI) ⟨.ref (h.objs.size + 1) :: rest, kw⟩)
      (fun r s' => match r with | .ok (.ret v) => v = .none ∧ Q (.done (.ret (.ref (h.objs.size + 1)))) s' | .ok _ => False | .error e => E e s')
      ⟨(h.push (W.kdv_tup rest)).push (excO C h.objs.size), g, d, t, os⟩) :
    wpAny (model prog w) A (Builtin.«type.__call__» ⟨.ref C :: rest, kw⟩) Q E ⟨h, g, d, t, os⟩ := by
  repeat (first
    | with_reducible refine wpAny_loadPart_at hC ?_
    | with_reducible refine wpAny_madeBy_exc hC ?_
    | wp_step)
  refine codeAny_call_builtin_code (Code.quiet_builtin _ F.quiet) (z_checkNew F hT hC ?_)
  refine z_new F hT hC ?_ hrest
  show wpAny _ _ _ _ _ _
  have kk : ∀ b o, h.get? b = some o → ((h.push (W.kdv_tup rest)).push (excO C h.objs.size)).get? b = some o :=
    fun b o e => Heap.get?_push_of_some _ (Heap.get?_push_of_some _ e)
  have c1 := kk _ _ hC
  have c2 : ((h.push (W.kdv_tup rest)).push (excO C h.objs.size)).get? (h.objs.size + 1) = some (excO C h.objs.size) := by
    heap_get
  have c3 : (Value.ref C :: bm).contains (.ref C) = true := by simp
  have i1 := hi.keeps kk
  have b1 := (hb (.ref (h.objs.size + 1))).keeps kk
  unfold isInstance
  repeat (first
    | with_reducible refine wpAny_loadPart_at c2 ?_
    | (with_reducible refine wpAny_isSubtype_exc c1 ?_; rw [c3])
    | wp_step)
  show wpAny _ _ (typeLookup (.ref C) _) _ _ _
  refine i1.at ?_
  refine wpAny_holding (wpAny_bind (b1.at ?_))
  refine wpAny_bind (wpAny_call (codeAny_mono hq fun r s' z => ?_))
  rcases r with e | (v | _ | _ | _) <;> first | exact z | exact z.elim | skip
  obtain ⟨rfl, z⟩ := z
  first
    | exact wpAny_pure (wpAny_pure z)
    | (wp_walk; exact z)
theorem z_call (F : ExcBaseFacts B newId initId bmB) (hT : Chain B bm) {rest : List Value} {kw : List (Str × Value)} {fI : Addr}
    (hC : h.get? C = some (excClassObj nm q C N bs bm hdct sn sub ab col dd k0 k1 k2 k3 k5 newId))
    (hi : W.Looks (model prog w) h (typeLookup (.ref C) "__init__") (some (.ref fI)))
    (hb : ∀ self, W.Looks (model prog w) h (bindSpecial (.ref fI) self) (.ref fI, [self])) (hrest : rest.length ≤ sizeLine)
    (hq : codeAny (model prog w) (A.under (.builtin "type.__call__" ⟨.ref C :: rest, kw⟩))
      (.call (.ref fI) ⟨.ref (h.objs.size + 1) :: rest, kw⟩) (W.InitBack (h.objs.size + 1) R)
      ⟨(h.push (W.kdv_tup rest)).push (excO C h.objs.size), g, d, t, os⟩) :
    codeAny (model prog w) A (.call (.ref C) ⟨rest, kw⟩) R ⟨h, g, d, t, os⟩ := by
  have f1 := tc_lookup
  have f2 := tc_bind (.ref C)
  have ty : (⟨h, g, d, t, os⟩ : Shared).TypeIs (.ref C) "type" := ⟨_, hC, rfl⟩
  refine codeAny_of_tree ?_
  show wpAny _ _ (callAny (.ref C) _) _ _ _
  repeat (any_goals (first
    | assumption
    | with_reducible refine wpAny_loadPart_at hC ?_
    | wp_step))
  refine ⟨rfl, ?_⟩
  refine codeAny_call_builtin_at (Code.quiet_builtin _ (by decide +kernel)) entry_typeCall
    (wpAny_check_type_call_sub hC (z_typeCall F hT hC hi hb hrest ?_))
  refine codeAny_mono hq fun r s' z => ?_
  rcases r with e | (v | _ | _ | _) <;> exact z
end
section
variable {prog : Program} {w : World} {A : Around} {E : Value → Shared → Prop} {R : Result → Shared → Prop} {hp : Heap} {g : Array GenState} {d : Drawn} {t : Nat} {os : OsState}
theorem z_osa {K : W.Frag} {name : Str} {tk : Tok} {v : Value} {x C : Addr} {fv : Array Value} {cd : ClassData}
    (X : K.In hp) (hx : hp.get? x = some { cls := .ref C, data := .fields fv }) (hcd : W.clsIn K C = some cd)
    (ne : cd.mro.isEmpty = false) (hob : cd.mro.contains (.type "object") = true)
    (hpass : ∀ self, refuseLoop self "__setattr__" cd.mro = pure ()) (hh : cd.hasDict = true)
    (ha : W.findIn K (.ref C) name = some none)
    (hq : ∀ h' tk' dx, (∀ b o, b ≠ x → hp.get? b = some o → h'.get? b = some o) → hp.objs.size ≤ dx → dx ≠ x →
      h'.get? x = some { cls := .ref C, dict := some dx, data := .fields fv } →
      h'.Ns1 dx (fun y => if y = name then some v else none) → R (.ok (.ret .none)) ⟨h', g, d, tk', os⟩) :
    codeAny (model prog w) A (.call (.builtin "object.__setattr__") ⟨[.ref x, .str name tk, v], []⟩) R ⟨hp, g, d, t, os⟩ := by
  have I : W.InstAt hp x { cls := .ref C, data := .fields fv } C none := ⟨hx, rfl, rfl, trivial⟩
  have SF := F.store_object
  have xs : x ≠ hp.objs.size := Nat.ne_of_lt (Heap.lt_size hx)
  have sub : W.Looks (model prog w) hp (isInstance (.ref x) (.type "object")) true :=
    I.type.andThen (W.looks_mroIn X (by unfold W.mroIn; rw [hcd, Option.bind_some, if_neg (by rw [ne]; decide), hob]))
  refine codeAny_call_builtin SF.slot.plain SF.entry (@W.check_slot (model prog w) _ _ ⟨hp, g, d, t, os⟩ "object.__setattr__" "object"
    "__setattr__" (.ref x) [.str name tk, v] [] _ SF.kind SF.split sub (SF.args (.ref x) (.str name tk) v) ?_)
  have m1 : W.Looks (model prog w) hp (mroOf (.ref C)) cd.mro := (W.looks_clsIn X hcd).andThen .now
  have m3 : W.Looks (model prog w) hp (storeTaker? none) none := .now
  have m4 : W.Looks (model prog w) hp (classData C) cd := W.looks_clsIn X hcd
  rw [W.osa_eq, refuse_eq]
  refine wpAny_bind (wpAny_bind (I.type.at (wpAny_bind (m1.at ?_))))
  rw [hpass]
  refine wpAny_pure (wpAny_bind (I.type.at (wpAny_bind ((W.looks_findIn X ha).at (wpAny_bind (m3.at ?_))))))
  show wpAny _ _ (storeInOwnDict (.ref x) (.ref C) (.str name tk) name v false) _ _ _
  obtain ⟨nm, bs, mro, ns, qn, hd, sn, sb, ab, col, del⟩ := cd
  dsimp only at hh
  subst hh
  unfold storeInOwnDict ownDictForStores
  repeat (first
    | with_reducible refine store_in_new ?_ ?_
    | with_reducible refine wpAny_loadPart_at hx ?_
    | with_reducible refine m4.at ?_
    | wp_step)
  · exact ⟨_, #[], _, (Heap.get?_update_ne _ _ _ _ xs.symm).trans (Heap.get?_push_at rfl rfl), rfl,
      fun e he => absurd he (by simp), fun _ => rfl⟩
  · intro h' tk' hn' hs
    have hx1 : (hp.push { cls := .type "dict", data := .dict #[] }).get? x = some { cls := .ref C, data := .fields fv } :=
      Heap.get?_push_of_some _ hx
    refine hq h' tk' hp.objs.size (fun b o hb ho => ?_) (Nat.le_refl _) xs.symm ?_ hn'
    · exact (hs.2 b (Nat.ne_of_lt (Heap.lt_size ho))).trans
        ((Heap.get?_update_ne _ _ _ _ hb).trans (Heap.get?_push_of_some _ ho))
    · exact (hs.2 x xs).trans (Heap.get?_update_self _ hx1 rfl)
end
end ZX
end PySem

namespace L2
open PySem PySem.Spec PyProof.Rows
/-- the own error class at C, as the written part tells it -/
structure ErrC (K : PySem.W.Frag) (C : Addr) : Prop where
  cls : ∃ (B newId initId : String) (bmB : List Value) (nm q : Str) (N : Addr) (bs bm : List Value) (sn : List Str) (sub : List Value) (ab : Bool)
    (col : Option Bool) (dd : Option Addr) (k0 k1 k2 k3 k5 : Option Value), ExcBaseFacts B newId initId bmB ∧ PySem.ZX.Chain B bm ∧
    K.lookup C = some (excClassObj nm q C N bs bm true sn sub ab col dd k0 k1 k2 k3 k5 newId)
  sa : PySem.W.findIn K (.ref C) "__setattr__" = some (some (.builtin "object.__setattr__"))
  ga : PySem.W.findIn K (.ref C) "__getattribute__" = some (some (.builtin "BaseException.__getattribute__"))
  gg : PySem.W.findIn K (.ref C) "__getattr__" = some none
  exC : PySem.W.subIn K (.ref C) (.type "BaseException") = some true
  kC : PySem.W.keepIn K (.ref C) = true
  hdC : PySem.W.hasDictIn K C = true
section
variable {X : Cx} {pins : List (Addr × Obj)} {σ : St} {H : Hp} {s : Shared} {a C dx : Addr} {f : Str} {y : V} {u : Value} {Q : Unit → Shared → Prop} {E : Value → Shared → Prop} {A : Around}
theorem err_store (T : ErrC X.K C) (I : Inv X pins σ H s) (e : H a = some (exo a C none)) (hno : PySem.W.findIn X.K (.ref C) f = some none) (ry : RelV y u)
    (h : ∀ dx s', H dx = none → dx ≠ a → Inv X pins σ (upd (upd H dx (exd dx [(f, y)])) a (exo a C (some dx))) s' → Q () s') :
    wpAny (model X.prog X.w) A (setAttr (.ref a) f u) Q E s := by
  obtain ⟨B, newId, initId, bmB, nm, q, N, bs, bm, sn, sub, ab, col, dd, k0, k1, k2, k3, k5, F, hT, hC⟩ := T.cls
  have hcl : PySem.W.clsIn X.K C = some { name := nm, bases := bs, mro := .ref C :: bm, ns := N, qualname := q, hasDict := true, slotNames := sn, subclasses := sub, abstract := ab, collection := col, hasDel := false } := by
    unfold PySem.W.clsIn
    rw [hC] <;> rfl
  obtain ⟨t1, ho⟩ := exo_at I.hok e
  obtain ⟨hp, g, d, t, os⟩ := s
  refine PySem.W.set_plain I.kIn (od := none)
    (ox := { cls := .ref C, dict := none, data := .fields #[.ref t1, .none, .none, .none, .bool false, .none] }) ⟨ho, rfl, rfl, trivial⟩ T.sa ?_
  refine PySem.ZX.z_osa I.kIn ho hcl rfl (by show (Value.ref C :: bm).contains (.type "object") = true; rw [List.contains_cons, hT.hO, Bool.or_true])
    (fun self => by show refuseLoop self "__setattr__" (.ref C :: bm) = pure (); rw [refuseLoop_ref]; exact hT.hS self) rfl hno (fun h' tk' dx k dn dne hx hn => ?_)
  have hnd : H dx = none := I.hok.fresh dn
  have nd : ∀ {b : Addr} {o : Obj}, hp.get? b = some o → b ≠ dx := fun {b o} q => Nat.ne_of_lt (Nat.lt_of_lt_of_le (Heap.lt_size q) dn)
  have na : ∀ {b : Addr}, H b = none → b ≠ a := fun {b} n z => by
    rw [z, e] at n
    cases n
  have U : Un X.fs [] H (upd (upd H dx (exd dx [(f, y)])) a (exo a C (some dx))) hp h' :=
    { keep := fun b o q n _ _ => k b o (na n) q
      slot := fun b o q n _ _ => ⟨o.slots, k b o (na n) q⟩
      free := fun b o q n _ => by
        rw [upd_ne (na n), upd_ne (nd q)]
        exact n
      there := fun b o q _ => by
        by_cases hb : b = a
        · exact ⟨_, by rw [hb]; exact hx⟩
        · exact ⟨o, k b o hb q⟩
      tups := fun b xs q => by
        rw [upd_ne (at_ne e q exo_tup), upd_ne (ne_of_none q hnd)]
        exact q
      frzs := fun b o v q => by
        rw [upd_ne (at_ne e q exo_frz), upd_ne (ne_of_none q hnd)]
        exact q
      tbls := fun b ps q => ⟨#[], by
        rw [upd_ne (at_ne e q exo_tbl), upd_ne (ne_of_none q hnd), q]
        simp⟩ }
  refine h dx _ hnd dne (I.un (t' := tk') U fun b o q => ?_)
  by_cases hb : b = a
  · subst hb
    rw [upd_same] at q
    cases q
    exact exo_ok hx
  · rw [upd_ne hb] at q
    by_cases hd : b = dx
    · subst hd
      rw [upd_same] at q
      cases q
      exact exd_ok hn (relO_put (fs := []) ry fun g => True.intro)
    · rw [upd_ne hd] at q
      exact (I.hok b o q).stay
        (fun c v hc z => k c v (by
          rcases hc with hc | hc
          · rw [hc]
            exact hb
          · exact at_ne e hc exo_own) z)
        (fun c hc => by
          rw [upd_ne (at_ne e hc exo_own), upd_ne (ne_of_none hc hnd)]
          exact hc)
        (fun c xs hc => by
          rw [upd_ne (at_ne e hc exo_tup), upd_ne (ne_of_none hc hnd)]
          exact hc)
end
/-- self.f = e, the first field -/
def tErrSet (K : PySem.W.Frag) (f : Str) (to te : TE) : TS := fun D σ H => te σ H fun y H1 => to σ H1 fun x H2 =>
  ∃ a C : Addr, x = .ref a ∧ ErrC K C ∧ PySem.W.findIn K (.ref C) f = some none ∧ H2 a = some (exo a C none) ∧
    ∀ dx, H2 dx = none → dx ≠ a → D.nx σ (upd (upd H2 dx (exd dx [(f, y)])) a (exo a C (some dx)))
section
variable {X : Cx} {o e : Expr} {es : List Expr} {to te : TE} {ta : TA} {f : Str} {p p' p1 p2 pos : Pos}
theorem ps_errSet (ho : PE X o to) (he : PE X e te) (hs : swapsWith e (some (.Attribute o f p')) pos.line X.env = pure false := by rfl) :
    PS X (.Assign [.Attribute o f p'] e pos) (tErrSet X.K f to te) := by
  refine ⟨fun pins s σ H D I h => ?_⟩
  refine plainObj_wpAny_Assign_Attribute (thn (he.run pins s σ H _ I h) fun v s1 ⟨y, H1, I1, r1, q1⟩ =>
    thn (ho.run pins s1 σ H1 _ I1 q1) fun u s2 ⟨x, H2, I2, r2, a, C, ex, T, hno, ea, q⟩ => ?_) hs
  subst ex
  obtain rfl : u = Value.ref a := r2
  exact err_store T I2 ea hno r1 fun dx s' n ne J => ⟨σ, _, J, q dx n ne⟩
end
/-- what a made error leaves -/
def spErrInit (C : Addr) (f : Str) : Sp := fun vs H Q _ => ∃ (a : Addr) (v : V), vs = [.ref a, v] ∧ H a = some (exo a C none) ∧
  ∀ dx, H dx = none → dx ≠ a → Q .non (upd (upd H dx (exd dx [(f, v)])) a (exo a C (some dx)))

/-- the error class named x, made of one thing that it keeps as f -/
structure ErrM (P : Program) (w : World) (K : PySem.W.Frag) (mg : Str → Option Value) (base : Heap) (x f : Str) (C : Addr) : Prop where
  T : ErrC K C
  gC : mg x = some (.ref C)
  nf : PySem.W.findIn K (.ref C) f = some none
  ini : ∃ (fI : Addr) (fd : FuncData), PySem.W.findIn K (.ref C) "__init__" = some (some (.ref fI)) ∧ PySem.W.typeIn K (.ref fI) = some (.type "function") ∧
    FnOk P w K mg base CX0 1 fI fd ["self", f] (spErrInit C f) ∧ Binds K fd ["self", f] [] ∧
    ∀ (s : Shared) (u v : Value), BindsTo s fd ⟨[u], [(f, v)]⟩ [("self", u), (f, v)]
section
variable {X : Cx} {x f : Str} {C : Addr}
theorem upd_three {H : Hp} {a b : Addr} {o p q : HO} (d : b ≠ a) : upd (upd (upd H a o) b p) a q = upd (upd H b p) a q := by
  funext c
  by_cases h : c = a
  · rw [h, upd_same, upd_same]
  · rw [upd_ne h, upd_ne h]
    by_cases h2 : c = b
    · rw [h2, upd_same, upd_same]
    · rw [upd_ne h2, upd_ne h2, upd_ne h]
theorem run_err {pins : List (Addr × Obj)} {σ : St} {H : Hp} {s : Shared} {Q : VK} {v : V} {u : Value} {us : List Value} {kw : List (Str × Value)}
    (M : ErrM X.prog X.w X.K X.mg X.base x f C) (hr : Room 2 X.A) (I : Inv X pins σ H s) (r : RelV v u)
    (ha : (us = [u] ∧ kw = []) ∨ (us = [] ∧ kw = [(f, u)]))
    (h : ∀ a dx, H a = none → H dx = none → dx ≠ a → Q (.ref a) (upd (upd H dx (exd dx [(f, v)])) a (exo a C (some dx)))) :
    wpAny (model X.prog X.w) X.A (call (.ref C) us kw) (EP X pins σ Q) X.xe s := by
  obtain ⟨B, newId, initId, bmB, nm, q, N, bs, bm, sn, sub, ab, col, dd, k0, k1, k2, k3, k5, F, hT, hC⟩ := M.T.cls
  obtain ⟨fI, fd, i1, i2, FI, b1, b2⟩ := M.ini
  obtain ⟨hp, g, dr, tk, os⟩ := s
  have hsz : hp.objs.size ≤ hp.objs.size + 1 := Nat.le_succ _
  have hn : H (hp.objs.size + 1) = none := I.hok.fresh hsz
  have kk : ∀ b o, hp.get? b = some o → ((hp.push (PySem.W.kdv_tup us)).push (PySem.HandSPX.excO C hp.objs.size)).get? b = some o :=
    fun b o e => Heap.get?_push_of_some _ (Heap.get?_push_of_some _ e)
  have hget : ((hp.push (PySem.W.kdv_tup us)).push (PySem.HandSPX.excO C hp.objs.size)).get? (hp.objs.size + 1) = some (PySem.HandSPX.excO C hp.objs.size) := by
    heap_get
  have I2 : Inv X pins σ (upd H (hp.objs.size + 1) (exo (hp.objs.size + 1) C none))
      ⟨(hp.push (PySem.W.kdv_tup us)).push (PySem.HandSPX.excO C hp.objs.size), g, dr, tk, os⟩ :=
    I.laid (t' := tk) (a := hp.objs.size + 1) (o := exo (hp.objs.size + 1) C none) kk hsz (exo_ok hget)
  have r2 : Vals [V.ref (hp.objs.size + 1), v] [Value.ref (hp.objs.size + 1), u] := .cons rfl (.cons r .nil)
  have hb : BindsTo (⟨(hp.push (PySem.W.kdv_tup us)).push (PySem.HandSPX.excO C hp.objs.size), g, dr, tk, os⟩ : Shared) fd
      ⟨Value.ref (hp.objs.size + 1) :: us, kw⟩ ((["self", f] : List Str).zip [Value.ref (hp.objs.size + 1), u]) := by
    rcases ha with ⟨rfl, rfl⟩ | ⟨rfl, rfl⟩
    · exact b1 _ [Value.ref (hp.objs.size + 1), u] I2.kIn rfl
    · exact b2 _ _ _
  have hus : us.length ≤ sizeLine := by
    rw [sizeLine_eq]
    rcases ha with ⟨rfl, rfl⟩ | ⟨rfl, rfl⟩
    · exact (by decide : (1 : Nat) ≤ 16777216)
    · exact Nat.zero_le _
  have hq : spErrInit C f [V.ref (hp.objs.size + 1), v] (upd H (hp.objs.size + 1) (exo (hp.objs.size + 1) C none))
      (fun z H2 => z = .non ∧ Q (.ref (hp.objs.size + 1)) H2) (fun _ _ _ => False) := by
    refine ⟨_, v, rfl, upd_same, fun dx hd ne => ⟨rfl, ?_⟩⟩
    rw [upd_three ne]
    rw [upd_ne ne] at hd
    exact h _ dx hn hd ne
  have go := FI.run (X.A.under (.builtin "type.__call__" ⟨.ref C :: us, kw⟩)) X.stack _ _ ⟨Value.ref (hp.objs.size + 1) :: us, kw⟩ [Value.ref (hp.objs.size + 1), u] _ _ (fun _ _ _ => False)
    (hr.make C us kw) (I2.env0.make C us kw) hb r2 hq
  refine wpAny_call (PySem.ZX.z_call F hT (I.kIn _ _ hC) (PySem.W.looks_findIn I.kIn i1) (fun self => PySem.W.bind_fn I.kIn self i2) hus
    (codeAny_mono go fun r s' hq' => ?_))
  cases r with
  | error er => exact False.elim hq'
  | ok fl =>
    cases fl with
    | ret w' =>
      obtain ⟨z, H', I3, rv, ev, q3⟩ := I2.after hq'
      subst ev
      exact ⟨rv, ⟨V.ref (hp.objs.size + 1), H', I3, rfl, q3⟩⟩
    | next => exact False.elim hq'
    | brk => exact False.elim hq'
    | cont => exact False.elim hq'
def ErrQ (C : Addr) (f : Str) (Q : VK) (v : V) (H1 : Hp) : Prop :=
  ∀ a dx, H1 a = none → H1 dx = none → dx ≠ a → Q (.ref a) (upd (upd H1 dx (exd dx [(f, v)])) a (exo a C (some dx)))
def tErr (C : Addr) (f : Str) (te : TE) : TE := fun σ H Q => te σ H fun v H1 => ErrQ C f Q v H1
/-- x(e) -/
theorem pe_err1 {e : Expr} {te : TE} {p pos : Pos} (M : ErrM X.prog X.w X.K X.mg X.base x f C) (hr : Room 2 X.A) (hg : Gl X x) (he : PE X e te)
    (hdb : (x == ("__debug__" : Str)) = false := by decide) (hs : starEach (e :: []) X.env = (false, eval e X.env) :: starEach [] X.env := by rfl)
    (hpl : (backTo pos (starEach [] X.env)).any (·.1) = false := by rfl) : PE X (.Call (.Name x p) [e] [] pos) (tErr C f te) := by
  refine ⟨fun pins s σ H Q I h => ?_⟩
  refine wpAny_Call_Name_kw (ld_glob I hg M.gC ?_ hdb)
  have ha : PA X [e] (tCons te tNil) := pa_cons he pa_nil hs
  refine PySem.W.callWith_K (h₀ := X.base) I.ok.mod.kin M.T.kC
    (thn (ha.run pos pins s σ H (fun vs H1 => match vs with | [v] => ErrQ C f Q v H1 | _ => False) I h)
      fun us s1 ⟨vs, H1, I1, r, q⟩ => ⟨I1.kIn, ?_⟩) hs hpl
  cases r with
  | nil => exact False.elim q
  | cons ru rn =>
    cases rn with
    | nil => exact run_err M hr I1 ru (.inl ⟨rfl, rfl⟩) q
    | cons _ _ => exact False.elim q
/-- x(f=e) -/
theorem pe_errK {e : Expr} {te : TE} {p pos kpos : Pos} (M : ErrM X.prog X.w X.K X.mg X.base x f C) (hr : Room 2 X.A) (hg : Gl X x) (he : PE X e te)
    (hdb : (x == ("__debug__" : Str)) = false := by decide)
    (hall : (backToKw pos (keywordEach [⟨some f, e, kpos⟩] X.env)).all (·.1.isSome) = true := by rfl)
    (hks : (backToKw pos (keywordEach [⟨some f, e, kpos⟩] X.env)).filterMap (·.1) = [f] := by rfl)
    (hpl : ((backTo pos (starEach [] X.env)).any (·.1) || (backToKw pos (keywordEach [⟨some f, e, kpos⟩] X.env)).any (·.1.isNone)) = false := by rfl) :
    PE X (.Call (.Name x p) [] [⟨some f, e, kpos⟩] pos) (tErr C f te) := by
  refine ⟨fun pins s σ H Q I h => ?_⟩
  refine wpAny_Call_Name_kw (ld_glob I hg M.gC ?_ hdb)
  have ha : PK X [⟨some f, e, kpos⟩] (tCons te tNil) := pk_cons he pk_nil
  refine PySem.W.callWith_KW0 (h₀ := X.base) I.ok.mod.kin M.T.kC hall
    (thn (ha.run pos pins s σ H (fun vs H1 => match vs with | [v] => ErrQ C f Q v H1 | _ => False) I h)
      fun us s1 ⟨vs, H1, I1, r, q⟩ => ⟨I1.kIn, ?_⟩) hpl
  rw [hks]
  cases r with
  | nil => exact False.elim q
  | cons ru rn =>
    cases rn with
    | nil => exact run_err M hr I1 ru (.inr ⟨rfl, rfl⟩) q
    | cons _ _ => exact False.elim q
/-- e.f, e an own error with its dict -/
def tErrAt (K : PySem.W.Frag) (f : Str) (te : TE) : TE := fun σ H Q => te σ H fun x H1 => ∃ (a C d : Addr) (fs : List (Str × V)) (v : V),
  x = .ref a ∧ ErrC K C ∧ PySem.W.findIn K (.ref C) f = some none ∧ H1 a = some (exo a C (some d)) ∧ H1 d = some (exd d fs) ∧ fs.lookup f = some v ∧ Q v H1
theorem pe_errAt {e : Expr} {te : TE} {pos : Pos} (he : PE X e te) (hb : attributeBase e f X.env (eval e X.env) = eval e X.env := by rfl) :
    PE X (.Attribute e f pos) (tErrAt X.K f te) := by
  refine ⟨fun pins s σ H Q I h => ?_⟩
  refine attr_of hb (thn (he.run pins s σ H _ I h) fun u s1 hh => ?_)
  obtain ⟨x, H1, I1, rx, a, C, d, fs, v, ex, T, nf, ea, ed, lf, q⟩ := hh
  subst ex
  obtain rfl : u = Value.ref a := rx
  obtain ⟨t1, ho⟩ := exo_at I1.hok ea
  obtain ⟨mA, hns, rel⟩ := exd_at I1.hok ed
  obtain ⟨od, hod, hl⟩ := lookIn_ns hns
  obtain ⟨w', hu, ru⟩ := RelO.some_of (v := v) (o := mA f) (by rw [← lf]; exact rel f)
  have J : PySem.W.InstAt s1.heap a { cls := .ref C, dict := some d, data := .fields #[.ref t1, .none, .none, .none, .bool false, .none] } C (some od) := ⟨ho, rfl, rfl, hod⟩
  exact HandSPX.exc_get I1.kIn J T.ga T.gg T.exC (PySem.W.findObj_own T.hdC nf rfl (by rw [hl, hu])) (handed_of ru) ⟨v, H1, I1.tok _, ru, q⟩
/-- isinstance(e, c), e an own error -/
def rErrIs (K : PySem.W.Frag) : List V → Hp → VK → Prop := fun xs H Q => ∃ (a C : Addr) (d : Option Addr) (c : V) (cv : Value) (b : Bool),
  xs = [.ref a, c] ∧ H a = some (exo a C d) ∧ (∀ e, d = some e → ∃ fs, H e = some (exd e fs)) ∧ ExcC K C ∧ (∀ u, RelV c u → u = cv) ∧
  PySem.W.kitOne K (.ref C) cv = some b ∧ Q (.bl b) H
theorem call_errIs : CallR X (.builtin "isinstance") (rErrIs X.K) := by
  intro pins s σ H xs us Q I r h
  obtain ⟨a, C, d, c, cv, b, rfl, ea, ed, T, hcv, e, q⟩ := h
  cases r with
  | cons rx rr =>
    cases rr with
    | cons rt rr =>
      cases rr
      cases rx
      have ec := hcv _ rt
      subst ec
      obtain ⟨t1, ho⟩ := exo_at I.hok ea
      obtain ⟨cd, hc, _⟩ := PySem.W.any_some T.hd
      have hcl : (PySem.W.clsIn X.K C).isSome = true := by rw [hc]; rfl
      have fin : ∀ tk, EP X pins σ Q (.bool b) { s with toks := tk } := fun tk => ⟨.bl b, H, I.kept (t' := tk) fun _ _ z => z, rfl, q⟩
      cases d with
      | none =>
        exact PySem.W.kia_one (PySem.W.kitx_exc hcl T.hg T.hk T.hs T.ha T.hn T.ht T.hm) I.kIn
          (show PySem.W.InstAt s.heap a { cls := .ref C, dict := none, data := .fields #[.ref t1, .none, .none, .none, .bool false, .none] } C none from ⟨ho, rfl, rfl, trivial⟩) e (fun z => nomatch z) fin
      | some dd =>
        obtain ⟨fs, hd⟩ := ed dd rfl
        obtain ⟨mA, hns, rel⟩ := exd_at I.hok hd
        obtain ⟨od, hod, hl⟩ := lookIn_ns hns
        exact PySem.W.kia_one (PySem.W.kitx_exc hcl T.hg T.hk T.hs T.ha T.hn T.ht T.hm) I.kIn
          (show PySem.W.InstAt s.heap a { cls := .ref C, dict := some dd, data := .fields #[.ref t1, .none, .none, .none, .bool false, .none] } C (some od) from ⟨ho, rfl, rfl, hod⟩) e (fun z => nomatch z) fin
/-- x(), no __init__ of its own -/
structure Err0 (K : PySem.W.Frag) (mg : Str → Option Value) (x : Str) (C : Addr) : Prop where
  gC : mg x = some (.ref C)
  kC : PySem.W.keepIn K (.ref C) = true
  ex : PySem.W.excIn K C PySem.HandSPX.veTail "ValueError.__new__" = true
theorem pe_err0 {p pos : Pos} (M : Err0 X.K X.mg x C) (hg : Gl X x) (hdb : (x == ("__debug__" : Str)) = false := by decide) :
    PE X (.Call (.Name x p) [] [] pos) (fun _ H Q => ∀ a, H a = none → Q (.ref a) (upd H a (exo a C none))) := by
  refine ⟨fun pins s σ H Q I h => ?_⟩
  refine wpAny_Call_Name_kw (ld_glob I hg M.gC ?_ hdb)
  refine PySem.W.callWith_K0 I.kIn M.kC ?_
  show wpAny _ _ (call (.ref C) []) _ _ _
  obtain ⟨hp, g, dr, tk, os⟩ := s
  obtain ⟨bm, N, nm, qn, bs, hdct, sn, sub, ab, col, dd, k0, k1, k2, k3, k5, mN, hC, hN, hni, T⟩ := exc_obj I.kIn M.ex
  refine wpAny_call_exc_subT F.excBase_ValueError T hC hN hni (fun h' e hm => ?_) (by show 0 ≤ sizeLine; exact Nat.zero_le _)
  obtain ⟨t1, ht, _, _⟩ := hm.there
  have he : H e = none := I.hok.gone hm.new
  have ne : ∀ {b : Addr} {o : Obj}, hp.get? b = some o → b ≠ e := fun {b o} q z => by
    have y : hp.get? e = none := hm.new
    rw [z, y] at q
    cases q
  have U : Un X.fs [] H (upd H e (exo e C none)) hp h' :=
    { keep := fun b o q _ _ _ => hm.keeps b o q
      slot := fun b o q _ _ _ => ⟨o.slots, hm.keeps b o q⟩
      free := fun b o q n _ => by
        rw [upd_ne (ne q)]
        exact n
      there := fun b o q _ => ⟨o, hm.keeps b o q⟩
      tups := fun b xs q => by
        rw [upd_ne (ne_of_none q he)]
        exact q
      frzs := fun b o v q => by
        rw [upd_ne (ne_of_none q he)]
        exact q
      tbls := fun b ps q => ⟨#[], by
        rw [upd_ne (ne_of_none q he), q]
        simp⟩ }
  have J : Inv X pins σ (upd H e (exo e C none)) ⟨h', g, dr, tk, os⟩ := I.un (t' := tk) U fun b o q => by
    by_cases hb : b = e
    · subst hb
      rw [upd_same] at q
      cases q
      exact exo_ok ht
    · rw [upd_ne hb] at q
      exact (I.hok b o q).stay (fun c v _ z => hm.keeps c v z)
        (fun c hc => by rw [upd_ne (ne_of_none hc he)]; exact hc)
        (fun c xs hc => by rw [upd_ne (ne_of_none hc he)]; exact hc)
  exact ⟨.ref e, _, J, rfl, h e he⟩
end
end L2
set_option Elab.async false
set_option linter.all false
set_option maxRecDepth 100000
set_option maxHeartbeats 4000000
set_option autoImplicit false
/-! An own error that is raised with one word. -/
namespace Z
open PySem PySem.Spec PyProof.Rows L2
def clsBody : Stmt → List Stmt
  | .ClassDef _ _ _ b _ _ _ _ _ _ _ => b
  | _ => []
def inC (s : Stmt) (i : Nat) : Stmt := (clsBody s).getD i (.Pass ⟨0, 0, 0, 0⟩)
/-- the error named x, made of one thing that it keeps as f -/
structure BadE (P : Program) (w : World) (K : PySem.W.Frag) (mg : Str → Option Value) (base : Heap) (x f : Str) (CI : Addr) : Prop where
  T : OexC K CI
  gC : mg x = some (.ref CI)
  ini : ∃ (fI : Addr) (fd : FuncData), PySem.W.findIn K (.ref CI) "__init__" = some (some (.ref fI)) ∧ PySem.W.typeIn K (.ref fI) = some (.type "function") ∧
    FnOk P w K mg base CX0 1 fI fd ["self", f] (spErrInit CI f) ∧ Binds K fd ["self", f] []
theorem bad_end {CI : Addr} {f : Str} {v : V} {H : Hp} {E : XK} (h : ∀ d H', Sm H H' → H' d = some (.xd [(f, v)]) → E (.ref CI) (some d) H') (a : Addr) (na : H a = none) :
    spErrInit CI f [.ref a, v] (upd H a (exo a CI none))
      (fun v H2 => v = .non ∧ ∃ (d : Addr) (fs : List (Str × V)), H2 a = some (exo a CI (some d)) ∧ H2 d = some (exd d fs) ∧ H d = none ∧ E (.ref CI) (some d) (upd (del H2 a) d (.xd fs))) (fun _ _ _ => False) := by
  refine ⟨a, v, rfl, upd_same, fun dx ndx ne => ⟨rfl, dx, [(f, v)], upd_same, by rw [upd_ne ne]; exact upd_same, ?_, ?_⟩⟩
  · rw [upd_ne ne] at ndx
    exact ndx
  · rw [upd_ne ne] at ndx
    refine h dx _ (fun b o hb => ?_) upd_same
    have n1 : b ≠ a := fun z => by
      rw [z, na] at hb
      cases hb
    have n2 : b ≠ dx := fun z => by
      rw [z, ndx] at hb
      cases hb
    rw [upd_ne n2, del_ne n1, upd_ne n1, upd_ne n2, upd_ne n1]
    exact hb
/-- all but one address is kept -/
def Kp (a : Addr) (H H' : Hp) : Prop := ∀ b o, b ≠ a → H b = some o → H' b = some o
theorem Kp.sm {a : Addr} {H H1 H2 : Hp} (h : Kp a H H1) (e : Sm H1 H2) : Kp a H H2 := fun b o n x => e b o (h b o n x)
theorem Kp.of {a : Addr} {H H1 : Hp} (e : Sm H H1) : Kp a H H1 := fun b o _ x => e b o x
theorem Kp.put {a : Addr} {H H1 : Hp} {o : HO} (h : Kp a H H1) : Kp a H (upd H1 a o) := fun b u n x => by
  rw [upd_ne n]
  exact h b u n x
theorem Kp.new {a : Addr} {H H1 : Hp} (h : Kp a H H1) (n : H a = none) : Sm H H1 := fun b o x => h b o (fun z => by rw [z, n] at x; cases x) x
theorem chain_VE {bm : List Value} (h : PySem.HandSPX.refsVE bm = true) : PySem.ZX.Chain "ValueError" bm :=
  ⟨by rw [PySem.HandSPX.refsVE_contains _ _ h]; decide +kernel, by rw [PySem.HandSPX.refsVE_contains _ _ h]; decide +kernel, by rw [PySem.HandSPX.refsVE_contains _ _ h]; decide +kernel,
    by rw [PySem.HandSPX.refsVE_contains _ _ h]; decide +kernel, fun self => PySem.HandSPX.refsVE_pass self _ h⟩
end Z
set_option Elab.async false
set_option linter.all false
set_option maxRecDepth 100000
set_option maxHeartbeats 4000000
set_option autoImplicit false
/-! Sayings: what is said, how an instance tells it, its pieces and all its texts. -/
namespace Z
open PySem PySem.Spec PyProof.Rows L2
inductive Ix | atl | rst | fct | sur | sil | kno | com | neg | par
  deriving DecidableEq
inductive Sy
  | atl (k : Str) (n : Int)
  | rst (k : Str) (r p : Int)
  | fct (t : Str)
  | sur (k : Str)
  | sil
  | kno (k : Str) (s : Sy)
  | com (s : Sy)
  | neg (s : Sy)
  | par (g : Str) (a b : Sy)
namespace Sy
def ix : Sy → Ix
  | atl _ _ => .atl | rst _ _ _ => .rst | fct _ => .fct | sur _ => .sur | sil => .sil | kno _ _ => .kno | com _ => .com | neg _ => .neg | par _ _ _ => .par
def dep : Sy → Int
  | atl _ _ => 0 | rst _ _ _ => 0 | fct _ => 0 | sur _ => 1 | sil => 1 | kno _ s => s.dep + 1 | com s => s.dep + 1 | neg s => s.dep | par _ a b => if b.dep > a.dep then b.dep else a.dep
def cms : Sy → Int
  | atl _ _ => 0 | rst _ _ _ => 0 | fct _ => 0 | sur _ => 0 | sil => 0 | kno _ s => s.cms | com s => s.cms + 1 | neg s => s.cms | par _ a b => a.cms + b.cms
/-- the texts of one sort each -/
def tAtl (k : Str) (n : Int) : Str := Str.empty ++ k ++ Str.ofString " >= " ++ Str.ofString (toString n)
def tRst (k : Str) (r p : Int) : Str := Str.empty ++ k ++ Str.ofString " by " ++ Str.ofString (toString p) ++ Str.ofString " leaves " ++ Str.ofString (toString r)
def tSur (k : Str) : Str := Str.empty ++ Str.ofString "sure " ++ k
def tKno (k : Str) : Str := Str.empty ++ Str.ofString "knows " ++ k ++ Str.ofString " ("
def tPar (g : Str) : Str := Str.empty ++ Str.ofString ") " ++ g ++ Str.ofString " ("
/-- what pieces() tells -/
def pcs : Sy → List (Str ⊕ Sy)
  | atl k n => [.inl (tAtl k n)]
  | rst k r p => [.inl (tRst k r p)]
  | fct t => [.inl t]
  | sur k => [.inl (tSur k)]
  | sil => [.inl (Str.ofString "silent")]
  | kno k s => [.inl (tKno k), .inr s, .inl (Str.ofString ")")]
  | com s => [.inl (Str.ofString "common ("), .inr s, .inl (Str.ofString ")")]
  | neg s => [.inl (Str.ofString "~("), .inr s, .inl (Str.ofString ")")]
  | par g a b => [.inl (Str.ofString "("), .inr a, .inl (tPar g), .inr b, .inl (Str.ofString ")")]
/-- all texts, in order -/
def lvs : Sy → List Str
  | atl k n => [tAtl k n]
  | rst k r p => [tRst k r p]
  | fct t => [t]
  | sur k => [tSur k]
  | sil => [Str.ofString "silent"]
  | kno k s => tKno k :: (s.lvs ++ [Str.ofString ")"])
  | com s => Str.ofString "common (" :: (s.lvs ++ [Str.ofString ")"])
  | neg s => Str.ofString "~(" :: (s.lvs ++ [Str.ofString ")"])
  | par g a b => Str.ofString "(" :: (a.lvs ++ (tPar g :: (b.lvs ++ [Str.ofString ")"])))
def wt : Sy → Nat
  | atl _ _ => 2 | rst _ _ _ => 2 | fct _ => 2 | sur _ => 2 | sil => 2 | kno _ s => s.wt + 3 | com s => s.wt + 3 | neg s => s.wt + 3 | par _ a b => a.wt + b.wt + 4
def okN (n : Int) : Prop := n.natAbs.log2 < 1920 ∧ (Str.ofString (toString n)).length ≤ 1000
def fit : Sy → Prop
  | atl k n => k.length ≤ 100 ∧ okN n
  | rst k r p => k.length ≤ 100 ∧ okN r ∧ okN p
  | fct _ => True
  | sur k => k.length ≤ 100
  | sil => True
  | kno k s => k.length ≤ 100 ∧ s.fit
  | com s => s.fit
  | neg s => s.fit
  | par g a b => g.length ≤ 100 ∧ a.fit ∧ b.fit
def txt (s : Sy) : Str := Txt.join Str.empty s.lvs
end Sy
/-- many pieces: their texts, their weight -/
def flt : List (Str ⊕ Sy) → List Str
  | [] => []
  | .inl t :: r => t :: flt r
  | .inr s :: r => s.lvs ++ flt r
def wts : List (Str ⊕ Sy) → Nat
  | [] => 0
  | .inl _ :: r => 1 + wts r
  | .inr s :: r => s.wt + wts r
theorem flt_app : ∀ a b : List (Str ⊕ Sy), flt (a ++ b) = flt a ++ flt b
  | [], _ => rfl
  | .inl t :: r, b => by show t :: flt (r ++ b) = _; rw [flt_app r b]; rfl
  | .inr s :: r, b => by show s.lvs ++ flt (r ++ b) = _; rw [flt_app r b, ← List.append_assoc]; rfl
theorem wts_app : ∀ a b : List (Str ⊕ Sy), wts (a ++ b) = wts a + wts b
  | [], _ => (Nat.zero_add _).symm
  | .inl t :: r, b => by show 1 + wts (r ++ b) = 1 + wts r + wts b; rw [wts_app r b, Nat.add_assoc]
  | .inr s :: r, b => by show s.wt + wts (r ++ b) = s.wt + wts r + wts b; rw [wts_app r b, Nat.add_assoc]
theorem wts_rev : ∀ a : List (Str ⊕ Sy), wts a.reverse = wts a
  | [] => rfl
  | x :: r => by
    rw [List.reverse_cons, wts_app, wts_rev r]
    cases x <;> simp only [wts] <;> omega
theorem flt_pcs (s : Sy) : flt s.pcs = s.lvs := by cases s <;> simp [Sy.pcs, Sy.lvs, flt]
theorem wts_pcs (s : Sy) : wts s.pcs + 1 = s.wt := by cases s <;> simp [Sy.pcs, Sy.wt, wts] <;> omega
theorem wt_pos (s : Sy) : 0 < s.wt := by cases s <;> simp [Sy.wt]
theorem len_wts : ∀ a : List (Str ⊕ Sy), a.length ≤ wts a
  | [] => Nat.le_refl _
  | .inl t :: r => by have := len_wts r; simp only [List.length_cons, wts]; omega
  | .inr s :: r => by have := len_wts r; have := wt_pos s; simp only [List.length_cons, wts]; omega
theorem lvs_wt : ∀ s : Sy, s.lvs.length + 1 ≤ s.wt
  | .atl _ _ => by simp [Sy.lvs, Sy.wt]
  | .rst _ _ _ => by simp [Sy.lvs, Sy.wt]
  | .fct _ => by simp [Sy.lvs, Sy.wt]
  | .sur _ => by simp [Sy.lvs, Sy.wt]
  | .sil => by simp [Sy.lvs, Sy.wt]
  | .kno _ s => by have := lvs_wt s; simp [Sy.lvs, Sy.wt]; omega
  | .com s => by have := lvs_wt s; simp [Sy.lvs, Sy.wt]; omega
  | .neg s => by have := lvs_wt s; simp [Sy.lvs, Sy.wt]; omega
  | .par _ a b => by have := lvs_wt a; have := lvs_wt b; simp [Sy.lvs, Sy.wt]; omega
theorem flt_wts : ∀ a : List (Str ⊕ Sy), (flt a).length ≤ wts a
  | [] => Nat.le_refl _
  | .inl t :: r => by have := flt_wts r; simp only [List.length_cons, wts, flt]; omega
  | .inr s :: r => by have := flt_wts r; have := lvs_wt s; simp only [List.length_append, wts, flt]; omega
/-- the classes, and what an instance of Crowds is that tells itself by a text -/
structure Wd where
  C : Ix → Addr
  Cr : Hp → Addr → Str → Prop
  mono : ∀ {H H' : Hp} {b : Addr} {t : Str}, Cr H b t → Sm H H' → Cr H' b t
/-- the instance at a tells the saying -/
def IsSy (W : Wd) (H : Hp) : Sy → Addr → Prop
  | .atl k n, a => ∃ dx, H a = some (.ins (W.C .atl) dx [("kind", .str k), ("number", .int n), ("depth", .int 0), ("commons", .int 0)])
  | .rst k r p, a => ∃ dx, H a = some (.ins (W.C .rst) dx [("kind", .str k), ("rest", .int r), ("period", .int p), ("depth", .int 0), ("commons", .int 0)])
  | .fct t, a => ∃ dx b, H a = some (.ins (W.C .fct) dx [("crowds", .ref b), ("depth", .int 0), ("commons", .int 0)]) ∧ W.Cr H b t
  | .sur k, a => ∃ dx, H a = some (.ins (W.C .sur) dx [("kind", .str k), ("depth", .int 1), ("commons", .int 0)])
  | .sil, a => ∃ dx, H a = some (.ins (W.C .sil) dx [("depth", .int 1), ("commons", .int 0)])
  | .kno k s, a => ∃ dx b, H a = some (.ins (W.C .kno) dx [("kind", .str k), ("saying", .ref b), ("depth", .int (s.dep + 1)), ("commons", .int s.cms)]) ∧ IsSy W H s b
  | .com s, a => ∃ dx b, H a = some (.ins (W.C .com) dx [("saying", .ref b), ("depth", .int (s.dep + 1)), ("commons", .int (s.cms + 1))]) ∧ IsSy W H s b
  | .neg s, a => ∃ dx b, H a = some (.ins (W.C .neg) dx [("saying", .ref b), ("depth", .int s.dep), ("commons", .int s.cms)]) ∧ IsSy W H s b
  | .par g s t, a => ∃ dx b c, H a = some (.ins (W.C .par) dx [("sign", .str g), ("first", .ref b), ("second", .ref c), ("depth", .int (if t.dep > s.dep then t.dep else s.dep)), ("commons", .int (s.cms + t.cms))]) ∧ IsSy W H s b ∧ IsSy W H t c
theorem IsSy.sm {W : Wd} {H H' : Hp} (e : Sm H H') : ∀ {s : Sy} {a : Addr}, IsSy W H s a → IsSy W H' s a
  | .atl k n, a, ⟨dx, h⟩ => ⟨dx, e _ _ h⟩
  | .rst k r p, a, ⟨dx, h⟩ => ⟨dx, e _ _ h⟩
  | .fct t, a, ⟨dx, b, h, c⟩ => ⟨dx, b, e _ _ h, W.mono c e⟩
  | .sur k, a, ⟨dx, h⟩ => ⟨dx, e _ _ h⟩
  | .sil, a, ⟨dx, h⟩ => ⟨dx, e _ _ h⟩
  | .kno k s, a, ⟨dx, b, h, c⟩ => ⟨dx, b, e _ _ h, IsSy.sm e c⟩
  | .com s, a, ⟨dx, b, h, c⟩ => ⟨dx, b, e _ _ h, IsSy.sm e c⟩
  | .neg s, a, ⟨dx, b, h, c⟩ => ⟨dx, b, e _ _ h, IsSy.sm e c⟩
  | .par g s t, a, ⟨dx, b, c, h, x, y⟩ => ⟨dx, b, c, e _ _ h, IsSy.sm e x, IsSy.sm e y⟩
/-- the instance itself: its class, its depth and commons -/
theorem IsSy.ins {W : Wd} {H : Hp} : ∀ {s : Sy} {a : Addr}, IsSy W H s a → ∃ dx fs, H a = some (.ins (W.C s.ix) dx fs) ∧ fs.lookup ("pieces" : Str) = none ∧ fs.lookup ("depth" : Str) = some (V.int s.dep) ∧ fs.lookup ("commons" : Str) = some (V.int s.cms)
  | .atl k n, a, ⟨dx, h⟩ => ⟨dx, _, h, rfl, rfl, rfl⟩
  | .rst k r p, a, ⟨dx, h⟩ => ⟨dx, _, h, rfl, rfl, rfl⟩
  | .fct t, a, ⟨dx, b, h, c⟩ => ⟨dx, _, h, rfl, rfl, rfl⟩
  | .sur k, a, ⟨dx, h⟩ => ⟨dx, _, h, rfl, rfl, rfl⟩
  | .sil, a, ⟨dx, h⟩ => ⟨dx, _, h, rfl, rfl, rfl⟩
  | .kno k s, a, ⟨dx, b, h, c⟩ => ⟨dx, _, h, rfl, rfl, rfl⟩
  | .com s, a, ⟨dx, b, h, c⟩ => ⟨dx, _, h, rfl, rfl, rfl⟩
  | .neg s, a, ⟨dx, b, h, c⟩ => ⟨dx, _, h, rfl, rfl, rfl⟩
  | .par g s t, a, ⟨dx, b, c, h, x, y⟩ => ⟨dx, _, h, rfl, rfl, rfl⟩
/-- pieces as values -/
def It (W : Wd) (H : Hp) : Str ⊕ Sy → V → Prop
  | .inl t, v => v = .str t
  | .inr s, v => ∃ b, v = .ref b ∧ IsSy W H s b ∧ s.fit
theorem It.sm {W : Wd} {H H' : Hp} (e : Sm H H') : ∀ {p : Str ⊕ Sy} {v : V}, It W H p v → It W H' p v
  | .inl _, _, h => h
  | .inr _, _, ⟨b, h, i, f⟩ => ⟨b, h, i.sm e, f⟩
inductive Its (W : Wd) (H : Hp) : List (Str ⊕ Sy) → List V → Prop
  | nil : Its W H [] []
  | cons {p : Str ⊕ Sy} {v : V} {ps : List (Str ⊕ Sy)} {vs : List V} (h : It W H p v) (r : Its W H ps vs) : Its W H (p :: ps) (v :: vs)
theorem Its.sm {W : Wd} {H H' : Hp} (e : Sm H H') {ps : List (Str ⊕ Sy)} {vs : List V} (h : Its W H ps vs) : Its W H' ps vs := by
  induction h with
  | nil => exact .nil
  | cons h r ih => exact .cons (h.sm e) ih
theorem Its.app {W : Wd} {H : Hp} {ps qs : List (Str ⊕ Sy)} {vs ws : List V} (h : Its W H ps vs) (g : Its W H qs ws) : Its W H (ps ++ qs) (vs ++ ws) := by
  induction h with
  | nil => exact g
  | cons h r ih => exact .cons h ih
theorem Its.rev {W : Wd} {H : Hp} {ps : List (Str ⊕ Sy)} {vs : List V} (h : Its W H ps vs) : Its W H ps.reverse vs.reverse := by
  induction h with
  | nil => exact .nil
  | cons h r ih =>
    rw [List.reverse_cons, List.reverse_cons]
    exact ih.app (.cons h .nil)
theorem Its.len {W : Wd} {H : Hp} {ps : List (Str ⊕ Sy)} {vs : List V} (h : Its W H ps vs) : vs.length = ps.length := by
  induction h with
  | nil => rfl
  | cons h r ih => rw [List.length_cons, List.length_cons, ih]
end Z
set_option Elab.async false
set_option linter.all false
set_option maxRecDepth 100000
set_option maxHeartbeats 4000000
set_option autoImplicit false
/-! The pieces of a saying, all its texts, its text. -/
namespace Z
open PySem PySem.Spec PyProof.Rows L2
open C8 (Cal pe_c Mak pe_mk Met pe_mt pe_mt0 pe_gc)
theorem str_len (a b : Str) : (a ++ b).length = a.length + b.length := by
  show (a.cps ++ b.cps).size = _
  exact Array.size_append
theorem emp_len : Str.empty.length = 0 := rfl
def flds : Ix → List Str
  | .atl => ["kind", "number", "depth", "commons"]
  | .rst => ["kind", "rest", "period", "depth", "commons"]
  | .fct => ["crowds", "depth", "commons"]
  | .sur => ["kind", "depth", "commons"]
  | .sil => ["depth", "commons"]
  | .kno => ["kind", "saying", "depth", "commons"]
  | .com => ["saying", "depth", "commons"]
  | .neg => ["saying", "depth", "commons"]
  | .par => ["sign", "first", "second", "depth", "commons"]
/-- what is asked of the classes -/
structure SyC (K : PySem.W.Frag) (W : Wd) : Prop where
  ic : ∀ i, InsC K (W.C i)
  nf : ∀ i f, f ∈ flds i → NoAttr K (W.C i) f
  ks : ∀ i, PySem.W.kitOne K (.ref (W.C i)) (.type "str") = some false
/-- pieces() -/
def spPcs (W : Wd) (i : Ix) : Sp := fun vs H Q _ => ∃ (a : Addr) (s : Sy) (H0 : Hp), vs = [.ref a] ∧ s.ix = i ∧ Sm H0 H ∧ IsSy W H0 s a ∧ s.fit ∧
  ∀ H' l xs, Sm H H' → H l = none → H' l = some (.lst xs) → Its W H0 s.pcs xs → Q (.ref l) H'
theorem line_ok {n : Nat} (h : n ≤ 5000) : n ≤ sizeLine := Nat.le_trans h (by decide)
section
variable {P : Program} {w : World} {K : PySem.W.Frag} {mg : Str → Option Value} {base : Heap} {W : Wd}
abbrev s_pAtLeast : Stmt := inC (topS 33) 1
theorem sc_pAtLeast : FnScope ["self"] ["self"] (defScope s_pAtLeast) := ⟨rfl, rfl, rfl, by decide +kernel, rfl, by decide +kernel, by decide +kernel⟩
theorem ok_pAtLeast {f : Addr} {fd : FuncData} {k : Nat} (F : Fun K "pieces" "AtLeast.pieces" s_pAtLeast f fd) (S : SyC K W) : FnOk P w K mg base CX0 (k + 1) f fd ["self"] (spPcs W .atl) := by
  refine F.ok sc_pAtLeast (fun vs H Q E h => ?_) (fun cdv A outer s H vs Q E hr h => ?_)
  · obtain ⟨a, s, H0, rfl, _⟩ := h
    rfl
  · obtain ⟨a, s, H0, rfl, ei, sm0, hs, ft, q⟩ := h
    cases s <;> first | (simp [Sy.ix] at ei; done) | skip
    rename_i kd n
    obtain ⟨dx, hs⟩ := hs
    have hs := sm0 _ _ hs
    obtain ⟨fk, fl, fn⟩ := ft
    refine ⟨_, (pss_one (ps_ret (pe_lst (pa_cons (pe_joined (.cons (pe_fmt (pe_fld (pv 0) rfl)) (.cons pe_str (.cons (pe_fmt (pe_fld (pv 0) rfl)) .nil)))) pa_nil)))), ?_⟩
    refine ⟨_, rfl, a, _, dx, _, _, rfl, hs, (S.ic _).c, S.nf .atl "kind" (by decide), rfl, .inl ⟨_, rfl, line_ok (by omega), _, rfl, line_ok (by
      simp only [str_len, emp_len]
      have : (Str.ofString " >= ").length = 4 := by decide +kernel
      omega), ?_⟩⟩
    refine ⟨_, rfl, line_ok (by
      simp only [str_len, emp_len]
      have : (Str.ofString " >= ").length = 4 := by decide +kernel
      omega), ?_⟩
    refine ⟨_, rfl, a, _, dx, _, _, rfl, hs, (S.ic _).c, S.nf .atl "number" (by decide), rfl, .inr ⟨n, rfl, fl, _, rfl, line_ok (by
      simp only [str_len, emp_len]
      have : (Str.ofString " >= ").length = 4 := by decide +kernel
      omega), ?_⟩⟩
    exact ⟨by show 1 ≤ sizeLine; decide, fun l hl => q _ l _ (Sm.new hl) hl upd_same (.cons rfl .nil)⟩
abbrev s_pRest : Stmt := inC (topS 34) 1
theorem sc_pRest : FnScope ["self"] ["self"] (defScope s_pRest) := ⟨rfl, rfl, rfl, by decide +kernel, rfl, by decide +kernel, by decide +kernel⟩
theorem ok_pRest {f : Addr} {fd : FuncData} {k : Nat} (F : Fun K "pieces" "Rest.pieces" s_pRest f fd) (S : SyC K W) : FnOk P w K mg base CX0 (k + 1) f fd ["self"] (spPcs W .rst) := by
  refine F.ok sc_pRest (fun vs H Q E h => ?_) (fun cdv A outer s H vs Q E hr h => ?_)
  · obtain ⟨a, s, H0, rfl, _⟩ := h
    rfl
  · obtain ⟨a, s, H0, rfl, ei, sm0, hs, ft, q⟩ := h
    cases s <;> first | (simp [Sy.ix] at ei; done) | skip
    rename_i kd r p
    obtain ⟨dx, hs⟩ := hs
    have hs := sm0 _ _ hs
    obtain ⟨fk, ⟨rl, rn⟩, pl, pn⟩ := ft
    refine ⟨_, (pss_one (ps_ret (pe_lst (pa_cons (pe_joined (.cons (pe_fmt (pe_fld (pv 0) rfl)) (.cons pe_str (.cons (pe_fmt (pe_fld (pv 0) rfl)) (.cons pe_str (.cons (pe_fmt (pe_fld (pv 0) rfl)) .nil)))))) pa_nil)))), ?_⟩
    refine ⟨_, rfl, a, _, dx, _, _, rfl, hs, (S.ic _).c, S.nf .rst "kind" (by decide), rfl, .inl ⟨_, rfl, line_ok (by omega), _, rfl, line_ok (by
      simp only [str_len, emp_len]
      have : (Str.ofString " by ").length = 4 := by decide +kernel
      have : (Str.ofString " leaves ").length = 8 := by decide +kernel
      omega), ?_⟩⟩
    refine ⟨_, rfl, line_ok (by
      simp only [str_len, emp_len]
      have : (Str.ofString " by ").length = 4 := by decide +kernel
      have : (Str.ofString " leaves ").length = 8 := by decide +kernel
      omega), ?_⟩
    refine ⟨_, rfl, a, _, dx, _, _, rfl, hs, (S.ic _).c, S.nf .rst "period" (by decide), rfl, .inr ⟨p, rfl, pl, _, rfl, line_ok (by
      simp only [str_len, emp_len]
      have : (Str.ofString " by ").length = 4 := by decide +kernel
      have : (Str.ofString " leaves ").length = 8 := by decide +kernel
      omega), ?_⟩⟩
    refine ⟨_, rfl, line_ok (by
      simp only [str_len, emp_len]
      have : (Str.ofString " by ").length = 4 := by decide +kernel
      have : (Str.ofString " leaves ").length = 8 := by decide +kernel
      omega), ?_⟩
    refine ⟨_, rfl, a, _, dx, _, _, rfl, hs, (S.ic _).c, S.nf .rst "rest" (by decide), rfl, .inr ⟨r, rfl, rl, _, rfl, line_ok (by
      simp only [str_len, emp_len]
      have : (Str.ofString " by ").length = 4 := by decide +kernel
      have : (Str.ofString " leaves ").length = 8 := by decide +kernel
      omega), ?_⟩⟩
    exact ⟨by show 1 ≤ sizeLine; decide, fun l hl => q _ l _ (Sm.new hl) hl upd_same (.cons rfl .nil)⟩
abbrev s_pSure : Stmt := inC (topS 36) 1
theorem sc_pSure : FnScope ["self"] ["self"] (defScope s_pSure) := ⟨rfl, rfl, rfl, by decide +kernel, rfl, by decide +kernel, by decide +kernel⟩
theorem ok_pSure {f : Addr} {fd : FuncData} {k : Nat} (F : Fun K "pieces" "Sure.pieces" s_pSure f fd) (S : SyC K W) : FnOk P w K mg base CX0 (k + 1) f fd ["self"] (spPcs W .sur) := by
  refine F.ok sc_pSure (fun vs H Q E h => ?_) (fun cdv A outer s H vs Q E hr h => ?_)
  · obtain ⟨a, s, H0, rfl, _⟩ := h
    rfl
  · obtain ⟨a, s, H0, rfl, ei, sm0, hs, ft, q⟩ := h
    cases s <;> first | (simp [Sy.ix] at ei; done) | skip
    rename_i kd
    obtain ⟨dx, hs⟩ := hs
    have hs := sm0 _ _ hs
    have fk : kd.length ≤ 100 := ft
    refine ⟨_, (pss_one (ps_ret (pe_lst (pa_cons (pe_joined (.cons pe_str (.cons (pe_fmt (pe_fld (pv 0) rfl)) .nil))) pa_nil)))), ?_⟩
    refine ⟨_, rfl, line_ok (by
      simp only [str_len, emp_len]
      have : (Str.ofString "sure ").length = 5 := by decide +kernel
      omega), ?_⟩
    refine ⟨_, rfl, a, _, dx, _, _, rfl, hs, (S.ic _).c, S.nf .sur "kind" (by decide), rfl, .inl ⟨_, rfl, line_ok (by omega), _, rfl, line_ok (by
      simp only [str_len, emp_len]
      have : (Str.ofString "sure ").length = 5 := by decide +kernel
      omega), ?_⟩⟩
    exact ⟨by show 1 ≤ sizeLine; decide, fun l hl => q _ l _ (Sm.new hl) hl upd_same (.cons rfl .nil)⟩
abbrev s_pSilent : Stmt := inC (topS 37) 1
theorem sc_pSilent : FnScope ["self"] ["self"] (defScope s_pSilent) := ⟨rfl, rfl, rfl, by decide +kernel, rfl, by decide +kernel, by decide +kernel⟩
theorem ok_pSilent {f : Addr} {fd : FuncData} {k : Nat} (F : Fun K "pieces" "Silent.pieces" s_pSilent f fd) (S : SyC K W) : FnOk P w K mg base CX0 (k + 1) f fd ["self"] (spPcs W .sil) := by
  refine F.ok sc_pSilent (fun vs H Q E h => ?_) (fun cdv A outer s H vs Q E hr h => ?_)
  · obtain ⟨a, s, H0, rfl, _⟩ := h
    rfl
  · obtain ⟨a, s, H0, rfl, ei, sm0, hs, ft, q⟩ := h
    cases s <;> first | (simp [Sy.ix] at ei; done) | skip
    obtain ⟨dx, hs⟩ := hs
    have hs := sm0 _ _ hs
    refine ⟨_, (pss_one (ps_ret (pe_lst (pa_cons pe_str pa_nil)))), ?_⟩
    exact ⟨by show 1 ≤ sizeLine; decide, fun l hl => q _ l _ (Sm.new hl) hl upd_same (.cons rfl .nil)⟩
abbrev s_pKnows : Stmt := inC (topS 38) 1
theorem sc_pKnows : FnScope ["self"] ["self"] (defScope s_pKnows) := ⟨rfl, rfl, rfl, by decide +kernel, rfl, by decide +kernel, by decide +kernel⟩
theorem ok_pKnows {f : Addr} {fd : FuncData} {k : Nat} (F : Fun K "pieces" "Knows.pieces" s_pKnows f fd) (S : SyC K W) : FnOk P w K mg base CX0 (k + 1) f fd ["self"] (spPcs W .kno) := by
  refine F.ok sc_pKnows (fun vs H Q E h => ?_) (fun cdv A outer s H vs Q E hr h => ?_)
  · obtain ⟨a, s, H0, rfl, _⟩ := h
    rfl
  · obtain ⟨a, s, H0, rfl, ei, sm0, hs, ft, q⟩ := h
    cases s <;> first | (simp [Sy.ix] at ei; done) | skip
    rename_i kd s0
    obtain ⟨dx, b, hs, hb⟩ := hs
    have hs := sm0 _ _ hs
    obtain ⟨fk, fb⟩ := ft
    refine ⟨_, (pss_one (ps_ret (pe_lst (pa_cons (pe_joined (.cons pe_str (.cons (pe_fmt (pe_fld (pv 0) rfl)) (.cons pe_str .nil)))) (pa_cons (pe_fld (pv 0) rfl) (pa_cons pe_str pa_nil)))))), ?_⟩
    refine ⟨_, rfl, line_ok (by
      simp only [str_len, emp_len]
      have : (Str.ofString "knows ").length = 6 := by decide +kernel
      have : (Str.ofString " (").length = 2 := by decide +kernel
      omega), ?_⟩
    refine ⟨_, rfl, a, _, dx, _, _, rfl, hs, (S.ic _).c, S.nf .kno "kind" (by decide), rfl, .inl ⟨_, rfl, line_ok (by omega), _, rfl, line_ok (by
      simp only [str_len, emp_len]
      have : (Str.ofString "knows ").length = 6 := by decide +kernel
      have : (Str.ofString " (").length = 2 := by decide +kernel
      omega), ?_⟩⟩
    refine ⟨_, rfl, line_ok (by
      simp only [str_len, emp_len]
      have : (Str.ofString "knows ").length = 6 := by decide +kernel
      have : (Str.ofString " (").length = 2 := by decide +kernel
      omega), ?_⟩
    refine ⟨_, rfl, a, _, dx, _, _, rfl, hs, (S.ic _).c, S.nf .kno "saying" (by decide), rfl, ?_⟩
    exact ⟨by show 3 ≤ sizeLine; decide, fun l hl => q _ l _ (Sm.new hl) hl upd_same (.cons rfl (.cons ⟨_, rfl, hb, fb⟩ (.cons rfl .nil)))⟩
abbrev s_pCommon : Stmt := inC (topS 39) 1
theorem sc_pCommon : FnScope ["self"] ["self"] (defScope s_pCommon) := ⟨rfl, rfl, rfl, by decide +kernel, rfl, by decide +kernel, by decide +kernel⟩
theorem ok_pCommon {f : Addr} {fd : FuncData} {k : Nat} (F : Fun K "pieces" "Common.pieces" s_pCommon f fd) (S : SyC K W) : FnOk P w K mg base CX0 (k + 1) f fd ["self"] (spPcs W .com) := by
  refine F.ok sc_pCommon (fun vs H Q E h => ?_) (fun cdv A outer s H vs Q E hr h => ?_)
  · obtain ⟨a, s, H0, rfl, _⟩ := h
    rfl
  · obtain ⟨a, s, H0, rfl, ei, sm0, hs, ft, q⟩ := h
    cases s <;> first | (simp [Sy.ix] at ei; done) | skip
    rename_i s0
    obtain ⟨dx, b, hs, hb⟩ := hs
    have hs := sm0 _ _ hs
    have fb : s0.fit := ft
    refine ⟨_, (pss_one (ps_ret (pe_lst (pa_cons pe_str (pa_cons (pe_fld (pv 0) rfl) (pa_cons pe_str pa_nil)))))), ?_⟩
    refine ⟨_, rfl, a, _, dx, _, _, rfl, hs, (S.ic _).c, S.nf .com "saying" (by decide), rfl, ?_⟩
    exact ⟨by show 3 ≤ sizeLine; decide, fun l hl => q _ l _ (Sm.new hl) hl upd_same (.cons rfl (.cons ⟨_, rfl, hb, fb⟩ (.cons rfl .nil)))⟩
abbrev s_pNot : Stmt := inC (topS 40) 1
theorem sc_pNot : FnScope ["self"] ["self"] (defScope s_pNot) := ⟨rfl, rfl, rfl, by decide +kernel, rfl, by decide +kernel, by decide +kernel⟩
theorem ok_pNot {f : Addr} {fd : FuncData} {k : Nat} (F : Fun K "pieces" "Not.pieces" s_pNot f fd) (S : SyC K W) : FnOk P w K mg base CX0 (k + 1) f fd ["self"] (spPcs W .neg) := by
  refine F.ok sc_pNot (fun vs H Q E h => ?_) (fun cdv A outer s H vs Q E hr h => ?_)
  · obtain ⟨a, s, H0, rfl, _⟩ := h
    rfl
  · obtain ⟨a, s, H0, rfl, ei, sm0, hs, ft, q⟩ := h
    cases s <;> first | (simp [Sy.ix] at ei; done) | skip
    rename_i s0
    obtain ⟨dx, b, hs, hb⟩ := hs
    have hs := sm0 _ _ hs
    have fb : s0.fit := ft
    refine ⟨_, (pss_one (ps_ret (pe_lst (pa_cons pe_str (pa_cons (pe_fld (pv 0) rfl) (pa_cons pe_str pa_nil)))))), ?_⟩
    refine ⟨_, rfl, a, _, dx, _, _, rfl, hs, (S.ic _).c, S.nf .neg "saying" (by decide), rfl, ?_⟩
    exact ⟨by show 3 ≤ sizeLine; decide, fun l hl => q _ l _ (Sm.new hl) hl upd_same (.cons rfl (.cons ⟨_, rfl, hb, fb⟩ (.cons rfl .nil)))⟩
abbrev s_pPair : Stmt := inC (topS 41) 1
theorem sc_pPair : FnScope ["self"] ["self"] (defScope s_pPair) := ⟨rfl, rfl, rfl, by decide +kernel, rfl, by decide +kernel, by decide +kernel⟩
theorem ok_pPair {f : Addr} {fd : FuncData} {k : Nat} (F : Fun K "pieces" "Pair.pieces" s_pPair f fd) (S : SyC K W) : FnOk P w K mg base CX0 (k + 1) f fd ["self"] (spPcs W .par) := by
  refine F.ok sc_pPair (fun vs H Q E h => ?_) (fun cdv A outer s H vs Q E hr h => ?_)
  · obtain ⟨a, s, H0, rfl, _⟩ := h
    rfl
  · obtain ⟨a, s, H0, rfl, ei, sm0, hs, ft, q⟩ := h
    cases s <;> first | (simp [Sy.ix] at ei; done) | skip
    rename_i g s0 s1
    obtain ⟨dx, b, c, hs, hb, hc⟩ := hs
    have hs := sm0 _ _ hs
    obtain ⟨fk, fb, fc⟩ := ft
    refine ⟨_, (pss_one (ps_ret (pe_lst (pa_cons pe_str (pa_cons (pe_fld (pv 0) rfl) (pa_cons (pe_joined (.cons pe_str (.cons (pe_fmt (pe_fld (pv 0) rfl)) (.cons pe_str .nil)))) (pa_cons (pe_fld (pv 0) rfl) (pa_cons pe_str pa_nil)))))))), ?_⟩
    refine ⟨_, rfl, a, _, dx, _, _, rfl, hs, (S.ic _).c, S.nf .par "first" (by decide), rfl, ?_⟩
    refine ⟨_, rfl, line_ok (by
      simp only [str_len, emp_len]
      have : (Str.ofString ") ").length = 2 := by decide +kernel
      have : (Str.ofString " (").length = 2 := by decide +kernel
      omega), ?_⟩
    refine ⟨_, rfl, a, _, dx, _, _, rfl, hs, (S.ic _).c, S.nf .par "sign" (by decide), rfl, .inl ⟨_, rfl, line_ok (by omega), _, rfl, line_ok (by
      simp only [str_len, emp_len]
      have : (Str.ofString ") ").length = 2 := by decide +kernel
      have : (Str.ofString " (").length = 2 := by decide +kernel
      omega), ?_⟩⟩
    refine ⟨_, rfl, line_ok (by
      simp only [str_len, emp_len]
      have : (Str.ofString ") ").length = 2 := by decide +kernel
      have : (Str.ofString " (").length = 2 := by decide +kernel
      omega), ?_⟩
    refine ⟨_, rfl, a, _, dx, _, _, rfl, hs, (S.ic _).c, S.nf .par "second" (by decide), rfl, ?_⟩
    exact ⟨by show 5 ≤ sizeLine; decide, fun l hl => q _ l _ (Sm.new hl) hl upd_same (.cons rfl (.cons ⟨_, rfl, hb, fb⟩ (.cons rfl (.cons ⟨_, rfl, hc, fc⟩ (.cons rfl .nil)))))⟩
-- end of pieces
end
end Z
set_option Elab.async false
set_option linter.all false
set_option maxRecDepth 100000
set_option maxHeartbeats 4000000
set_option autoImplicit false
/-! All texts of a saying; its text. -/
namespace Z
open PySem PySem.Spec PyProof.Rows L2
open C8 (Cal pe_c Mak pe_mk Met pe_mt pe_mt0 pe_gc)
theorem Its.snoc {W : Wd} {H : Hp} {p : Str ⊕ Sy} : ∀ {ps : List (Str ⊕ Sy)} {vs : List V}, Its W H (ps ++ [p]) vs → ∃ ws v, vs = ws ++ [v] ∧ Its W H ps ws ∧ It W H p v
  | [], _, .cons h .nil => ⟨[], _, rfl, .nil, h⟩
  | q :: ps, _, .cons h r =>
    let ⟨ws, v, e, i, g⟩ := Its.snoc (ps := ps) r
    ⟨_ :: ws, v, by rw [e]; rfl, .cons h i, g⟩
def spStrs (W : Wd) : Sp := fun vs H Q _ => ∃ (a : Addr) (s : Sy), vs = [.ref a] ∧ IsSy W H s a ∧ s.fit ∧ s.wt ≤ 100000 ∧
  ∀ H' l, Sm H H' → H l = none → H' l = some (.lst (s.lvs.map V.str)) → Q (.ref l) H'
/-- str(s) -/
def spStr (W : Wd) : Sp := fun vs H Q _ => ∃ (a : Addr) (s : Sy), vs = [.ref a] ∧ IsSy W H s a ∧ s.fit ∧ s.wt ≤ 100000 ∧ (s.lvs.map (·.length)).sum ≤ 16777216 ∧
  ∀ H', Sm H H' → Q (.str s.txt) H'
section
variable {P : Program} {w : World} {K : PySem.W.Frag} {mg : Str → Option Value} {base : Heap} {W : Wd}
abbrev s_strs : Stmt := topS 45
abbrev n_strs : List Str := ["saying", "found", "waiting", "piece"]
theorem sc_strs : FnScope n_strs ["saying"] (defScope s_strs) := ⟨rfl, rfl, rfl, by decide +kernel, rfl, by decide +kernel, by decide +kernel⟩
theorem ok_strs {f : Addr} {fd : FuncData} {k : Nat} (F : Fun K "strings_of" "strings_of" s_strs f fd) (T : Bt mg) (S : SyC K W) (cP : ∀ i, Met P w K mg base k (W.C i) "pieces" (spPcs W i) []) :
    FnOk P w K mg base CX0 (k + 1) f fd ["saying"] (spStrs W) := by
  refine F.ok sc_strs (fun vs H Q E h => ?_) (fun cdv A outer s H vs Q E hr h => ?_)
  · obtain ⟨a, s, rfl, _⟩ := h
    rfl
  · obtain ⟨a, s, rfl, hs, ft, hw, q⟩ := h
    refine ⟨_, (pss_cons (ps_set (i := 1) sc_strs.nd rfl (Or.inl rfl) (pe_lst pa_nil))
      (pss_cons (ps_set (i := 2) sc_strs.nd rfl (Or.inl rfl) (pe_lst (pa_cons (pv 0) pa_nil)))
      (pss_cons (ps_while PassesOwn.never (pt_truth (pv 2) (fun _ => rfl))
        (pss_cons (ps_set (i := 3) sc_strs.nd rfl (Or.inl rfl) (pe_bm0 PySem.F.plainAttrs_list PySem.F.slot_list_pop PySem.F.type_list_pop mt_pop (pv 2)))
        (pss_one (ps_if (pt_val (pe_callB call_isi (by rfl) T.n_isinstance (by decide +kernel) (pa_cons (pv 3) (pa_cons (pe_bltn (v := .ty "str") (by rfl) T.n_str (by decide +kernel) rfl) pa_nil))))
          (pss_one (ps_expr (pe_bm PySem.F.plainAttrs_list PySem.F.slot_list_append PySem.F.type_list_append mt_append (pv 1) (pa_cons (pv 3) pa_nil))))
          (pss_one (ps_expr (pe_bm PySem.F.plainAttrs_list PySem.F.slot_list_extend PySem.F.type_list_extend mt_extend (pv 2) (pa_cons (pe_revL (pe_mtF cP hr (Nat.le_refl _) (pv 3))) pa_nil))))))))
      (pss_one (ps_ret (pv 1)))))), ?_⟩
    refine ⟨(by show 0 ≤ sizeLine; decide), fun Fd hF => ⟨_, rfl, (by show 1 ≤ sizeLine; decide), fun Wt hW => ?_⟩⟩
    have ne : Fd ≠ Wt := fun e => by rw [← e, upd_same] at hW; cases hW
    have hW0 : H Wt = none := by rw [upd_ne ne.symm] at hW; exact hW
    have e0 : msk Fd Wt (upd (upd H Fd (.lst [])) Wt (.lst [.ref a])) = msk Fd Wt H := by rw [msk_in (.inr rfl), msk_in (.inl rfl)]
    have m0 : Sm H (msk Fd Wt H) := fun b o hb => by
      rw [msk_ne (fun e => by rw [e, hF] at hb; cases hb) (fun e => by rw [e, hW0] at hb; cases hb)]
      exact hb
    refine ⟨fun m σ H1 => ∃ ps vs ts x3, m = wts ps ∧ σ = [some (.ref a), some (.ref Fd), some (.ref Wt), x3] ∧ H1 Fd = some (.lst (ts.map V.str)) ∧ H1 Wt = some (.lst vs) ∧ Its W (msk Fd Wt H1) ps vs ∧
      ts ++ flt ps.reverse = s.lvs ∧ wts ps ≤ 100000 ∧ Sm H (msk Fd Wt H1), ⟨_, [.inr s], _, [], _, rfl, rfl, by rw [upd_ne ne, upd_same]; rfl, upd_same, .cons ⟨a, rfl, ?_, ft⟩ .nil, ?_, ?_, ?_⟩, ?_⟩
    · rw [e0]
      exact hs.sm m0
    · simp [flt]
    · simp only [wts]; omega
    · rw [e0]
      exact m0
    rintro m σ H1 ⟨ps, vs, ts, x3, rfl, rfl, hf, hv, hi, ht, hb, sm⟩
    have tl : ts.length ≤ 100000 := by
      have := lvs_wt s
      have e : (ts ++ flt ps.reverse).length = s.lvs.length := by rw [ht]
      rw [List.length_append] at e
      omega
    refine ⟨_, rfl, !vs.isEmpty, .inl ⟨vs, .inl (.inl hv), rfl⟩, ?_⟩
    rcases List.eq_nil_or_concat ps with rfl | ⟨ps', p, rfl⟩
    · cases hi
      refine ⟨_, rfl, q H1 Fd (sm.trans msk_le) hF ?_⟩
      simp only [flt, List.reverse_nil, List.append_nil] at ht
      rw [hf, ht]
    · rw [List.concat_eq_append] at hi ht hb ⊢
      obtain ⟨ws, v, rfl, hi', hp⟩ := hi.snoc
      have ne2 : (!(ws ++ [v]).isEmpty) = true := by simp
      rw [ne2]
      refine ⟨_, fun σ' H' hN => hN, ?_⟩
      refine ⟨_, rfl, .inl ⟨rfl, _, .inl (.inl hv)⟩, Wt, _, v, rfl, rfl, hv, by simp, ?_⟩
      rw [List.dropLast_concat]
      have hv2 : upd H1 Wt (.lst ws) Wt = some (.lst ws) := upd_same
      have hf2 : upd H1 Wt (.lst ws) Fd = some (.lst (ts.map V.str)) := by rw [upd_ne ne]; exact hf
      have e2 : msk Fd Wt (upd H1 Wt (.lst ws)) = msk Fd Wt H1 := msk_in (.inr rfl)
      rw [wts_app] at hb ⊢
      rw [List.reverse_append] at ht
      cases p with
      | inl t =>
        obtain rfl : v = .str t := hp
        refine ⟨_, rfl, _, _, _, _, _, rfl, .ty "str", .base (.str _), kit_ty (a := "str") (b := "str") (r := true) (by decide +kernel), _, rfl, ?_⟩
        refine ⟨_, rfl, .inl ⟨rfl, _, .inl (.inl hf2)⟩, _, rfl, Fd, _, _, rfl, rfl, hf2, (by rw [List.length_map]; exact Nat.lt_of_le_of_lt tl (by decide)), ?_⟩
        refine ⟨wts ps', by simp [wts], ps', ws, ts ++ [t], _, rfl, rfl, by rw [upd_same, List.map_append]; rfl, by rw [upd_ne ne.symm]; exact hv2, ?_, ?_, by omega, ?_⟩
        · rw [msk_in (.inl rfl), e2]
          exact hi'
        · rw [← ht, List.append_assoc]
          rfl
        · rw [msk_in (.inl rfl), e2]
          exact sm
      | inr s' =>
        obtain ⟨b, rfl, hb', fb⟩ := hp
        obtain ⟨dx, fs, hin, hl, _⟩ := hb'.ins
        have hin2 := msk_le _ _ hin
        have nbW : b ≠ Wt := (msk_some hin).2.2
        have hin3 : upd H1 Wt (.lst ws) b = some (.ins (W.C s'.ix) dx fs) := by rw [upd_ne nbW]; exact hin2
        refine ⟨_, rfl, _, _, _, _, _, rfl, .ty "str", (S.ic s'.ix).ty hin3, S.ks s'.ix, _, rfl, ?_⟩
        have s1 : Sm (msk Fd Wt H1) (upd H1 Wt (.lst ws)) := by rw [← e2]; exact msk_le
        refine ⟨_, rfl, .inl ⟨rfl, _, .inl (.inl hv2)⟩, _, rfl, s'.ix, b, dx, fs, rfl, hin3, hl, b, s', msk Fd Wt H1, rfl, rfl, s1, hb', fb, fun H2 l xs sm2 hl2 hl3 hx => ?_⟩
        · refine ⟨l, xs, rfl, .inl (.inl hl3), fun r hr2 => ?_⟩
          have s3 : Sm (upd H1 Wt (.lst ws)) (upd H2 r (.lst xs.reverse)) := sm2.trans (Sm.new hr2)
          have lx := hx.len
          have lp := len_wts s'.pcs
          have wp := wts_pcs s'
          have lw := len_wts ps'
          have li := hi'.len
          have wE : wts [Sum.inr s'] = s'.wt := by simp [wts]
          rw [wE] at hb ⊢
          refine ⟨Wt, r, ws, xs.reverse, rfl, rfl, s3 _ _ hv2, upd_same, (by rw [List.length_reverse]; exact Nat.le_trans (show ws.length + xs.length ≤ 100000 by omega) (by decide)), ?_⟩
          have sM : Sm (msk Fd Wt H1) (msk Fd Wt (upd (upd H2 r (.lst xs.reverse)) Wt (.lst (ws ++ xs.reverse)))) := by
            rw [msk_in (.inr rfl), ← e2]
            exact s3.msk
          have nFl : l ≠ Fd := fun e => by rw [e, hf2] at hl2; cases hl2
          refine ⟨wts ps' + wts s'.pcs, by omega, ps' ++ s'.pcs.reverse, _, ts, _, by rw [wts_app, wts_rev], rfl, by rw [upd_ne ne]; exact s3 _ _ hf2, upd_same, (hi'.sm sM).app ?_, ?_, by rw [wts_app, wts_rev]; omega, sm.trans sM⟩
          · exact (hx.sm sM).rev
          · rw [List.reverse_append, List.reverse_reverse, flt_app, flt_pcs, ← ht]
            rfl
end
end Z
set_option Elab.async false
set_option linter.all false
set_option maxRecDepth 100000
set_option maxHeartbeats 4000000
set_option autoImplicit false
/-! What an argument is to isinstance; the checks. -/
namespace Z
open PySem PySem.Spec PyProof.Rows L2
open C8 (Cal pe_c Mak pe_mk Met pe_mt pe_mt0 pe_gc)
theorem tyx_sm {K : PySem.W.Frag} {H H' : Hp} {v : V} {t : Value} (e : Sm H H') (h : TyX K H v t) : TyX K H' v t := by
  cases h with
  | base h =>
    cases h with
    | non => exact .base .non
    | bl x => exact .base (.bl x)
    | int i => exact .base (.int i)
    | str x => exact .base (.str x)
    | flt x => exact .base (.flt x)
    | lst h => exact .base (.lst (e _ _ h))
    | frz h => exact .base (.frz (e _ _ h))
    | tup h => exact .base (.tup (e _ _ h))
    | dK h => exact .base (.dK (e _ _ h))
    | dT h => exact .base (.dT (e _ _ h))
    | ins h a b c d f => exact .base (.ins (e _ _ h) a b c d f)
  | byt b => exact .byt b
  | set h => exact .set (e _ _ h)
  | kList a b => exact .kList a b
  | kTuple a b => exact .kTuple a b
  | kDict a b => exact .kDict a b
  | fTuple h => exact .fTuple (e _ _ h)
  | fDict h => exact .fDict (e _ _ h)
/-- a text, or not -/
def TxtA (K : PySem.W.Frag) (H : Hp) (v : V) (o : Option Str) : Prop := ∃ t b, TyX K H v t ∧ PySem.W.kitOne K t (.type "str") = some b ∧ (b = true → ∃ y, v = .str y ∧ o = some y) ∧ (b = false → o = none)
/-- a whole number that is no truth value, or not -/
def NumA (K : PySem.W.Frag) (H : Hp) (v : V) (o : Option Int) : Prop := ∃ t b c, TyX K H v t ∧ PySem.W.kitOne K t (.type "int") = some b ∧ PySem.W.kitOne K t (.type "bool") = some c ∧
  ((if b = true then !c else false) = true → ∃ n, v = .int n ∧ o = some n) ∧ ((if b = true then !c else false) = false → o = none)
/-- an instance of the class at C, or not -/
def InsA (K : PySem.W.Frag) (H : Hp) (C : Addr) (v : V) (b : Bool) : Prop := ∃ t, TyX K H v t ∧ PySem.W.kitOne K t (.ref C) = some b
theorem TxtA.sm {K : PySem.W.Frag} {H H' : Hp} {v : V} {o : Option Str} (h : TxtA K H v o) (e : Sm H H') : TxtA K H' v o := let ⟨t, b, a, r⟩ := h; ⟨t, b, tyx_sm e a, r⟩
theorem NumA.sm {K : PySem.W.Frag} {H H' : Hp} {v : V} {o : Option Int} (h : NumA K H v o) (e : Sm H H') : NumA K H' v o := let ⟨t, b, c, a, r⟩ := h; ⟨t, b, c, tyx_sm e a, r⟩
theorem InsA.sm {K : PySem.W.Frag} {H H' : Hp} {C : Addr} {v : V} {b : Bool} (h : InsA K H C v b) (e : Sm H H') : InsA K H' C v b := let ⟨t, a, r⟩ := h; ⟨t, tyx_sm e a, r⟩
def kinds : List V := [.str "marked", .str "plain"]
def isKd : Option Str → Bool
  | some y => inV (.str y) kinds
  | none => false
def isNm : Option Int → Bool
  | some n => decide (0 ≤ n)
  | none => false
def spKd (K : PySem.W.Frag) : Sp := fun vs H Q _ => ∃ v o, vs = [v] ∧ TxtA K H v o ∧ Q (.bl (isKd o)) H
def spIn (K : PySem.W.Frag) : Sp := fun vs H Q _ => ∃ v o, vs = [v] ∧ NumA K H v o ∧ Q (.bl o.isSome) H
def spNm (K : PySem.W.Frag) : Sp := fun vs H Q _ => ∃ v o, vs = [v] ∧ NumA K H v o ∧ Q (.bl (isNm o)) H
/-- the error with the word -/
def ErrW (CI : Addr) (wd : Str) (H : Hp) (E : XK) : Prop := ∀ d H', Sm H H' → H' d = some (.xd [("word", .str wd)]) → E (.ref CI) (some d) H'
theorem ErrW.sm {CI : Addr} {wd : Str} {H H' : Hp} {E : XK} (h : ErrW CI wd H E) (e : Sm H H') : ErrW CI wd H' E := fun d H2 s x => h d H2 (e.trans s) x
def spCkK (K : PySem.W.Frag) (CI : Addr) : Sp := fun vs H Q E => ∃ v o, vs = [v] ∧ TxtA K H v o ∧ (isKd o = false → ErrW CI "kind" H E) ∧ (isKd o = true → Q .non H)
def spCkS (K : PySem.W.Frag) (CI CS : Addr) : Sp := fun vs H Q E => ∃ v b, vs = [v] ∧ InsA K H CS v b ∧ (b = false → ErrW CI "saying" H E) ∧ (b = true → Q .non H)
section
variable {P : Program} {w : World} {K : PySem.W.Frag} {mg : Str → Option Value} {base : Heap} {CI CS TK : Addr}
abbrev s_isint : Stmt := topS 4
theorem sc_isint : FnScope ["value"] ["value"] (defScope s_isint) := ⟨rfl, rfl, rfl, by decide +kernel, rfl, by decide +kernel, by decide +kernel⟩
theorem ok_isint {f : Addr} {fd : FuncData} {k : Nat} (F : Fun K "is_integer" "is_integer" s_isint f fd) (T : Bt mg) : FnOk P w K mg base CX0 (k + 1) f fd ["value"] (spIn K) := by
  refine F.ok sc_isint (fun vs H Q E h => ?_) (fun cdv A outer s H vs Q E hr h => ?_)
  · obtain ⟨v, d, rfl, _⟩ := h
    rfl
  · obtain ⟨v, o, rfl, ⟨t, b, c, ty, k1, k2, y, n⟩, q⟩ := h
    refine ⟨_, (pss_one (ps_ret (pe_and (pe_callB call_isi (by rfl) T.n_isinstance (by decide +kernel) (pa_cons (pv 0) (pa_cons (pe_bltn (v := .ty "int") (by rfl) T.n_int (by decide +kernel) rfl) pa_nil)))
      (pe_one (pe_not (pe_callB call_isi (by rfl) T.n_isinstance (by decide +kernel) (pa_cons (pv 0) (pa_cons (pe_bltn (v := .ty "bool") (by rfl) T.n_bool (by decide +kernel) rfl) pa_nil)))))))), ?_⟩
    refine ⟨_, rfl, v, _, _, _, _, rfl, .ty "int", ty, k1, _, rfl, ?_⟩
    have e : o.isSome = (if b = true then !c else false) := by
      cases hz : (if b = true then !c else false) with
      | true =>
        obtain ⟨m, _, rfl⟩ := y hz
        rfl
      | false => rw [n hz]; rfl
    rw [e] at q
    refine iteB (fun hb => ?_) (fun hb => ?_)
    · rw [if_pos hb] at q
      exact ⟨_, rfl, v, _, _, _, _, rfl, .ty "bool", ty, k2, _, rfl, q⟩
    · rw [hb] at q
      exact q
abbrev s_isnum : Stmt := topS 5
theorem sc_isnum : FnScope ["value"] ["value"] (defScope s_isnum) := ⟨rfl, rfl, rfl, by decide +kernel, rfl, by decide +kernel, by decide +kernel⟩
theorem ok_isnum {f : Addr} {fd : FuncData} (F : Fun K "is_number" "is_number" s_isnum f fd) (Ci : Cal P w K mg base 1 "is_integer" (spIn K) []) : FnOk P w K mg base CX0 2 f fd ["value"] (spNm K) := by
  refine F.ok sc_isnum (fun vs H Q E h => ?_) (fun cdv A outer s H vs Q E hr h => ?_)
  · obtain ⟨v, d, rfl, _⟩ := h
    rfl
  · obtain ⟨v, o, rfl, hA, q⟩ := h
    refine ⟨_, (pss_one (ps_ret (pe_and (pe_c Ci hr (by decide) (by rfl) (pa_cons (pv 0) pa_nil)) (pe_one (pe_cmpR op_ge (pv 0) pe_int (nomark _)))))), ?_⟩
    refine ⟨_, rfl, v, o, rfl, hA, _, rfl, ?_⟩
    obtain ⟨t, b, c, ty, k1, k2, y, n⟩ := hA
    cases hz : (if b = true then !c else false) with
    | true =>
      obtain ⟨m, rfl, rfl⟩ := y hz
      exact ⟨_, rfl, _, _, rfl, rfl, q⟩
    | false =>
      cases n hz
      exact q
abbrev s_iskind : Stmt := topS 6
theorem sc_iskind : FnScope ["value"] ["value"] (defScope s_iskind) := ⟨rfl, rfl, rfl, by decide +kernel, rfl, by decide +kernel, by decide +kernel⟩
theorem ok_iskind {f : Addr} {fd : FuncData} {k : Nat} (F : Fun K "is_kind" "is_kind" s_iskind f fd) (T : Bt mg) (gK : mg "KINDS" = some (.ref TK)) (sK : ∀ H, SqT K H TK kinds) : FnOk P w K mg base CX0 (k + 1) f fd ["value"] (spKd K) := by
  refine F.ok sc_iskind (fun vs H Q E h => ?_) (fun cdv A outer s H vs Q E hr h => ?_)
  · obtain ⟨v, d, rfl, _⟩ := h
    rfl
  · obtain ⟨v, o, rfl, ⟨t, b, ty, k1, y, n⟩, q⟩ := h
    refine ⟨_, (pss_one (ps_ret (pe_and (pe_callB call_isi (by rfl) T.n_isinstance (by decide +kernel) (pa_cons (pv 0) (pa_cons (pe_bltn (v := .ty "str") (by rfl) T.n_str (by decide +kernel) rfl) pa_nil))) (pe_one (pe_cmpR op_in_seq (pv 0) (pe_glob (v := .ref TK) rfl gK rfl) rfl))))), ?_⟩
    refine ⟨_, rfl, v, _, _, _, _, rfl, .ty "str", ty, k1, _, rfl, ?_⟩
    cases b with
    | true =>
      obtain ⟨m, rfl, rfl⟩ := y rfl
      exact ⟨_, rfl, TK, kinds, rfl, .inr (sK _), rfl, rfl, q⟩
    | false =>
      cases n rfl
      exact q
abbrev s_ckk : Stmt := topS 42
theorem sc_ckk : FnScope ["kind"] ["kind"] (defScope s_ckk) := ⟨rfl, rfl, rfl, by decide +kernel, rfl, by decide +kernel, by decide +kernel⟩
theorem ok_ckk {f : Addr} {fd : FuncData} (F : Fun K "_check_kind" "_check_kind" s_ckk f fd) (B : BadE P w K mg base "InvalidSaying" "word" CI) (Ck : Cal P w K mg base 1 "is_kind" (spKd K) []) : FnOk P w K mg base (L2.CX P w) 3 f fd ["kind"] (spCkK K CI) := by
  obtain ⟨fI, fdI, i1, i2, FI, bI⟩ := B.ini
  refine F.okX sc_ckk (fun vs H Q E h => ?_) (fun cdv A outer s H vs Q E hr h => ?_)
  · obtain ⟨v, d, rfl, _⟩ := h
    rfl
  · obtain ⟨v, o, rfl, hA, qE, qN⟩ := h
    have hr2 : Room 2 _ := hr
    refine ⟨_, (pss_one (ps_if (pt_not (pt_val (pe_c Ck hr (by decide) (by rfl) (pa_cons (pv 0) pa_nil))))
        (pss_one (ps_raise rfl (takes_of rfl rfl rfl rfl) (pmk_oex B.T i1 i2 FI hr2 bI .nil pass0 (by rfl) B.gC (pa_cons pe_str pa_nil))))
        pss_nil)), ?_⟩
    refine ⟨_, rfl, v, o, rfl, hA, _, rfl, iteB (fun hb => ?_) (fun hb => ?_)⟩
    · exact ⟨(by show 1 ≤ 1000; decide), fun a' na => bad_end (fun d H' s' e' => qE (by simpa using hb) d H' s' e') a' na⟩
    · exact qN (by simpa using hb)
abbrev s_cks : Stmt := topS 43
theorem sc_cks : FnScope ["saying"] ["saying"] (defScope s_cks) := ⟨rfl, rfl, rfl, by decide +kernel, rfl, by decide +kernel, by decide +kernel⟩
theorem ok_cks {f : Addr} {fd : FuncData} (F : Fun K "_check_saying" "_check_saying" s_cks f fd) (T : Bt mg) (gS : mg "Saying" = some (.ref CS)) (B : BadE P w K mg base "InvalidSaying" "word" CI) : FnOk P w K mg base (L2.CX P w) 3 f fd ["saying"] (spCkS K CI CS) := by
  obtain ⟨fI, fdI, i1, i2, FI, bI⟩ := B.ini
  refine F.okX sc_cks (fun vs H Q E h => ?_) (fun cdv A outer s H vs Q E hr h => ?_)
  · obtain ⟨v, d, rfl, _⟩ := h
    rfl
  · obtain ⟨v, b, rfl, ⟨t, ty, k1⟩, qE, qN⟩ := h
    have hr2 : Room 2 _ := hr
    refine ⟨_, (pss_one (ps_if (pt_not (pt_val (pe_callB call_isi (by rfl) T.n_isinstance (by decide +kernel) (pa_cons (pv 0) (pa_cons (pe_glob (v := .ref CS) rfl gS rfl) pa_nil)))))
        (pss_one (ps_raise rfl (takes_of rfl rfl rfl rfl) (pmk_oex B.T i1 i2 FI hr2 bI .nil pass0 (by rfl) B.gC (pa_cons pe_str pa_nil))))
        pss_nil)), ?_⟩
    refine ⟨_, rfl, v, _, _, _, _, rfl, .own CS, ty, k1, _, rfl, iteB (fun hb => ?_) (fun hb => ?_)⟩
    · exact ⟨(by show 1 ≤ 1000; decide), fun a' na => bad_end (fun d H' s' e' => qE (by simpa using hb) d H' s' e') a' na⟩
    · exact qN (by simpa using hb)
end
end Z
set_option Elab.async false
set_option linter.all false
set_option maxRecDepth 100000
set_option maxHeartbeats 4000000
set_option autoImplicit false
/-! The sayings made. -/
namespace Z
open PySem PySem.Spec PyProof.Rows L2
open C8 (Cal pe_c Mak pe_mk Met pe_mt pe_mt0 pe_gc)
theorem sm_kp {a : Addr} {H0 H H' : Hp} (e : Sm H0 H) (n : H0 a = none) (k : Kp a H H') : Sm H0 H' := fun b o hb => k b o (fun z => by rw [z, n] at hb; cases hb) (e b o hb)
/-- a def that may raise, by its name -/
structure CalX (P : Program) (w : World) (K : PySem.W.Frag) (mg : Str → Option Value) (base : Heap) (k : Nat) (x : Str) (sp : Sp) : Prop where
  ex : ∃ (f : Addr) (fd : FuncData) (ps : List Str), FnOk P w K mg base (L2.CX P w) k f fd ps sp ∧ mg x = some (.ref f) ∧ PySem.W.keepIn K (.ref f) = true ∧ Binds K fd ps []
def badA (o : Option Str) (n : Option Int) : Option Str := if isKd o = false then some "kind" else if isNm n = false then some "number" else none
def isPer : Option Int → Bool
  | some p => decide (0 < p)
  | none => false
def isRst : Option Int → Option Int → Bool
  | some r, some p => decide (0 ≤ r ∧ r < p)
  | _, _ => false
def badR (o : Option Str) (r p : Option Int) : Option Str := if isKd o = false then some "kind" else if isPer p = false then some "period" else if isRst r p = false then some "rest" else none
def badK (o : Option Str) (b : Bool) : Option Str := if isKd o = false then some "kind" else if b = false then some "saying" else none
/-- at the new instance, made over a heap where it was not -/
def spMade (W : Wd) (i : Ix) (a : Addr) (H0 H : Hp) : Prop := (∃ dx, H a = some (.ins (W.C i) dx [])) ∧ Sm H0 H ∧ H0 a = none
def spAtl (K : PySem.W.Frag) (W : Wd) (CI : Addr) : Sp := fun vs H Q E => ∃ (a : Addr) (vk vn : V) (o : Option Str) (n : Option Int) (H0 : Hp), vs = [.ref a, vk, vn] ∧ spMade W .atl a H0 H ∧ TxtA K H vk o ∧ NumA K H vn n ∧
  (∀ wd, badA o n = some wd → ErrW CI wd H E) ∧ (∀ k m, o = some k → n = some m → badA o n = none → ∀ H', Sm H0 H' → IsSy W H' (.atl k m) a → Q .non H')
def spRst (K : PySem.W.Frag) (W : Wd) (CI : Addr) : Sp := fun vs H Q E => ∃ (a : Addr) (vk vr vp : V) (o : Option Str) (r p : Option Int) (H0 : Hp), vs = [.ref a, vk, vr, vp] ∧ spMade W .rst a H0 H ∧ TxtA K H vk o ∧ NumA K H vr r ∧ NumA K H vp p ∧
  (∀ wd, badR o r p = some wd → ErrW CI wd H E) ∧ (∀ k m l, o = some k → r = some m → p = some l → badR o r p = none → ∀ H', Sm H0 H' → IsSy W H' (.rst k m l) a → Q .non H')
def spFct (K : PySem.W.Frag) (W : Wd) (CI CC : Addr) : Sp := fun vs H Q E => ∃ (a : Addr) (v : V) (b : Bool) (H0 : Hp), vs = [.ref a, v] ∧ spMade W .fct a H0 H ∧ InsA K H CC v b ∧
  (b = false → ErrW CI "crowds" H E) ∧ (b = true → ∃ p t, v = .ref p ∧ W.Cr H0 p t ∧ ∀ H', Sm H0 H' → IsSy W H' (.fct t) a → Q .non H')
def spSur (K : PySem.W.Frag) (W : Wd) (CI : Addr) : Sp := fun vs H Q E => ∃ (a : Addr) (vk : V) (o : Option Str) (H0 : Hp), vs = [.ref a, vk] ∧ spMade W .sur a H0 H ∧ TxtA K H vk o ∧
  (isKd o = false → ErrW CI "kind" H E) ∧ (∀ k, o = some k → isKd o = true → ∀ H', Sm H0 H' → IsSy W H' (.sur k) a → Q .non H')
def spSil (W : Wd) : Sp := fun vs H Q E => ∃ (a : Addr) (H0 : Hp), vs = [.ref a] ∧ spMade W .sil a H0 H ∧ ∀ H', Sm H0 H' → IsSy W H' .sil a → Q .non H'
def spKno (K : PySem.W.Frag) (W : Wd) (CI CS : Addr) : Sp := fun vs H Q E => ∃ (a : Addr) (vk v : V) (o : Option Str) (b : Bool) (H0 : Hp), vs = [.ref a, vk, v] ∧ spMade W .kno a H0 H ∧ TxtA K H vk o ∧ InsA K H CS v b ∧
  (∀ wd, badK o b = some wd → ErrW CI wd H E) ∧ (∀ k, o = some k → badK o b = none → ∃ p s, v = .ref p ∧ IsSy W H0 s p ∧ ∀ H', Sm H0 H' → IsSy W H' (.kno k s) a → Q .non H')
def spCom (K : PySem.W.Frag) (W : Wd) (CI CS : Addr) : Sp := fun vs H Q E => ∃ (a : Addr) (v : V) (b : Bool) (H0 : Hp), vs = [.ref a, v] ∧ spMade W .com a H0 H ∧ InsA K H CS v b ∧
  (b = false → ErrW CI "saying" H E) ∧ (b = true → ∃ p s, v = .ref p ∧ IsSy W H0 s p ∧ ∀ H', Sm H0 H' → IsSy W H' (.com s) a → Q .non H')
def spNeg (W : Wd) : Sp := fun vs H Q E => ∃ (a p : Addr) (s : Sy) (H0 : Hp), vs = [.ref a, .ref p] ∧ spMade W .neg a H0 H ∧ IsSy W H0 s p ∧ ∀ H', Sm H0 H' → IsSy W H' (.neg s) a → Q .non H'
section
variable {P : Program} {w : World} {K : PySem.W.Frag} {mg : Str → Option Value} {base : Heap} {CI CS CC : Addr} {W : Wd}
theorem IsSy.ne {W : Wd} {H0 : Hp} {s : Sy} {p a : Addr} (h : IsSy W H0 s p) (n : H0 a = none) : p ≠ a := fun e => by
  obtain ⟨dx, fs, z, _⟩ := h.ins
  rw [e, n] at z
  cases z
theorem fl_dep (i : Ix) : ("depth" : Str) ∈ flds i := by cases i <;> decide
theorem fl_com (i : Ix) : ("commons" : Str) ∈ flds i := by cases i <;> decide
abbrev s_iAtl : Stmt := inC (topS 33) 0
theorem sc_iAtl : FnScope ["self", "kind", "number"] ["self", "kind", "number"] (defScope s_iAtl) := ⟨rfl, rfl, rfl, by decide +kernel, rfl, by decide +kernel, by decide +kernel⟩
theorem ok_iAtl {f : Addr} {fd : FuncData} (F : Fun K "__init__" "AtLeast.__init__" s_iAtl f fd) (S : SyC K W) (B : BadE P w K mg base "InvalidSaying" "word" CI) (Ck : CalX P w K mg base 3 "_check_kind" (spCkK K CI)) (Cn : Cal P w K mg base 2 "is_number" (spNm K) [])  : FnOk P w K mg base (L2.CX P w) 5 f fd ["self", "kind", "number"] (spAtl K W CI) := by
  obtain ⟨fI, fdI, i1, i2, FI, bI⟩ := B.ini
  obtain ⟨fK, fdK, psK, FK, gK, kK, bK⟩ := Ck.ex
  refine F.okX sc_iAtl (fun vs H Q E h => ?_) (fun cdv A outer s H vs Q E hr h => ?_)
  · obtain ⟨a, vk, vn, o, n, H0, rfl, _⟩ := h
    rfl
  · obtain ⟨a, vk, vn, o, n, H0, rfl, ⟨⟨dx, ha⟩, sm, na⟩, hK, hN, qE, qN⟩ := h
    have hr2 : Room 2 _ := hr.mono (by decide)
    refine ⟨_, (pss_cons (ps_expr (pe_callS FK (hr.mono (by decide)) (by rfl) gK kK bK (fun σ => passAt (takes_of rfl rfl rfl rfl) σ) (pa_cons (pv 1) pa_nil))) (pss_cons (ps_if (pt_not (pt_val (pe_c Cn hr (by decide) (by rfl) (pa_cons (pv 2) pa_nil)))) (pss_one (ps_raise rfl (takes_of rfl rfl rfl rfl) (pmk_oex B.T i1 i2 FI hr2 bI .nil pass0 (by rfl) B.gC (pa_cons pe_str pa_nil)))) pss_nil) (pss_cons (ps_fld (pv 0) (pv 1) rfl) (pss_cons (ps_fld (pv 0) (pv 2) rfl) (pss_cons (ps_fld (pv 0) pe_int rfl) (pss_one (ps_fld (pv 0) pe_int rfl))))))), ?_⟩
    refine ⟨_, rfl, vk, o, rfl, hK, fun e => qE "kind" (by simp [badA, e]), fun e => ?_⟩
    refine ⟨_, rfl, vn, n, rfl, hN, _, rfl, iteB (fun hb => ?_) (fun hb => ?_)⟩
    · exact ⟨(by show 1 ≤ 1000; decide), fun a' na => bad_end (fun d H' s' e' => qE "number" (by simp [badA, e, show isNm n = false by simpa using hb]) d H' s' e') a' na⟩
    have hn : isNm n = true := by simpa using hb
    obtain ⟨k, rfl, hk⟩ : ∃ k, o = some k ∧ vk = .str k := by
      obtain ⟨t, b, ty, k1, y, z⟩ := hK
      cases b with
      | true => obtain ⟨m, e1, e2⟩ := y rfl; exact ⟨m, e2, e1⟩
      | false => rw [z rfl] at e; cases e
    obtain ⟨m, rfl, hm⟩ : ∃ m, n = some m ∧ vn = .int m := by
      obtain ⟨t, b, c, ty, k1, k2, y, z⟩ := hN
      cases hz : (if b = true then !c else false) with
      | true => obtain ⟨m, e1, e2⟩ := y hz; exact ⟨m, e2, e1⟩
      | false => rw [z hz] at hn; cases hn
    subst hk hm
    refine ⟨_, rfl, _, rfl, a, _, dx, _, rfl, ha, (S.ic _).c, S.nf .atl "kind" (by decide), (by show 0 < 1000; decide), ?_⟩
    refine ⟨_, rfl, _, rfl, a, _, dx, _, rfl, upd_same, (S.ic _).c, S.nf .atl "number" (by decide), (by show 1 < 1000; decide), ?_⟩
    refine ⟨_, rfl, a, _, dx, _, rfl, upd_same, (S.ic _).c, S.nf .atl "depth" (by decide), (by show 2 < 1000; decide), ?_⟩
    refine ⟨_, rfl, a, _, dx, _, rfl, upd_same, (S.ic _).c, S.nf .atl "commons" (by decide), (by show 3 < 1000; decide), ?_⟩
    exact qN k m rfl rfl (by simp [badA, e, hn]) _ (sm_kp sm na (Kp.put (Kp.put (Kp.put (Kp.put (Kp.of (Sm.refl _))))))) ⟨dx, upd_same⟩
abbrev s_iSur : Stmt := inC (topS 36) 0
theorem sc_iSur : FnScope ["self", "kind"] ["self", "kind"] (defScope s_iSur) := ⟨rfl, rfl, rfl, by decide +kernel, rfl, by decide +kernel, by decide +kernel⟩
theorem ok_iSur {f : Addr} {fd : FuncData} (F : Fun K "__init__" "Sure.__init__" s_iSur f fd) (S : SyC K W) (Ck : CalX P w K mg base 3 "_check_kind" (spCkK K CI))  : FnOk P w K mg base (L2.CX P w) 5 f fd ["self", "kind"] (spSur K W CI) := by
  obtain ⟨fK, fdK, psK, FK, gK, kK, bK⟩ := Ck.ex
  refine F.okX sc_iSur (fun vs H Q E h => ?_) (fun cdv A outer s H vs Q E hr h => ?_)
  · obtain ⟨a, vk, o, H0, rfl, _⟩ := h
    rfl
  · obtain ⟨a, vk, o, H0, rfl, ⟨⟨dx, ha⟩, sm, na⟩, hK, qE, qN⟩ := h
    refine ⟨_, (pss_cons (ps_expr (pe_callS FK (hr.mono (by decide)) (by rfl) gK kK bK (fun σ => passAt (takes_of rfl rfl rfl rfl) σ) (pa_cons (pv 1) pa_nil))) (pss_cons (ps_fld (pv 0) (pv 1) rfl) (pss_cons (ps_fld (pv 0) pe_int rfl) (pss_one (ps_fld (pv 0) pe_int rfl))))), ?_⟩
    refine ⟨_, rfl, vk, o, rfl, hK, fun e => qE e, fun e => ?_⟩
    obtain ⟨k, rfl, hk⟩ : ∃ k, o = some k ∧ vk = .str k := by
      obtain ⟨t, b, ty, k1, y, z⟩ := hK
      cases b with
      | true => obtain ⟨m, e1, e2⟩ := y rfl; exact ⟨m, e2, e1⟩
      | false => rw [z rfl] at e; cases e
    subst hk
    refine ⟨_, rfl, _, rfl, a, _, dx, _, rfl, ha, (S.ic _).c, S.nf .sur "kind" (by decide), (by show 0 < 1000; decide), ?_⟩
    refine ⟨_, rfl, a, _, dx, _, rfl, upd_same, (S.ic _).c, S.nf .sur "depth" (by decide), (by show 1 < 1000; decide), ?_⟩
    refine ⟨_, rfl, a, _, dx, _, rfl, upd_same, (S.ic _).c, S.nf .sur "commons" (by decide), (by show 2 < 1000; decide), ?_⟩
    exact qN k rfl e _ (sm_kp sm na (Kp.put (Kp.put (Kp.put (Kp.of (Sm.refl _)))))) ⟨dx, upd_same⟩
abbrev s_iSil : Stmt := inC (topS 37) 0
theorem sc_iSil : FnScope ["self"] ["self"] (defScope s_iSil) := ⟨rfl, rfl, rfl, by decide +kernel, rfl, by decide +kernel, by decide +kernel⟩
theorem ok_iSil {f : Addr} {fd : FuncData} (F : Fun K "__init__" "Silent.__init__" s_iSil f fd) (S : SyC K W)  : FnOk P w K mg base CX0 1 f fd ["self"] (spSil W) := by
  refine F.ok sc_iSil (fun vs H Q E h => ?_) (fun cdv A outer s H vs Q E hr h => ?_)
  · obtain ⟨a, H0, rfl, _⟩ := h
    rfl
  · obtain ⟨a, H0, rfl, ⟨⟨dx, ha⟩, sm, na⟩, qN⟩ := h
    refine ⟨_, (pss_cons (ps_fld (pv 0) pe_int rfl) (pss_one (ps_fld (pv 0) pe_int rfl))), ?_⟩
    refine ⟨_, rfl, a, _, dx, _, rfl, ha, (S.ic _).c, S.nf .sil "depth" (by decide), (by show 0 < 1000; decide), ?_⟩
    refine ⟨_, rfl, a, _, dx, _, rfl, upd_same, (S.ic _).c, S.nf .sil "commons" (by decide), (by show 1 < 1000; decide), ?_⟩
    exact qN _ (sm_kp sm na (Kp.put (Kp.put (Kp.of (Sm.refl _))))) ⟨dx, upd_same⟩
abbrev s_iNeg : Stmt := inC (topS 40) 0
theorem sc_iNeg : FnScope ["self", "saying"] ["self", "saying"] (defScope s_iNeg) := ⟨rfl, rfl, rfl, by decide +kernel, rfl, by decide +kernel, by decide +kernel⟩
theorem ok_iNeg {f : Addr} {fd : FuncData} (F : Fun K "__init__" "Not.__init__" s_iNeg f fd) (S : SyC K W)  : FnOk P w K mg base CX0 1 f fd ["self", "saying"] (spNeg W) := by
  refine F.ok sc_iNeg (fun vs H Q E h => ?_) (fun cdv A outer s H vs Q E hr h => ?_)
  · obtain ⟨a, p, s0, H0, rfl, _⟩ := h
    rfl
  · obtain ⟨a, p, s0, H0, rfl, ⟨⟨dx, ha⟩, sm, na⟩, hs, qN⟩ := h
    have nep := hs.ne na
    obtain ⟨dp, fp, hp0, _, l1, l2⟩ := hs.ins
    have hp := sm _ _ hp0
    refine ⟨_, (pss_cons (ps_fld (pv 0) (pv 1) rfl) (pss_cons (ps_fld (pv 0) (pe_fld (pv 1) rfl) rfl) (pss_one (ps_fld (pv 0) (pe_fld (pv 1) rfl) rfl)))), ?_⟩
    refine ⟨_, rfl, _, rfl, a, _, dx, _, rfl, ha, (S.ic _).c, S.nf .neg "saying" (by decide), (by show 0 < 1000; decide), ?_⟩
    refine ⟨_, rfl, p, _, _, _, _, rfl, (Kp.put (Kp.of (Sm.refl _))) _ _ nep hp, (S.ic _).c, S.nf s0.ix "depth" (fl_dep s0.ix), l1, _, rfl, a, _, dx, _, rfl, upd_same, (S.ic _).c, S.nf .neg "depth" (by decide), (by show 1 < 1000; decide), ?_⟩
    refine ⟨_, rfl, p, _, _, _, _, rfl, (Kp.put (Kp.put (Kp.of (Sm.refl _)))) _ _ nep hp, (S.ic _).c, S.nf s0.ix "commons" (fl_com s0.ix), l2, _, rfl, a, _, dx, _, rfl, upd_same, (S.ic _).c, S.nf .neg "commons" (by decide), (by show 2 < 1000; decide), ?_⟩
    exact qN _ (sm_kp sm na (Kp.put (Kp.put (Kp.put (Kp.of (Sm.refl _)))))) ⟨dx, p, upd_same, hs.sm (sm_kp sm na (Kp.put (Kp.put (Kp.put (Kp.of (Sm.refl _))))))⟩
abbrev s_iCom : Stmt := inC (topS 39) 0
theorem sc_iCom : FnScope ["self", "saying"] ["self", "saying"] (defScope s_iCom) := ⟨rfl, rfl, rfl, by decide +kernel, rfl, by decide +kernel, by decide +kernel⟩
theorem ok_iCom {f : Addr} {fd : FuncData} (F : Fun K "__init__" "Common.__init__" s_iCom f fd) (S : SyC K W) (Cs : CalX P w K mg base 3 "_check_saying" (spCkS K CI CS))  : FnOk P w K mg base (L2.CX P w) 5 f fd ["self", "saying"] (spCom K W CI CS) := by
  obtain ⟨fS, fdS, psS, FS, gS, kS, bS⟩ := Cs.ex
  refine F.okX sc_iCom (fun vs H Q E h => ?_) (fun cdv A outer s H vs Q E hr h => ?_)
  · obtain ⟨a, v, b, H0, rfl, _⟩ := h
    rfl
  · obtain ⟨a, v, b, H0, rfl, ⟨⟨dx, ha⟩, sm, na⟩, hI, qE, qN⟩ := h
    refine ⟨_, (pss_cons (ps_expr (pe_callS FS (hr.mono (by decide)) (by rfl) gS kS bS (fun σ => passAt (takes_of rfl rfl rfl rfl) σ) (pa_cons (pv 1) pa_nil))) (pss_cons (ps_fld (pv 0) (pv 1) rfl) (pss_cons (ps_fld (pv 0) (pe_op op_add (pe_fld (pv 1) rfl) pe_int) rfl) (pss_one (ps_fld (pv 0) (pe_op op_add (pe_fld (pv 1) rfl) pe_int) rfl))))), ?_⟩
    refine ⟨_, rfl, v, b, rfl, hI, fun e => qE e, fun e => ?_⟩
    obtain ⟨p, s0, rfl, hs, qN⟩ := qN e
    have nep := hs.ne na
    obtain ⟨dp, fp, hp0, _, l1, l2⟩ := hs.ins
    have hp := sm _ _ hp0
    refine ⟨_, rfl, _, rfl, a, _, dx, _, rfl, ha, (S.ic _).c, S.nf .com "saying" (by decide), (by show 0 < 1000; decide), ?_⟩
    refine ⟨_, rfl, p, _, _, _, _, rfl, (Kp.put (Kp.of (Sm.refl _))) _ _ nep hp, (S.ic _).c, S.nf s0.ix "depth" (fl_dep s0.ix), l1, _, _, rfl, rfl, _, rfl, a, _, dx, _, rfl, upd_same, (S.ic _).c, S.nf .com "depth" (by decide), (by show 1 < 1000; decide), ?_⟩
    refine ⟨_, rfl, p, _, _, _, _, rfl, (Kp.put (Kp.put (Kp.of (Sm.refl _)))) _ _ nep hp, (S.ic _).c, S.nf s0.ix "commons" (fl_com s0.ix), l2, _, _, rfl, rfl, _, rfl, a, _, dx, _, rfl, upd_same, (S.ic _).c, S.nf .com "commons" (by decide), (by show 2 < 1000; decide), ?_⟩
    exact qN _ (sm_kp sm na (Kp.put (Kp.put (Kp.put (Kp.of (Sm.refl _)))))) ⟨dx, p, upd_same, hs.sm (sm_kp sm na (Kp.put (Kp.put (Kp.put (Kp.of (Sm.refl _))))))⟩
abbrev s_iKno : Stmt := inC (topS 38) 0
theorem sc_iKno : FnScope ["self", "kind", "saying"] ["self", "kind", "saying"] (defScope s_iKno) := ⟨rfl, rfl, rfl, by decide +kernel, rfl, by decide +kernel, by decide +kernel⟩
theorem ok_iKno {f : Addr} {fd : FuncData} (F : Fun K "__init__" "Knows.__init__" s_iKno f fd) (S : SyC K W) (Ck : CalX P w K mg base 3 "_check_kind" (spCkK K CI)) (Cs : CalX P w K mg base 3 "_check_saying" (spCkS K CI CS))  : FnOk P w K mg base (L2.CX P w) 5 f fd ["self", "kind", "saying"] (spKno K W CI CS) := by
  obtain ⟨fK, fdK, psK, FK, gK, kK, bK⟩ := Ck.ex
  obtain ⟨fS, fdS, psS, FS, gS, kS, bS⟩ := Cs.ex
  refine F.okX sc_iKno (fun vs H Q E h => ?_) (fun cdv A outer s H vs Q E hr h => ?_)
  · obtain ⟨a, vk, v, o, b, H0, rfl, _⟩ := h
    rfl
  · obtain ⟨a, vk, v, o, b, H0, rfl, ⟨⟨dx, ha⟩, sm, na⟩, hK, hI, qE, qN⟩ := h
    refine ⟨_, (pss_cons (ps_expr (pe_callS FK (hr.mono (by decide)) (by rfl) gK kK bK (fun σ => passAt (takes_of rfl rfl rfl rfl) σ) (pa_cons (pv 1) pa_nil))) (pss_cons (ps_expr (pe_callS FS (hr.mono (by decide)) (by rfl) gS kS bS (fun σ => passAt (takes_of rfl rfl rfl rfl) σ) (pa_cons (pv 2) pa_nil))) (pss_cons (ps_fld (pv 0) (pv 1) rfl) (pss_cons (ps_fld (pv 0) (pv 2) rfl) (pss_cons (ps_fld (pv 0) (pe_op op_add (pe_fld (pv 2) rfl) pe_int) rfl) (pss_one (ps_fld (pv 0) (pe_fld (pv 2) rfl) rfl))))))), ?_⟩
    refine ⟨_, rfl, vk, o, rfl, hK, fun e => qE "kind" (by simp [badK, e]), fun e => ?_⟩
    refine ⟨_, rfl, v, b, rfl, hI, fun e2 => qE "saying" (by simp [badK, e, e2]), fun e2 => ?_⟩
    obtain ⟨k, rfl, hk⟩ : ∃ k, o = some k ∧ vk = .str k := by
      obtain ⟨t, b, ty, k1, y, z⟩ := hK
      cases b with
      | true => obtain ⟨m, e1, e2⟩ := y rfl; exact ⟨m, e2, e1⟩
      | false => rw [z rfl] at e; cases e
    subst hk
    obtain ⟨p, s0, rfl, hs, qN⟩ := qN k rfl (by simp [badK, e, e2])
    have nep := hs.ne na
    obtain ⟨dp, fp, hp0, _, l1, l2⟩ := hs.ins
    have hp := sm _ _ hp0
    refine ⟨_, rfl, _, rfl, a, _, dx, _, rfl, ha, (S.ic _).c, S.nf .kno "kind" (by decide), (by show 0 < 1000; decide), ?_⟩
    refine ⟨_, rfl, _, rfl, a, _, dx, _, rfl, upd_same, (S.ic _).c, S.nf .kno "saying" (by decide), (by show 1 < 1000; decide), ?_⟩
    refine ⟨_, rfl, p, _, _, _, _, rfl, (Kp.put (Kp.put (Kp.of (Sm.refl _)))) _ _ nep hp, (S.ic _).c, S.nf s0.ix "depth" (fl_dep s0.ix), l1, _, _, rfl, rfl, _, rfl, a, _, dx, _, rfl, upd_same, (S.ic _).c, S.nf .kno "depth" (by decide), (by show 2 < 1000; decide), ?_⟩
    refine ⟨_, rfl, p, _, _, _, _, rfl, (Kp.put (Kp.put (Kp.put (Kp.of (Sm.refl _))))) _ _ nep hp, (S.ic _).c, S.nf s0.ix "commons" (fl_com s0.ix), l2, _, rfl, a, _, dx, _, rfl, upd_same, (S.ic _).c, S.nf .kno "commons" (by decide), (by show 3 < 1000; decide), ?_⟩
    exact qN _ (sm_kp sm na (Kp.put (Kp.put (Kp.put (Kp.put (Kp.of (Sm.refl _))))))) ⟨dx, p, upd_same, hs.sm (sm_kp sm na (Kp.put (Kp.put (Kp.put (Kp.put (Kp.of (Sm.refl _)))))))⟩
abbrev s_iFct : Stmt := inC (topS 35) 0
theorem sc_iFct : FnScope ["self", "crowds"] ["self", "crowds"] (defScope s_iFct) := ⟨rfl, rfl, rfl, by decide +kernel, rfl, by decide +kernel, by decide +kernel⟩
theorem ok_iFct {f : Addr} {fd : FuncData} (F : Fun K "__init__" "Fact.__init__" s_iFct f fd) (S : SyC K W) (T : Bt mg) (gC : mg "Crowds" = some (.ref CC)) (B : BadE P w K mg base "InvalidSaying" "word" CI)  : FnOk P w K mg base (L2.CX P w) 5 f fd ["self", "crowds"] (spFct K W CI CC) := by
  obtain ⟨fI, fdI, i1, i2, FI, bI⟩ := B.ini
  refine F.okX sc_iFct (fun vs H Q E h => ?_) (fun cdv A outer s H vs Q E hr h => ?_)
  · obtain ⟨a, v, b, H0, rfl, _⟩ := h
    rfl
  · obtain ⟨a, v, b, H0, rfl, ⟨⟨dx, ha⟩, sm, na⟩, ⟨t, ty, k1⟩, qE, qN⟩ := h
    have hr2 : Room 2 _ := hr.mono (by decide)
    refine ⟨_, (pss_cons (ps_if (pt_not (pt_val (pe_callB call_isi (by rfl) T.n_isinstance (by decide +kernel) (pa_cons (pv 1) (pa_cons (pe_glob (v := .ref CC) rfl gC rfl) pa_nil))))) (pss_one (ps_raise rfl (takes_of rfl rfl rfl rfl) (pmk_oex B.T i1 i2 FI hr2 bI .nil pass0 (by rfl) B.gC (pa_cons pe_str pa_nil)))) pss_nil) (pss_cons (ps_fld (pv 0) (pv 1) rfl) (pss_cons (ps_fld (pv 0) pe_int rfl) (pss_one (ps_fld (pv 0) pe_int rfl))))), ?_⟩
    refine ⟨_, rfl, v, _, _, _, _, rfl, .own CC, ty, k1, _, rfl, iteB (fun hb => ?_) (fun hb => ?_)⟩
    · exact ⟨(by show 1 ≤ 1000; decide), fun a' na => bad_end (fun d H' s' e' => qE (by simpa using hb) d H' s' e') a' na⟩
    obtain ⟨p, t, rfl, hc, qN⟩ := qN (by simpa using hb)
    refine ⟨_, rfl, _, rfl, a, _, dx, _, rfl, ha, (S.ic _).c, S.nf .fct "crowds" (by decide), (by show 0 < 1000; decide), ?_⟩
    refine ⟨_, rfl, a, _, dx, _, rfl, upd_same, (S.ic _).c, S.nf .fct "depth" (by decide), (by show 1 < 1000; decide), ?_⟩
    refine ⟨_, rfl, a, _, dx, _, rfl, upd_same, (S.ic _).c, S.nf .fct "commons" (by decide), (by show 2 < 1000; decide), ?_⟩
    exact qN _ (sm_kp sm na (Kp.put (Kp.put (Kp.put (Kp.of (Sm.refl _)))))) ⟨dx, p, upd_same, W.mono hc (sm_kp sm na (Kp.put (Kp.put (Kp.put (Kp.of (Sm.refl _))))))⟩
abbrev s_iRst : Stmt := inC (topS 34) 0
theorem sc_iRst : FnScope ["self", "kind", "rest", "period"] ["self", "kind", "rest", "period"] (defScope s_iRst) := ⟨rfl, rfl, rfl, by decide +kernel, rfl, by decide +kernel, by decide +kernel⟩
theorem ok_iRst {f : Addr} {fd : FuncData} (F : Fun K "__init__" "Rest.__init__" s_iRst f fd) (S : SyC K W) (B : BadE P w K mg base "InvalidSaying" "word" CI) (Ck : CalX P w K mg base 3 "_check_kind" (spCkK K CI)) (Cn : Cal P w K mg base 2 "is_number" (spNm K) [])  : FnOk P w K mg base (L2.CX P w) 5 f fd ["self", "kind", "rest", "period"] (spRst K W CI) := by
  obtain ⟨fI, fdI, i1, i2, FI, bI⟩ := B.ini
  obtain ⟨fK, fdK, psK, FK, gK, kK, bK⟩ := Ck.ex
  refine F.okX sc_iRst (fun vs H Q E h => ?_) (fun cdv A outer s H vs Q E hr h => ?_)
  · obtain ⟨a, vk, vr, vp, o, r, p, H0, rfl, _⟩ := h
    rfl
  · obtain ⟨a, vk, vr, vp, o, r, p, H0, rfl, ⟨⟨dx, ha⟩, sm, na⟩, hK, hR, hP, qE, qN⟩ := h
    have hr2 : Room 2 _ := hr.mono (by decide)
    refine ⟨_, (pss_cons (ps_expr (pe_callS FK (hr.mono (by decide)) (by rfl) gK kK bK (fun σ => passAt (takes_of rfl rfl rfl rfl) σ) (pa_cons (pv 1) pa_nil))) (pss_cons (ps_if (pw_or (pt_not (pt_val (pe_c Cn hr (by decide) (by rfl) (pa_cons (pv 3) pa_nil)))) (pw_or1 (pt_cmpR op_eq (pv 3) pe_int (nomark _)))).pt (pss_one (ps_raise rfl (takes_of rfl rfl rfl rfl) (pmk_oex B.T i1 i2 FI hr2 bI .nil pass0 (by rfl) B.gC (pa_cons pe_str pa_nil)))) pss_nil) (pss_cons (ps_if (pw_or (pt_not (pt_val (pe_c Cn hr (by decide) (by rfl) (pa_cons (pv 2) pa_nil)))) (pw_or1 (pt_cmpR op_ge (pv 2) (pv 3) (nomark _)))).pt (pss_one (ps_raise rfl (takes_of rfl rfl rfl rfl) (pmk_oex B.T i1 i2 FI hr2 bI .nil pass0 (by rfl) B.gC (pa_cons pe_str pa_nil)))) pss_nil) (pss_cons (ps_fld (pv 0) (pv 1) rfl) (pss_cons (ps_fld (pv 0) (pv 2) rfl) (pss_cons (ps_fld (pv 0) (pv 3) rfl) (pss_cons (ps_fld (pv 0) pe_int rfl) (pss_one (ps_fld (pv 0) pe_int rfl))))))))), ?_⟩
    refine ⟨_, rfl, vk, o, rfl, hK, fun e => qE "kind" (by simp [badR, e]), fun e => ?_⟩
    obtain ⟨k, rfl, hk⟩ : ∃ k, o = some k ∧ vk = .str k := by
      obtain ⟨t, b, ty, k1, y, z⟩ := hK
      cases b with
      | true => obtain ⟨m, e1, e2⟩ := y rfl; exact ⟨m, e2, e1⟩
      | false => rw [z rfl] at e; cases e
    subst hk
    refine ⟨_, rfl, vp, p, rfl, hP, _, rfl, iteB (fun hb => ?_) (fun hb => ?_)⟩
    · exact ⟨(by show 1 ≤ 1000; decide), fun a' na => bad_end (fun d H' s' e' => qE "period" (by simp [badR, e, show isPer p = false by cases p with | none => rfl | some m => simp [isNm] at hb; simp [isPer]; omega]) d H' s' e') a' na⟩
    have hnp : isNm p = true := by simpa using hb
    obtain ⟨l, rfl, rfl⟩ : ∃ m, p = some m ∧ vp = .int m := by
      obtain ⟨t, b, c, ty, k1, k2, y, z⟩ := hP
      cases hz : (if b = true then !c else false) with
      | true => obtain ⟨m, e1, e2⟩ := y hz; exact ⟨m, e2, e1⟩
      | false => rw [z hz] at hnp; cases hnp
    refine ⟨_, rfl, rfl, _, rfl, iteB (fun hc => ?_) (fun hc => ?_)⟩
    · exact ⟨(by show 1 ≤ 1000; decide), fun a' na => bad_end (fun d H' s' e' => qE "period" (by simp [badR, e, isPer]; simp at hc; omega) d H' s' e') a' na⟩
    have hl : 0 < l := by
      simp [isNm] at hnp
      simp at hc
      omega
    refine ⟨_, rfl, vr, r, rfl, hR, _, rfl, iteB (fun hd => ?_) (fun hd => ?_)⟩
    · exact ⟨(by show 1 ≤ 1000; decide), fun a' na => bad_end (fun d H' s' e' => qE "rest" (by simp [badR, e, isPer, hl, show isRst r (some l) = false by cases r with | none => rfl | some m => simp [isNm] at hd; simp [isRst]; omega]) d H' s' e') a' na⟩
    have hnr : isNm r = true := by simpa using hd
    obtain ⟨m, rfl, rfl⟩ : ∃ m, r = some m ∧ vr = .int m := by
      obtain ⟨t, b, c, ty, k1, k2, y, z⟩ := hR
      cases hz : (if b = true then !c else false) with
      | true => obtain ⟨m, e1, e2⟩ := y hz; exact ⟨m, e2, e1⟩
      | false => rw [z hz] at hnr; cases hnr
    refine ⟨_, rfl, _, rfl, _, _, rfl, rfl, _, rfl, iteB (fun hf => ?_) (fun hf => ?_)⟩
    · exact ⟨(by show 1 ≤ 1000; decide), fun a' na => bad_end (fun d H' s' e' => qE "rest" (by simp [badR, e, isPer, hl, isRst]; simp at hf; omega) d H' s' e') a' na⟩
    have hm : 0 ≤ m ∧ m < l := by
      simp [isNm] at hnr
      simp at hf
      omega
    refine ⟨_, rfl, _, rfl, a, _, dx, _, rfl, ha, (S.ic _).c, S.nf .rst "kind" (by decide), (by show 0 < 1000; decide), ?_⟩
    refine ⟨_, rfl, _, rfl, a, _, dx, _, rfl, upd_same, (S.ic _).c, S.nf .rst "rest" (by decide), (by show 1 < 1000; decide), ?_⟩
    refine ⟨_, rfl, _, rfl, a, _, dx, _, rfl, upd_same, (S.ic _).c, S.nf .rst "period" (by decide), (by show 2 < 1000; decide), ?_⟩
    refine ⟨_, rfl, a, _, dx, _, rfl, upd_same, (S.ic _).c, S.nf .rst "depth" (by decide), (by show 3 < 1000; decide), ?_⟩
    refine ⟨_, rfl, a, _, dx, _, rfl, upd_same, (S.ic _).c, S.nf .rst "commons" (by decide), (by show 4 < 1000; decide), ?_⟩
    exact qN k m l rfl rfl rfl (by simp [badR, e, isPer, hl, isRst, hm]) _ (sm_kp sm na (Kp.put (Kp.put (Kp.put (Kp.put (Kp.put (Kp.of (Sm.refl _)))))))) ⟨dx, upd_same⟩
end
end Z
set_option Elab.async false
set_option linter.all false
set_option maxRecDepth 100000
set_option maxHeartbeats 4000000
set_option autoImplicit false
/-! str() of sayings; the pieces of a fact; ~ of a saying. -/
namespace Z
open PySem PySem.Spec PyProof.Rows L2
open C8 (Cal pe_c Mak pe_mk Met pe_mt pe_mt0 pe_gc)
/-- str() of a set of crowds -/
def spCrS (W : Wd) : Sp := fun vs H Q _ => ∃ (b : Addr) (t : Str), vs = [.ref b] ∧ W.Cr H b t ∧ ∀ H', Sm H H' → Q (.str t) H'
/-- ~s -/
def spInv (W : Wd) : Sp := fun vs H Q _ => ∃ (a : Addr) (s : Sy), vs = [.ref a] ∧ IsSy W H s a ∧ ∀ H' b, Sm H H' → H b = none → IsSy W H' (.neg s) b → Q (.ref b) H'
section
variable {P : Program} {w : World} {K : PySem.W.Frag} {mg : Str → Option Value} {base : Heap} {CC : Addr} {W : Wd}
abbrev s_pFact : Stmt := inC (topS 35) 1
theorem sc_pFact : FnScope ["self"] ["self"] (defScope s_pFact) := ⟨rfl, rfl, rfl, by decide +kernel, rfl, by decide +kernel, by decide +kernel⟩
theorem ok_pFact {f : Addr} {fd : FuncData} {k : Nat} (F : Fun K "pieces" "Fact.pieces" s_pFact f fd) (T : Bt mg) (S : SyC K W) (crI : ∀ H b t, W.Cr H b t → ∃ dx fs, H b = some (.ins CC dx fs)) (cC : Met P w K mg base k CC "__str__" (spCrS W) []) :
    FnOk P w K mg base CX0 (k + 2 + 1) f fd ["self"] (spPcs W .fct) := by
  refine F.ok sc_pFact (fun vs H Q E h => ?_) (fun cdv A outer s H vs Q E hr h => ?_)
  · obtain ⟨a, s, H0, rfl, _⟩ := h
    rfl
  · obtain ⟨a, s, H0, rfl, ei, sm0, hs, ft, q⟩ := h
    cases s <;> first | (simp [Sy.ix] at ei; done) | skip
    rename_i t
    obtain ⟨dx, b, hs, hc⟩ := hs
    have hs := sm0 _ _ hs
    have hc := W.mono hc sm0
    obtain ⟨db, fs, hb⟩ := crI _ _ _ hc
    refine ⟨_, (pss_one (ps_ret (pe_lst (pa_cons (pe_callTy (call_strF (ι := Unit) (C := fun _ => CC) (sp := fun _ => spCrS W) (fun _ => cC) hr (Nat.le_refl _)) (by rfl) T.n_str (by decide +kernel) (pa_cons (pe_fld (pv 0) rfl) pa_nil)) pa_nil)))), ?_⟩
    refine ⟨_, rfl, a, _, dx, _, _, rfl, hs, (S.ic _).c, S.nf .fct "crowds" (by decide), rfl, (), b, db, fs, rfl, hb, b, t, rfl, hc, fun H1 s1 => ⟨t, rfl, by show 1 ≤ sizeLine; decide, fun l hl => q _ l _ (s1.trans (Sm.new hl)) ?_ upd_same (.cons rfl .nil)⟩⟩
    cases e : H l with
    | none => rfl
    | some o => rw [s1 _ _ e] at hl; cases hl
abbrev s_tSaying : Stmt := inC (topS 32) 8
theorem sc_tSaying : FnScope ["self"] ["self"] (defScope s_tSaying) := ⟨rfl, rfl, rfl, by decide +kernel, rfl, by decide +kernel, by decide +kernel⟩
theorem ok_tSaying {f : Addr} {fd : FuncData} {k : Nat} (F : Fun K "__str__" "Saying.__str__" s_tSaying f fd) (Cs : Cal P w K mg base k "strings_of" (spStrs W) []) : FnOk P w K mg base CX0 (k + 1) f fd ["self"] (spStr W) := by
  refine F.ok sc_tSaying (fun vs H Q E h => ?_) (fun cdv A outer s H vs Q E hr h => ?_)
  · obtain ⟨a, s, rfl, _⟩ := h
    rfl
  · obtain ⟨a, s, rfl, hs, ft, hw, hz, q⟩ := h
    refine ⟨_, (pss_one (ps_ret (pe_join pe_str (pe_c Cs hr (Nat.le_refl _) (by rfl) (pa_cons (pv 0) pa_nil))))), ?_⟩
    exact ⟨⟨_, rfl⟩, _, rfl, a, s, rfl, hs, ft, hw, fun H' l sm hl hl2 => ⟨_, l, s.lvs, rfl, rfl, .inl (.inl (.inl hl2)), by rw [show (Str.ofString "").length = 0 from rfl, Nat.mul_zero]; exact hz, q _ sm⟩⟩
abbrev s_tAtLeast : Stmt := inC (topS 33) 8
theorem sc_tAtLeast : FnScope ["self"] ["self"] (defScope s_tAtLeast) := ⟨rfl, rfl, rfl, by decide +kernel, rfl, by decide +kernel, by decide +kernel⟩
theorem ok_tAtLeast {f : Addr} {fd : FuncData} {k : Nat} (F : Fun K "__str__" "AtLeast.__str__" s_tAtLeast f fd) (Cs : Cal P w K mg base k "strings_of" (spStrs W) []) : FnOk P w K mg base CX0 (k + 1) f fd ["self"] (spStr W) := by
  refine F.ok sc_tAtLeast (fun vs H Q E h => ?_) (fun cdv A outer s H vs Q E hr h => ?_)
  · obtain ⟨a, s, rfl, _⟩ := h
    rfl
  · obtain ⟨a, s, rfl, hs, ft, hw, hz, q⟩ := h
    refine ⟨_, (pss_one (ps_ret (pe_join pe_str (pe_c Cs hr (Nat.le_refl _) (by rfl) (pa_cons (pv 0) pa_nil))))), ?_⟩
    exact ⟨⟨_, rfl⟩, _, rfl, a, s, rfl, hs, ft, hw, fun H' l sm hl hl2 => ⟨_, l, s.lvs, rfl, rfl, .inl (.inl (.inl hl2)), by rw [show (Str.ofString "").length = 0 from rfl, Nat.mul_zero]; exact hz, q _ sm⟩⟩
abbrev s_tRest : Stmt := inC (topS 34) 8
theorem sc_tRest : FnScope ["self"] ["self"] (defScope s_tRest) := ⟨rfl, rfl, rfl, by decide +kernel, rfl, by decide +kernel, by decide +kernel⟩
theorem ok_tRest {f : Addr} {fd : FuncData} {k : Nat} (F : Fun K "__str__" "Rest.__str__" s_tRest f fd) (Cs : Cal P w K mg base k "strings_of" (spStrs W) []) : FnOk P w K mg base CX0 (k + 1) f fd ["self"] (spStr W) := by
  refine F.ok sc_tRest (fun vs H Q E h => ?_) (fun cdv A outer s H vs Q E hr h => ?_)
  · obtain ⟨a, s, rfl, _⟩ := h
    rfl
  · obtain ⟨a, s, rfl, hs, ft, hw, hz, q⟩ := h
    refine ⟨_, (pss_one (ps_ret (pe_join pe_str (pe_c Cs hr (Nat.le_refl _) (by rfl) (pa_cons (pv 0) pa_nil))))), ?_⟩
    exact ⟨⟨_, rfl⟩, _, rfl, a, s, rfl, hs, ft, hw, fun H' l sm hl hl2 => ⟨_, l, s.lvs, rfl, rfl, .inl (.inl (.inl hl2)), by rw [show (Str.ofString "").length = 0 from rfl, Nat.mul_zero]; exact hz, q _ sm⟩⟩
abbrev s_tFact : Stmt := inC (topS 35) 8
theorem sc_tFact : FnScope ["self"] ["self"] (defScope s_tFact) := ⟨rfl, rfl, rfl, by decide +kernel, rfl, by decide +kernel, by decide +kernel⟩
theorem ok_tFact {f : Addr} {fd : FuncData} {k : Nat} (F : Fun K "__str__" "Fact.__str__" s_tFact f fd) (Cs : Cal P w K mg base k "strings_of" (spStrs W) []) : FnOk P w K mg base CX0 (k + 1) f fd ["self"] (spStr W) := by
  refine F.ok sc_tFact (fun vs H Q E h => ?_) (fun cdv A outer s H vs Q E hr h => ?_)
  · obtain ⟨a, s, rfl, _⟩ := h
    rfl
  · obtain ⟨a, s, rfl, hs, ft, hw, hz, q⟩ := h
    refine ⟨_, (pss_one (ps_ret (pe_join pe_str (pe_c Cs hr (Nat.le_refl _) (by rfl) (pa_cons (pv 0) pa_nil))))), ?_⟩
    exact ⟨⟨_, rfl⟩, _, rfl, a, s, rfl, hs, ft, hw, fun H' l sm hl hl2 => ⟨_, l, s.lvs, rfl, rfl, .inl (.inl (.inl hl2)), by rw [show (Str.ofString "").length = 0 from rfl, Nat.mul_zero]; exact hz, q _ sm⟩⟩
abbrev s_tSure : Stmt := inC (topS 36) 8
theorem sc_tSure : FnScope ["self"] ["self"] (defScope s_tSure) := ⟨rfl, rfl, rfl, by decide +kernel, rfl, by decide +kernel, by decide +kernel⟩
theorem ok_tSure {f : Addr} {fd : FuncData} {k : Nat} (F : Fun K "__str__" "Sure.__str__" s_tSure f fd) (Cs : Cal P w K mg base k "strings_of" (spStrs W) []) : FnOk P w K mg base CX0 (k + 1) f fd ["self"] (spStr W) := by
  refine F.ok sc_tSure (fun vs H Q E h => ?_) (fun cdv A outer s H vs Q E hr h => ?_)
  · obtain ⟨a, s, rfl, _⟩ := h
    rfl
  · obtain ⟨a, s, rfl, hs, ft, hw, hz, q⟩ := h
    refine ⟨_, (pss_one (ps_ret (pe_join pe_str (pe_c Cs hr (Nat.le_refl _) (by rfl) (pa_cons (pv 0) pa_nil))))), ?_⟩
    exact ⟨⟨_, rfl⟩, _, rfl, a, s, rfl, hs, ft, hw, fun H' l sm hl hl2 => ⟨_, l, s.lvs, rfl, rfl, .inl (.inl (.inl hl2)), by rw [show (Str.ofString "").length = 0 from rfl, Nat.mul_zero]; exact hz, q _ sm⟩⟩
abbrev s_tSilent : Stmt := inC (topS 37) 8
theorem sc_tSilent : FnScope ["self"] ["self"] (defScope s_tSilent) := ⟨rfl, rfl, rfl, by decide +kernel, rfl, by decide +kernel, by decide +kernel⟩
theorem ok_tSilent {f : Addr} {fd : FuncData} {k : Nat} (F : Fun K "__str__" "Silent.__str__" s_tSilent f fd) (Cs : Cal P w K mg base k "strings_of" (spStrs W) []) : FnOk P w K mg base CX0 (k + 1) f fd ["self"] (spStr W) := by
  refine F.ok sc_tSilent (fun vs H Q E h => ?_) (fun cdv A outer s H vs Q E hr h => ?_)
  · obtain ⟨a, s, rfl, _⟩ := h
    rfl
  · obtain ⟨a, s, rfl, hs, ft, hw, hz, q⟩ := h
    refine ⟨_, (pss_one (ps_ret (pe_join pe_str (pe_c Cs hr (Nat.le_refl _) (by rfl) (pa_cons (pv 0) pa_nil))))), ?_⟩
    exact ⟨⟨_, rfl⟩, _, rfl, a, s, rfl, hs, ft, hw, fun H' l sm hl hl2 => ⟨_, l, s.lvs, rfl, rfl, .inl (.inl (.inl hl2)), by rw [show (Str.ofString "").length = 0 from rfl, Nat.mul_zero]; exact hz, q _ sm⟩⟩
abbrev s_tKnows : Stmt := inC (topS 38) 9
theorem sc_tKnows : FnScope ["self"] ["self"] (defScope s_tKnows) := ⟨rfl, rfl, rfl, by decide +kernel, rfl, by decide +kernel, by decide +kernel⟩
theorem ok_tKnows {f : Addr} {fd : FuncData} {k : Nat} (F : Fun K "__str__" "Knows.__str__" s_tKnows f fd) (Cs : Cal P w K mg base k "strings_of" (spStrs W) []) : FnOk P w K mg base CX0 (k + 1) f fd ["self"] (spStr W) := by
  refine F.ok sc_tKnows (fun vs H Q E h => ?_) (fun cdv A outer s H vs Q E hr h => ?_)
  · obtain ⟨a, s, rfl, _⟩ := h
    rfl
  · obtain ⟨a, s, rfl, hs, ft, hw, hz, q⟩ := h
    refine ⟨_, (pss_one (ps_ret (pe_join pe_str (pe_c Cs hr (Nat.le_refl _) (by rfl) (pa_cons (pv 0) pa_nil))))), ?_⟩
    exact ⟨⟨_, rfl⟩, _, rfl, a, s, rfl, hs, ft, hw, fun H' l sm hl hl2 => ⟨_, l, s.lvs, rfl, rfl, .inl (.inl (.inl hl2)), by rw [show (Str.ofString "").length = 0 from rfl, Nat.mul_zero]; exact hz, q _ sm⟩⟩
abbrev s_tCommon : Stmt := inC (topS 39) 9
theorem sc_tCommon : FnScope ["self"] ["self"] (defScope s_tCommon) := ⟨rfl, rfl, rfl, by decide +kernel, rfl, by decide +kernel, by decide +kernel⟩
theorem ok_tCommon {f : Addr} {fd : FuncData} {k : Nat} (F : Fun K "__str__" "Common.__str__" s_tCommon f fd) (Cs : Cal P w K mg base k "strings_of" (spStrs W) []) : FnOk P w K mg base CX0 (k + 1) f fd ["self"] (spStr W) := by
  refine F.ok sc_tCommon (fun vs H Q E h => ?_) (fun cdv A outer s H vs Q E hr h => ?_)
  · obtain ⟨a, s, rfl, _⟩ := h
    rfl
  · obtain ⟨a, s, rfl, hs, ft, hw, hz, q⟩ := h
    refine ⟨_, (pss_one (ps_ret (pe_join pe_str (pe_c Cs hr (Nat.le_refl _) (by rfl) (pa_cons (pv 0) pa_nil))))), ?_⟩
    exact ⟨⟨_, rfl⟩, _, rfl, a, s, rfl, hs, ft, hw, fun H' l sm hl hl2 => ⟨_, l, s.lvs, rfl, rfl, .inl (.inl (.inl hl2)), by rw [show (Str.ofString "").length = 0 from rfl, Nat.mul_zero]; exact hz, q _ sm⟩⟩
abbrev s_vSaying : Stmt := inC (topS 32) 6
theorem sc_vSaying : FnScope ["self"] ["self"] (defScope s_vSaying) := ⟨rfl, rfl, rfl, by decide +kernel, rfl, by decide +kernel, by decide +kernel⟩
theorem ok_vSaying {f : Addr} {fd : FuncData} {k : Nat} (F : Fun K "__invert__" "Saying.__invert__" s_vSaying f fd) (M : Mak P w K mg base k "Not" (W.C .neg) (spNeg W) []) : FnOk P w K mg base CX0 (k + 2) f fd ["self"] (spInv W) := by
  refine F.ok sc_vSaying (fun vs H Q E h => ?_) (fun cdv A outer s H vs Q E hr h => ?_)
  · obtain ⟨a, s, rfl, _⟩ := h
    rfl
  · obtain ⟨a, s, rfl, hs, q⟩ := h
    refine ⟨_, (pss_one (ps_ret (pe_mk M hr (Nat.le_refl _) (by rfl) (pa_cons (pv 0) pa_nil)))), ?_⟩
    refine ⟨_, rfl, fun x dx nx nd ne => ⟨x, a, s, H, rfl, ⟨⟨dx, upd_same⟩, ?_, nx⟩, hs, fun H' sm hn => ⟨rfl, q H' x sm nx hn⟩⟩⟩
    exact (Sm.new nd).trans (Sm.new (by rw [upd_ne (Ne.symm ne)]; exact nx))
abbrev s_vAtLeast : Stmt := inC (topS 33) 6
theorem sc_vAtLeast : FnScope ["self"] ["self"] (defScope s_vAtLeast) := ⟨rfl, rfl, rfl, by decide +kernel, rfl, by decide +kernel, by decide +kernel⟩
theorem ok_vAtLeast {f : Addr} {fd : FuncData} {k : Nat} (F : Fun K "__invert__" "AtLeast.__invert__" s_vAtLeast f fd) (M : Mak P w K mg base k "Not" (W.C .neg) (spNeg W) []) : FnOk P w K mg base CX0 (k + 2) f fd ["self"] (spInv W) := by
  refine F.ok sc_vAtLeast (fun vs H Q E h => ?_) (fun cdv A outer s H vs Q E hr h => ?_)
  · obtain ⟨a, s, rfl, _⟩ := h
    rfl
  · obtain ⟨a, s, rfl, hs, q⟩ := h
    refine ⟨_, (pss_one (ps_ret (pe_mk M hr (Nat.le_refl _) (by rfl) (pa_cons (pv 0) pa_nil)))), ?_⟩
    refine ⟨_, rfl, fun x dx nx nd ne => ⟨x, a, s, H, rfl, ⟨⟨dx, upd_same⟩, ?_, nx⟩, hs, fun H' sm hn => ⟨rfl, q H' x sm nx hn⟩⟩⟩
    exact (Sm.new nd).trans (Sm.new (by rw [upd_ne (Ne.symm ne)]; exact nx))
abbrev s_vRest : Stmt := inC (topS 34) 6
theorem sc_vRest : FnScope ["self"] ["self"] (defScope s_vRest) := ⟨rfl, rfl, rfl, by decide +kernel, rfl, by decide +kernel, by decide +kernel⟩
theorem ok_vRest {f : Addr} {fd : FuncData} {k : Nat} (F : Fun K "__invert__" "Rest.__invert__" s_vRest f fd) (M : Mak P w K mg base k "Not" (W.C .neg) (spNeg W) []) : FnOk P w K mg base CX0 (k + 2) f fd ["self"] (spInv W) := by
  refine F.ok sc_vRest (fun vs H Q E h => ?_) (fun cdv A outer s H vs Q E hr h => ?_)
  · obtain ⟨a, s, rfl, _⟩ := h
    rfl
  · obtain ⟨a, s, rfl, hs, q⟩ := h
    refine ⟨_, (pss_one (ps_ret (pe_mk M hr (Nat.le_refl _) (by rfl) (pa_cons (pv 0) pa_nil)))), ?_⟩
    refine ⟨_, rfl, fun x dx nx nd ne => ⟨x, a, s, H, rfl, ⟨⟨dx, upd_same⟩, ?_, nx⟩, hs, fun H' sm hn => ⟨rfl, q H' x sm nx hn⟩⟩⟩
    exact (Sm.new nd).trans (Sm.new (by rw [upd_ne (Ne.symm ne)]; exact nx))
abbrev s_vFact : Stmt := inC (topS 35) 6
theorem sc_vFact : FnScope ["self"] ["self"] (defScope s_vFact) := ⟨rfl, rfl, rfl, by decide +kernel, rfl, by decide +kernel, by decide +kernel⟩
theorem ok_vFact {f : Addr} {fd : FuncData} {k : Nat} (F : Fun K "__invert__" "Fact.__invert__" s_vFact f fd) (M : Mak P w K mg base k "Not" (W.C .neg) (spNeg W) []) : FnOk P w K mg base CX0 (k + 2) f fd ["self"] (spInv W) := by
  refine F.ok sc_vFact (fun vs H Q E h => ?_) (fun cdv A outer s H vs Q E hr h => ?_)
  · obtain ⟨a, s, rfl, _⟩ := h
    rfl
  · obtain ⟨a, s, rfl, hs, q⟩ := h
    refine ⟨_, (pss_one (ps_ret (pe_mk M hr (Nat.le_refl _) (by rfl) (pa_cons (pv 0) pa_nil)))), ?_⟩
    refine ⟨_, rfl, fun x dx nx nd ne => ⟨x, a, s, H, rfl, ⟨⟨dx, upd_same⟩, ?_, nx⟩, hs, fun H' sm hn => ⟨rfl, q H' x sm nx hn⟩⟩⟩
    exact (Sm.new nd).trans (Sm.new (by rw [upd_ne (Ne.symm ne)]; exact nx))
abbrev s_vSure : Stmt := inC (topS 36) 6
theorem sc_vSure : FnScope ["self"] ["self"] (defScope s_vSure) := ⟨rfl, rfl, rfl, by decide +kernel, rfl, by decide +kernel, by decide +kernel⟩
theorem ok_vSure {f : Addr} {fd : FuncData} {k : Nat} (F : Fun K "__invert__" "Sure.__invert__" s_vSure f fd) (M : Mak P w K mg base k "Not" (W.C .neg) (spNeg W) []) : FnOk P w K mg base CX0 (k + 2) f fd ["self"] (spInv W) := by
  refine F.ok sc_vSure (fun vs H Q E h => ?_) (fun cdv A outer s H vs Q E hr h => ?_)
  · obtain ⟨a, s, rfl, _⟩ := h
    rfl
  · obtain ⟨a, s, rfl, hs, q⟩ := h
    refine ⟨_, (pss_one (ps_ret (pe_mk M hr (Nat.le_refl _) (by rfl) (pa_cons (pv 0) pa_nil)))), ?_⟩
    refine ⟨_, rfl, fun x dx nx nd ne => ⟨x, a, s, H, rfl, ⟨⟨dx, upd_same⟩, ?_, nx⟩, hs, fun H' sm hn => ⟨rfl, q H' x sm nx hn⟩⟩⟩
    exact (Sm.new nd).trans (Sm.new (by rw [upd_ne (Ne.symm ne)]; exact nx))
abbrev s_vSilent : Stmt := inC (topS 37) 6
theorem sc_vSilent : FnScope ["self"] ["self"] (defScope s_vSilent) := ⟨rfl, rfl, rfl, by decide +kernel, rfl, by decide +kernel, by decide +kernel⟩
theorem ok_vSilent {f : Addr} {fd : FuncData} {k : Nat} (F : Fun K "__invert__" "Silent.__invert__" s_vSilent f fd) (M : Mak P w K mg base k "Not" (W.C .neg) (spNeg W) []) : FnOk P w K mg base CX0 (k + 2) f fd ["self"] (spInv W) := by
  refine F.ok sc_vSilent (fun vs H Q E h => ?_) (fun cdv A outer s H vs Q E hr h => ?_)
  · obtain ⟨a, s, rfl, _⟩ := h
    rfl
  · obtain ⟨a, s, rfl, hs, q⟩ := h
    refine ⟨_, (pss_one (ps_ret (pe_mk M hr (Nat.le_refl _) (by rfl) (pa_cons (pv 0) pa_nil)))), ?_⟩
    refine ⟨_, rfl, fun x dx nx nd ne => ⟨x, a, s, H, rfl, ⟨⟨dx, upd_same⟩, ?_, nx⟩, hs, fun H' sm hn => ⟨rfl, q H' x sm nx hn⟩⟩⟩
    exact (Sm.new nd).trans (Sm.new (by rw [upd_ne (Ne.symm ne)]; exact nx))
abbrev s_vKnows : Stmt := inC (topS 38) 7
theorem sc_vKnows : FnScope ["self"] ["self"] (defScope s_vKnows) := ⟨rfl, rfl, rfl, by decide +kernel, rfl, by decide +kernel, by decide +kernel⟩
theorem ok_vKnows {f : Addr} {fd : FuncData} {k : Nat} (F : Fun K "__invert__" "Knows.__invert__" s_vKnows f fd) (M : Mak P w K mg base k "Not" (W.C .neg) (spNeg W) []) : FnOk P w K mg base CX0 (k + 2) f fd ["self"] (spInv W) := by
  refine F.ok sc_vKnows (fun vs H Q E h => ?_) (fun cdv A outer s H vs Q E hr h => ?_)
  · obtain ⟨a, s, rfl, _⟩ := h
    rfl
  · obtain ⟨a, s, rfl, hs, q⟩ := h
    refine ⟨_, (pss_one (ps_ret (pe_mk M hr (Nat.le_refl _) (by rfl) (pa_cons (pv 0) pa_nil)))), ?_⟩
    refine ⟨_, rfl, fun x dx nx nd ne => ⟨x, a, s, H, rfl, ⟨⟨dx, upd_same⟩, ?_, nx⟩, hs, fun H' sm hn => ⟨rfl, q H' x sm nx hn⟩⟩⟩
    exact (Sm.new nd).trans (Sm.new (by rw [upd_ne (Ne.symm ne)]; exact nx))
abbrev s_vCommon : Stmt := inC (topS 39) 7
theorem sc_vCommon : FnScope ["self"] ["self"] (defScope s_vCommon) := ⟨rfl, rfl, rfl, by decide +kernel, rfl, by decide +kernel, by decide +kernel⟩
theorem ok_vCommon {f : Addr} {fd : FuncData} {k : Nat} (F : Fun K "__invert__" "Common.__invert__" s_vCommon f fd) (M : Mak P w K mg base k "Not" (W.C .neg) (spNeg W) []) : FnOk P w K mg base CX0 (k + 2) f fd ["self"] (spInv W) := by
  refine F.ok sc_vCommon (fun vs H Q E h => ?_) (fun cdv A outer s H vs Q E hr h => ?_)
  · obtain ⟨a, s, rfl, _⟩ := h
    rfl
  · obtain ⟨a, s, rfl, hs, q⟩ := h
    refine ⟨_, (pss_one (ps_ret (pe_mk M hr (Nat.le_refl _) (by rfl) (pa_cons (pv 0) pa_nil)))), ?_⟩
    refine ⟨_, rfl, fun x dx nx nd ne => ⟨x, a, s, H, rfl, ⟨⟨dx, upd_same⟩, ?_, nx⟩, hs, fun H' sm hn => ⟨rfl, q H' x sm nx hn⟩⟩⟩
    exact (Sm.new nd).trans (Sm.new (by rw [upd_ne (Ne.symm ne)]; exact nx))
end
end Z
set_option Elab.async false
set_option linter.all false
set_option maxRecDepth 100000
set_option maxHeartbeats 4000000
set_option autoImplicit false
/-! repr of plain data, where no repr is under way -/
namespace Z
open PySem PySem.Spec PyProof.Rows L2
structure Pl (n W : Nat) (d : PyData) : Prop where
  sh : d.showable = true
  nd : d.hasDict = false
  ls : d.leavesShort 32 = true
  dp : d.depth ≤ n
  wt : d.weight ≤ W
  cl : d.canLay0 = true
theorem Pl.mono {n m W U : Nat} {d : PyData} (h : Pl n W d) (a : n ≤ m) (b : W ≤ U) : Pl m U d :=
  ⟨h.sh, h.nd, h.ls, Nat.le_trans h.dp a, Nat.le_trans h.wt b, h.cl⟩
theorem Pl.all {n W : Nat} : ∀ {ds : List PyData}, (∀ d ∈ ds, Pl n W d) →
    PyData.showableAll ds = true ∧ PyData.hasDictAll ds = false ∧ PyData.leavesShortAll 32 ds = true ∧ PyData.depthAll ds ≤ n ∧
      PyData.weightAll ds ≤ (W + 1) * ds.length ∧ PyData.canLayAll0 ds = true
  | [], _ => by simp [PyData.showableAll, PyData.hasDictAll, PyData.leavesShortAll, PyData.depthAll, PyData.weightAll, PyData.canLayAll0]
  | d :: ds, h => by
    have a := h d (by simp)
    obtain ⟨b1, b2, b3, b4, b5, b6⟩ := Pl.all (ds := ds) fun e he => h e (by simp [he])
    have w := a.wt
    have p := a.dp
    refine ⟨by simp [PyData.showableAll, a.sh, b1], by simp [PyData.hasDictAll, a.nd, b2], by simp [PyData.leavesShortAll, a.ls, b3], ?_, ?_, by simp [PyData.canLayAll0, a.cl, b6]⟩
    · show max d.depth (PyData.depthAll ds) ≤ n
      omega
    · show d.weight + 1 + PyData.weightAll ds ≤ (W + 1) * (ds.length + 1)
      rw [Nat.mul_add]
      omega
theorem Pl.list {n W : Nat} {ds : List PyData} (h : ∀ d ∈ ds, Pl n W d) : Pl (n + 1) ((W + 1) * ds.length) (.list ds) := by
  obtain ⟨b1, b2, b3, b4, b5, b6⟩ := Pl.all h
  exact ⟨b1, b2, b3, Nat.succ_le_succ b4, b5, b6⟩
theorem Pl.tuple {n W : Nat} {ds : List PyData} (h : ∀ d ∈ ds, Pl n W d) : Pl (n + 1) ((W + 1) * ds.length) (.tuple ds) := by
  obtain ⟨b1, b2, b3, b4, b5, b6⟩ := Pl.all h
  exact ⟨b1, b2, b3, Nat.succ_le_succ b4, b5, b6⟩
theorem Pl.fits {n W : Nat} {d : PyData} (h : Pl n W d) (w : W ≤ 400000) : d.shown.length ≤ sizeLine := by
  have z := PyData.shown_le 32 (by decide) d h.ls
  have y := h.wt
  rw [sizeLine_eq]
  omega
theorem call_repr_pl {X : Cx} (hg : X.A.guards = some []) (hu : X.A.units + 64 < cLine) :
    CallR X (.builtin "repr") (fun xs H Q => ∃ v d, xs = [v] ∧ Dp X.K H v d ∧ Pl 40 400000 d ∧ Q (.str d.shown) H) := by
  intro pins s σ H xs us Q I r h
  obtain ⟨v, d, rfl, hd, pl, q⟩ := h
  obtain ⟨u, rfl, ru⟩ := vals1 r
  have fit := pl.fits (Nat.le_refl _)
  cases hd with
  | non =>
    cases ru
    exact PySem.P.repr_of_none ⟨.str "None", H, I.tok _, ⟨_, rfl⟩, q⟩
  | bl b =>
    cases ru
    exact PySem.P.repr_of_bool ⟨.str (if b then "True" else "False"), H, I.tok _, ⟨_, rfl⟩, q⟩
  | int i =>
    obtain ⟨t, rfl⟩ := ru
    have hz : i.natAbs.log2 < 1920 := of_decide_eq_true pl.sh
    exact PySem.P.repr_of_int hz ⟨.str (toString i), H, I.tok _, ⟨_, rfl⟩, q⟩
  | str x =>
    obtain ⟨t, rfl⟩ := ru
    exact PySem.P.repr_of_str ⟨.str (reprText x), H, I.tok _, ⟨_, rfl⟩, q⟩ fit
  | lst hs ha =>
    cases ru
    have hd : Dp X.K H (.ref _) (.list _) := .lst hs ha
    obtain ⟨as, hr⟩ := Dp.reads I _ _ _ hd rfl
    refine repr_of_reads' hr pl.sh (PyData.noDict_hsm pl.nd) hg (by have := pl.dp; omega) (fun _ _ e => e) (fun h' u tk hk => ?_) fit
    exact ⟨.str _, H, I.kept hk, ⟨_, rfl⟩, q⟩
  | tup hs ha =>
    cases ru
    have hd : Dp X.K H (.ref _) (.tuple _) := .tup hs ha
    obtain ⟨as, hr⟩ := Dp.reads I _ _ _ hd rfl
    refine repr_of_reads' hr pl.sh (PyData.noDict_hsm pl.nd) hg (by have := pl.dp; omega) (fun _ _ e => e) (fun h' u tk hk => ?_) fit
    exact ⟨.str _, H, I.kept hk, ⟨_, rfl⟩, q⟩
end Z
set_option Elab.async false
set_option linter.all false
set_option maxRecDepth 100000
set_option maxHeartbeats 4000000
set_option autoImplicit false
/-! A class held in a local name and called; a classmethod without arguments; a text's slice with a step. -/
namespace Z
open PySem PySem.Spec PyProof.Rows L2
section
variable {X : Cx} {CX : CXT} {k i : Nat} {f C : Addr} {fd : FuncData} {ps : List Str} {sp : Sp} {dvs : List V} {ds : List Value} {E : XK} {x : Str} {p pos apos : Pos} {e o : Expr} {es : List Expr} {t : TA} {ta te : TE} {g q : Addr} {mc : Value} {m : Str} {pl : Sem Bool}
/-- x(e, ..), x a local name that holds the class at C -/
def tMakeL (i : Nat) (C : Addr) (sp : Sp) (dvs : List V) (E : XK) (t : TA) : TE := fun σ H Q => σ[i]? = some (some (.ref C)) ∧ t σ H fun vs H1 => ∀ x dx, H1 x = none → H1 dx = none → dx ≠ x →
  sp (.ref x :: (vs ++ dvs)) (upd (upd H1 dx (.own x)) x (.ins C dx [])) (fun v H2 => v = .non ∧ Q (.ref x) H2) E
theorem pe_makeL (M : Mk X.K C f) (F : FnOk X.prog X.w X.K X.mg X.base CX k f fd ps sp) (hr : Room (k + 1) X.A) (hN : X.N[i]? = some x) (hv : Vis X.env.scope x) (hb : Binds X.K fd ps ds) (hd : Vals dvs ds) (hx : Passes CX X E)
    (ha : PA X (e :: es) t) (hdb : (x == ("__debug__" : Str)) = false := by decide) (hcd : (x == ("__classdict__" : Str)) = false := by decide) (he : starEach (e :: es) X.env = (false, eval e X.env) :: starEach es X.env := by rfl)
    (hpl : (backTo pos (starEach es X.env)).any (·.1) = false := by rfl) : PE X (.Call (.Name x p) (e :: es) [] pos) (tMakeL i C sp dvs E t) := by
  refine ⟨fun pins s σ H Q I h => ?_⟩
  obtain ⟨hs, h⟩ := h
  refine wpAny_Call_Name_kw (thn ((pe_var (pos := p) hN hv hdb hcd).run pins s σ H (fun v H1 => v = .ref C ∧ H1 = H) I ⟨.ref C, hs, rfl, rfl⟩) fun u s1 ⟨v, H1, I1, r1, q1⟩ => ?_)
  obtain ⟨rfl, rfl⟩ := q1
  cases r1
  refine PySem.W.callWith_K (h₀ := X.base) I.ok.mod.kin M.kp (thn (ha.run pos pins s1 σ _ _ I1 h) fun us s2 ⟨vs, H2, I2, r, q⟩ => ⟨I2.kIn, ?_⟩) he hpl
  exact run_make M F hr hb hd hx I2 r q
/-- e.m(), e the class at C, m a classmethod -/
theorem pe_cmeth0 (he : PE X o ta) (r : ClX.CRead X.K C mc) (c : ClX.CMet X.K C mc m q g) (F : FnR X.prog X.w X.K X.mg X.base CX k g sp) (hr : Room k X.A) (hx : Passes CX X E)
    (ht : eval (.Call (.Attribute o m apos) [] [] pos) X.env = (do
      let ov ← eval o X.env
      standAt apos.atName
      let (f, first) ← holding [ov] (getMethod ov m pl)
      callWith pos f first (backTo pos (starEach [] X.env)) (backToKw pos (keywordEach [] X.env))) := by rfl) :
    PE X (.Call (.Attribute o m apos) [] [] pos) (ClX.tCMeth C sp E ta tNil) := by
  refine ⟨fun pins s σ H Q I h => ?_⟩
  refine PySem.W.methodCall_KW (pl := pl) (thn (he.run pins s σ H _ I h) fun u s1 ⟨x, H1, I1, rx, ex, q⟩ => ?_) ht
  subst ex
  obtain rfl : u = Value.ref C := rx
  refine ClX.getmethcm_ok I1 r c fun s2 I2 => ?_
  exact PySem.W.callWith_M0 (first := []) ⟨ClX.pin_at I2, I2.kIn⟩ c.fi (ClX.run_cm (us := []) (vs := []) F hr hx I2 .nil q)
/-- z[lo::k] of a text -/
def tSlK (te : TE) (tl tk : TO) : TE := fun σ H Q => te σ H fun x H1 => tl σ H1 fun y H2 => tk σ H2 fun n H3 => ∃ (z : Str) (lo k : Int), x = .str z ∧ y = some lo ∧ n = some k ∧ (k == 0) = false ∧ z.length ≤ sizeLine ∧
  ∀ t t', Q (.str (Txt.sliceBy z (some (lo, t)) none (k, t'))) H3
theorem pe_slK {lo st : Expr} {tl tk : TO} {p2 : Pos} (he : PE X e te) (hl : PO X (some lo) tl) (hk : PO X (some st) tk) : PE X (.Subscript e (.Slice (some lo) none (some st) p2) pos) (tSlK te tl tk) := by
  refine ⟨fun pins s σ H Q I h => ?_⟩
  refine Subscript_ (thn (he.run pins s σ H _ I h) fun v s1 ⟨x, H1, I1, r1, q1⟩ => ?_)
  refine wpAny_Slice (thn (hl.run pins s1 σ H1 _ I1 q1) fun vl s2 ⟨l, H2, I2, pl, q2⟩ => ?_)
  refine thn (po_none.run pins s2 σ H2 (fun o H3 => o = none ∧ H3 = H2) I2 ⟨rfl, rfl⟩) fun vu s3 ⟨u, H3, I3, pu, eu, e3⟩ => ?_
  subst eu e3
  refine thn (hk.run pins s3 σ H3 _ I3 q2) fun vs s4 ⟨n, H4, I4, ps, q4⟩ => ?_
  obtain ⟨z, lo', k', rfl, rfl, rfl, hk0, hz, q⟩ := q4
  obtain ⟨t, rfl⟩ := r1
  have I5 : Inv X pins σ H4 { s4 with heap := s4.heap.push { cls := .type "slice", data := .fields #[vl, vu, vs] } } := I4.kept (t' := s4.toks) fun b ob q => Heap.get?_push_of_some _ q
  cases pl with
  | int _ t1 =>
  cases pu
  cases ps with
  | int _ t2 =>
  show wpAny (model X.prog X.w) X.A (subscriptTail e (.Slice (some lo) none (some st) p2) (.str z t) (.ref s4.heap.objs.size)) (EP X pins σ Q) X.xe _
  refine tail_any (ops := [.ref s4.heap.objs.size, .str z t]) (typeIs_str _ _ _) F.slot_str_getitem.lookup ?_ (by with_unfolding_all rfl)
  refine wpAny_getItem_str_slice (l := some (lo', t1)) (u := none) (st := some (k', t2)) ⟨_, Heap.get?_push_size _ rfl, rfl, rfl⟩ hk0 ?_
  refine post_val_or_str ⟨Nat.le_trans (Txt.sliceBy_le z _ _ (k', t2) (by simpa using hk0)) hz, fun t' c => ⟨.str _, H4, I5.tok c, ⟨_, rfl⟩, q t1 t2⟩⟩
end
end Z
set_option Elab.async false
set_option linter.all false
set_option maxRecDepth 100000
set_option maxHeartbeats 4000000
set_option autoImplicit false
/-! A good table: looked at, found good; the text of parts with blanks between. -/
namespace Z
open PySem PySem.Spec PyProof.Rows L2
open C8 (Cal pe_c Mak pe_mk Met pe_mt pe_mt0 pe_gc)
theorem num_a {K : PySem.W.Frag} {H : Hp} (x : Int) : NumA K H (.int x) (some x) :=
  ⟨.type "int", true, false, .base (.int x), kit_ty (a := "int") (b := "int") (r := true) (by decide +kernel), kit_ty (a := "int") (b := "bool") (r := false) (by decide +kernel), fun _ => ⟨x, rfl, rfl⟩, fun z => nomatch z⟩
theorem sqa_ty {K : PySem.W.Frag} {H : Hp} {a : Addr} {xs : List V} (h : SqA K H a xs) : ∃ t, TyX K H (.ref a) t ∧ PySem.W.kitAny K t [.type "list", .type "tuple"] = some true := by
  rcases h with h | h
  · exact ⟨_, tyx_lst h, kitAny_cons (b := true) (kit_ty (a := "list") (b := "list") (r := true) (by decide +kernel)) (fun z => nomatch z) (fun _ => rfl)⟩
  · exact ⟨_, tyx_tup h, kitAny_cons (b := false) (kit_ty (a := "tuple") (b := "list") (r := false) (by decide +kernel)) (fun _ => kitAny_cons (b := true) (kit_ty (a := "tuple") (b := "tuple") (r := true) (by decide +kernel)) (fun z => nomatch z) (fun _ => rfl)) (fun z => nomatch z)⟩
def spSeq (K : PySem.W.Frag) : Sp := fun vs H Q _ => ∃ (a : Addr) (xs : List V), vs = [.ref a] ∧ SqA K H a xs ∧ ∀ H', Sm H H' → Q (.bl true) H'
def spTwo (K : PySem.W.Frag) : Sp := fun vs H Q _ => ∃ (lo x y : Int) (a : Addr), vs = [.int lo, .ref a] ∧ SqT K H a [.int x, .int y] ∧ lo ≤ x ∧ lo ≤ y ∧ ∀ H', Sm H H' → Q (.bl true) H'
/-- rows of signs -/
structure SgR (ts : List Str) (w : Nat) : Prop where
  n : ts.length ≤ 900
  w9 : w ≤ 900
  len : ∀ t ∈ ts, t.length = w
  sum : (ts.map (·.length)).sum ≤ 16777216
  jl : (Txt.join (Str.ofString "") ts).length ≤ sizeLine
  st : Txt.stripChars (Txt.join (Str.ofString "") ts) (Str.ofString "+-") = Str.ofString ""
def spRws (K : PySem.W.Frag) : Sp := fun vs H Q _ => ∃ (a : Addr) (ts : List Str) (h w : Int) (m : Nat), vs = [.ref a, .int h, .int w] ∧ SqA K H a (ts.map V.str) ∧ h = (ts.length : Int) ∧ w = (m : Int) ∧ SgR ts m ∧ ∀ H', Sm H H' → Q (.bl true) H'
section
variable {P : Program} {w : World} {K : PySem.W.Frag} {mg : Str → Option Value} {base : Heap}
abbrev s_isseq : Stmt := topS 7
theorem sc_isseq : FnScope ["value"] ["value"] (defScope s_isseq) := ⟨rfl, rfl, rfl, by decide +kernel, rfl, by decide +kernel, by decide +kernel⟩
theorem ok_isseq {f : Addr} {fd : FuncData} {k : Nat} (F : Fun K "is_sequence" "is_sequence" s_isseq f fd) (T : Bt mg) : FnOk P w K mg base CX0 (k + 1) f fd ["value"] (spSeq K) := by
  refine F.ok sc_isseq (fun vs H Q E h => ?_) (fun cdv A outer s H vs Q E hr h => ?_)
  · obtain ⟨v, d, rfl, _⟩ := h
    rfl
  · obtain ⟨a, xs, rfl, ha, q⟩ := h
    refine ⟨_, (pss_one (ps_ret (pe_callB call_isiT (by rfl) T.n_isinstance (by decide +kernel) (pa_cons (pv 0) (pa_cons (pe_tup (pa_cons (pe_bltn (v := .ty "list") (by rfl) T.n_list (by decide +kernel) rfl) (pa_cons (pe_bltn (v := .ty "tuple") (by rfl) T.n_tuple (by decide +kernel) rfl) pa_nil))) pa_nil))))), ?_⟩
    refine ⟨_, rfl, (show 2 ≤ sizeLine by decide), fun p hp => ?_⟩
    obtain ⟨t, ty, kt⟩ := sqa_ty (ha.sm (Sm.new (o := .tup [.ty "list", .ty "tuple"]) hp))
    exact ⟨.ref a, p, _, _, _, _, rfl, upd_same, .cons (.ty _) (.cons (.ty _) .nil), ty, kt, q _ (Sm.new hp)⟩
abbrev s_two : Stmt := topS 26
abbrev n_two : List Str := ["lowest", "values", "first", "second"]
theorem sc_two : FnScope n_two ["lowest", "values"] (defScope s_two) := ⟨rfl, rfl, rfl, by decide +kernel, rfl, by decide +kernel, by decide +kernel⟩
theorem ok_two {f : Addr} {fd : FuncData} (F : Fun K "_are_two_from" "_are_two_from" s_two f fd) (T : Bt mg) (Cs : Cal P w K mg base 1 "is_sequence" (spSeq K) []) (Ci : Cal P w K mg base 1 "is_integer" (spIn K) []) :
    FnOk P w K mg base CX0 2 f fd ["lowest", "values"] (spTwo K) := by
  refine F.ok sc_two (fun vs H Q E h => ?_) (fun cdv A outer s H vs Q E hr h => ?_)
  · obtain ⟨lo, x, y, a, rfl, _⟩ := h
    rfl
  · obtain ⟨lo, x, y, a, rfl, ha, hx, hy, q⟩ := h
    refine ⟨_, (pss_cons (ps_if ((pw_or (pt_not (pt_val (pe_c Cs hr (by decide) (by rfl) (pa_cons (pv 1) pa_nil)))) (pw_or1 (pt_cmpR op_ne (pe_callB call_len_seq (by rfl) T.n_len (by decide +kernel) (pa_cons (pv 1) pa_nil)) pe_int (nomark _))))).pt
        (pss_one (ps_ret pe_bl))
        pss_nil)
      (pss_cons (ps_asg (pv 1) (pg_tup rfl (pgs_cons (pg_name (i := 2) sc_two.nd rfl (Or.inl rfl)) (pgs_cons (pg_name (i := 3) sc_two.nd rfl (Or.inl rfl)) pgs_nil))))
      (pss_one (ps_ret (pe_and (pe_c Ci hr (by decide) (by rfl) (pa_cons (pv 2) pa_nil)) (pe_and (pe_c Ci hr (by decide) (by rfl) (pa_cons (pv 3) pa_nil)) (pe_and (pe_cmpR op_ge (pv 2) (pv 0) (nomark _)) (pe_one (pe_cmpR op_ge (pv 3) (pv 0) (nomark _)))))))))), ?_⟩
    refine ⟨_, rfl, a, _, rfl, .inr ha, fun H1 s1 => ⟨_, rfl, ?_⟩⟩
    refine ⟨_, rfl, a, _, rfl, .inr (s1.tup ha), rfl, _, rfl, ?_⟩
    refine ⟨_, rfl, a, _, rfl, s1.tup ha, rfl, _, _, rfl, _, _, rfl, rfl, ?_⟩
    refine ⟨_, rfl, _, _, rfl, num_a x, _, rfl, _, rfl, _, _, rfl, num_a y, _, rfl, ?_⟩
    refine ⟨_, rfl, _, rfl, _, _, rfl, rfl, _, rfl, ?_⟩
    rw [show (decide (lo ≤ x)) = true from decide_eq_true hx, if_pos rfl]
    refine ⟨_, rfl, _, rfl, _, _, rfl, rfl, ?_⟩
    show Q (V.bl (decide (lo ≤ y))) H1
    rw [show (decide (lo ≤ y)) = true from decide_eq_true hy]
    exact q H1 s1
abbrev s_rws : Stmt := topS 27
abbrev n_rws : List Str := ["rows", "height", "width", "row"]
theorem sc_rws : FnScope n_rws ["rows", "height", "width"] (defScope s_rws) := ⟨rfl, rfl, rfl, by decide +kernel, rfl, by decide +kernel, by decide +kernel⟩
theorem ok_rws {f : Addr} {fd : FuncData} (F : Fun K "_are_rows" "_are_rows" s_rws f fd) (T : Bt mg) (Cs : Cal P w K mg base 1 "is_sequence" (spSeq K) []) :
    FnOk P w K mg base CX0 2 f fd ["rows", "height", "width"] (spRws K) := by
  refine F.ok sc_rws (fun vs H Q E h => ?_) (fun cdv A outer s H vs Q E hr h => ?_)
  · obtain ⟨a, ts, h, w, m, rfl, _⟩ := h
    rfl
  · obtain ⟨a, ts, _, _, m, rfl, ha, rfl, rfl, g, q⟩ := h
    refine ⟨_, (pss_cons (ps_if ((pw_or (pt_not (pt_val (pe_c Cs hr (by decide) (by rfl) (pa_cons (pv 0) pa_nil)))) (pw_or1 (pt_cmpR op_ne (pe_callB call_len_seq (by rfl) T.n_len (by decide +kernel) (pa_cons (pv 0) pa_nil)) (pv 1) (nomark _))))).pt
        (pss_one (ps_ret pe_bl))
        pss_nil)
      (pss_cons (ps_if (pt_not (pt_val (pe_callB (cr_all rfl) (by rfl) T.n_all (by decide +kernel) (pa_cons (pe_lc (own := [("row", 3)]) (tt := tYes) (by rfl) sc_rws.nd (pi_sq (pv 0)) (blkOk_by (N := n_rws) (sc := defScope s_rws) (own := [("row", 3)]) (by decide +kernel)) (fun _ _ _ _ _ => pg_name (i := 3) sc_rws.nd rfl (Or.inl rfl)) (fun _ _ _ _ _ => pts_nil) (fun _ _ _ _ _ => (pe_and (pe_callB (call_isiK K) (by rfl) T.n_isinstance (by decide +kernel) (pa_cons (pv 3) (pa_cons (pe_bltn (v := .ty "str") (by rfl) T.n_str (by decide +kernel) rfl) pa_nil))) (pe_one (pe_cmpR op_eq (pe_callB call_len_str (by rfl) T.n_len (by decide +kernel) (pa_cons (pv 3) pa_nil)) (pv 2) (nomark _)))))) pa_nil))))
        (pss_one (ps_ret pe_bl))
        pss_nil)
      (pss_one (ps_ret (pe_cmpR op_eq (pe_m1 PySem.F.slot_str_strip PySem.F.type_str_strip mt_stripChars (pe_join pe_str (pv 0)) pe_str) pe_str (nomark _)))))), ?_⟩
    refine ⟨_, rfl, a, _, rfl, ha, fun H1 s1 => ⟨_, rfl, ?_⟩⟩
    refine ⟨_, rfl, a, _, rfl, ha.sm s1, _, rfl, rfl, _, rfl, ?_⟩
    rw [List.length_map]
    refine iteB (fun hb => ?_) (fun _ => ?_)
    · exact absurd hb (by simp)
    refine ⟨_, rfl, a, _, rfl, ha.sm s1, fun it hit D hD => ?_⟩
    refine lc_sq hit (PvL H1 D ts (fun _ => true) fun z => V.bl (decide ((z.length : Int) = (m : Int)))) (PvL.start hD) (fun i H p => p.sm) ?_ ?_
    · rintro i z H2 hz p
      obtain ⟨t, ht, rfl⟩ := List.getElem?_map_some hz
      have hl := g.len t (List.mem_of_getElem? ht)
      refine ⟨rfl, _, rfl, _, _, _, _, _, rfl, .ty "str", .base (.str t), kit_ty (a := "str") (b := "str") (r := true) (by decide +kernel), _, rfl, ?_⟩
      refine ⟨_, rfl, t, rfl, Nat.le_trans (show t.length ≤ 900 by have := g.w9; omega) (by decide), _, rfl, rfl, p.yes hD (Sm.refl _) ht rfl ?_ g.n⟩
      simp
    · intro H2 p
      refine ⟨D, ts.map fun z => decide ((z.length : Int) = (m : Int)), rfl, .inl (.inl ?_), _, rfl, ?_⟩
      · rw [p.fin (by rw [List.length_map]), List.filter_eq_self.mpr (fun _ _ => rfl), List.map_map]
        rfl
      have al : (ts.map fun z => decide ((z.length : Int) = (m : Int))).all id = true := by
        rw [List.all_map, List.all_eq_true]
        intro t ht
        have hl := g.len t ht
        simp [hl]
      rw [al]
      refine ⟨⟨_, rfl⟩, _, rfl, _, a, ts, rfl, rfl, (ha.sm (s1.trans p.sm)).elim .inl .inr, by rw [show (Str.ofString "").length = 0 from rfl, Nat.mul_zero]; exact g.sum, ⟨_, rfl⟩, _, _, rfl, rfl, g.jl, rfl, ?_⟩
      have e : decide (V.str (Txt.stripChars (Txt.join (Str.ofString "") ts) (Str.ofString "+-")) = V.str (Str.ofString "")) = true := by rw [g.st]; simp
      rw [e]
      exact q H2 (s1.trans p.sm)
end
end Z
set_option Elab.async false
set_option linter.all false
set_option maxRecDepth 100000
set_option maxHeartbeats 4000000
set_option autoImplicit false
/-! A table looked at; its least table. -/
namespace Z
open PySem PySem.Spec PyProof.Rows L2
open C8 (Cal pe_c Mak pe_mk Met pe_mt pe_mt0 pe_gc)
/-- what is never come to -/
theorem ps_no {X : Cx} {st : Stmt} : PS X st (fun _ _ _ => False) := ⟨fun _ _ _ _ _ _ h => h.elim⟩
theorem pg_tupK {X : Cx} (K : PySem.W.Frag) {es : List Expr} {k : Nat} {pos : Pos} {t : TGs} {n : Nat} (hc : X.calm = true) (h : PGs X es t) (hK : X.K = K := by rfl) (hn : (assignEach es X.env).length = n := by rfl)
    (hst : (assignEach es X.env).findIdx? (·.1) = none := by rfl) : PG X (.Tuple es k pos) (gTup K n t) := by
  subst hK
  exact pg_tup hc h hn hst
theorem ix_sqa {K : PySem.W.Frag} {H : Hp} {a : Addr} {xs : List V} {i : Int} {j : Nat} {x : V} {Q : VK} (h : SqA K H a xs) (e : i = (j : Int)) (hx : xs[j]? = some x) (q : Q x H) : rIx K (.ref a) (.int i) H Q := by
  rcases h with h | h
  · exact .inl ⟨a, _, i, _, rfl, rfl, h, at_of (j := j) e hx, q⟩
  · exact .inr (.inl ⟨a, _, i, _, rfl, rfl, h, at_of (j := j) e hx, q⟩)
def spCkT (K : PySem.W.Frag) : Sp := fun vs H Q _ => ∃ (s p r : Addr) (a0 a1 p0 p1 : Nat) (ts : List Str), vs = [.ref s, .ref p, .ref r] ∧ SqT K H s [.int a0, .int a1] ∧ SqT K H p [.int p0, .int p1] ∧ SqA K H r (ts.map V.str) ∧
  1 ≤ p0 ∧ 1 ≤ p1 ∧ ts.length = a0 + p0 ∧ SgR ts (a1 + p1) ∧ ∀ H', Sm H H' → Q .non H'
section
variable {P : Program} {w : World} {K : PySem.W.Frag} {mg : Str → Option Value} {base : Heap} {CL : Addr}
abbrev s_ckt : Stmt := topS 25
abbrev n_ckt : List Str := ["starts", "periods", "rows"]
theorem sc_ckt : FnScope n_ckt n_ckt (defScope s_ckt) := ⟨rfl, rfl, rfl, by decide +kernel, rfl, by decide +kernel, by decide +kernel⟩
theorem ok_ckt {f : Addr} {fd : FuncData} (F : Fun K "_check_table" "_check_table" s_ckt f fd) (Ct : Cal P w K mg base 2 "_are_two_from" (spTwo K) []) (Cr : Cal P w K mg base 2 "_are_rows" (spRws K) []) : FnOk P w K mg base CX0 3 f fd n_ckt (spCkT K) := by
  refine F.ok sc_ckt (fun vs H Q E h => ?_) (fun cdv A outer s H vs Q E hr h => ?_)
  · obtain ⟨s, p, r, a0, a1, p0, p1, ts, rfl, _⟩ := h
    rfl
  · obtain ⟨s, p, r, a0, a1, p0, p1, ts, rfl, hs, hp, ht, q0, q1, hl, g, q⟩ := h
    refine ⟨_, (pss_cons (ps_if (pt_not (pt_val (pe_c Ct hr (by decide) (by rfl) (pa_cons pe_int (pa_cons (pv 0) pa_nil)))))
        (pss_one ps_no)
        pss_nil)
      (pss_cons (ps_if (pt_not (pt_val (pe_c Ct hr (by decide) (by rfl) (pa_cons pe_int (pa_cons (pv 1) pa_nil)))))
        (pss_one ps_no)
        pss_nil)
      (pss_one (ps_if (pt_not (pt_val (pe_c Cr hr (by decide) (by rfl) (pa_cons (pv 2) (pa_cons (pe_op op_add (pe_ix ix_seq (pv 0) pe_int (fun _ _ => rfl)) (pe_ix ix_seq (pv 1) pe_int (fun _ _ => rfl))) (pa_cons (pe_op op_add (pe_ix ix_seq (pv 0) pe_int (fun _ _ => rfl)) (pe_ix ix_seq (pv 1) pe_int (fun _ _ => rfl))) pa_nil))))))
        (pss_one ps_no)
        pss_nil)))), ?_⟩
    refine ⟨_, rfl, 0, a0, a1, s, rfl, hs, by omega, by omega, fun H1 s1 => ⟨_, rfl, ?_⟩⟩
    refine ⟨_, rfl, 1, p0, p1, p, rfl, s1.tup hp, by omega, by omega, fun H2 s2 => ⟨_, rfl, ?_⟩⟩
    have s12 := s1.trans s2
    refine ⟨_, rfl, _, rfl, ix_sqa (j := 0) (.inr (s12.tup hs)) rfl rfl ⟨_, rfl, ix_sqa (j := 0) (.inr (s12.tup hp)) rfl rfl ⟨_, _, rfl, rfl, ?_⟩⟩⟩
    refine ⟨_, rfl, ix_sqa (j := 1) (.inr (s12.tup hs)) rfl rfl ⟨_, rfl, ix_sqa (j := 1) (.inr (s12.tup hp)) rfl rfl ⟨_, _, rfl, rfl, ?_⟩⟩⟩
    exact ⟨r, ts, _, _, a1 + p1, rfl, ht.sm s12, by omega, by omega, g, fun H3 s3 => ⟨_, rfl, q H3 (s12.trans s3)⟩⟩
end
end Z
set_option Elab.async false
set_option linter.all false
set_option maxRecDepth 100000
set_option maxHeartbeats 4000000
set_option autoImplicit false
/-! A set of crowds: its text; the empty set made. -/
namespace Z
open PySem PySem.Spec PyProof.Rows L2
open C8 (Cal pe_c Mak pe_mk Met pe_mt pe_mt0 pe_gc)
/-- a part and its text -/
inductive Sh : V → Str → Prop
  | int {i : Int} (h : i.natAbs.log2 < 1920) : Sh (.int i) (Str.ofString (toString i))
  | str (t : Str) : Sh (.str t) t
inductive Shs : List V → List Str → Prop
  | nil : Shs [] []
  | cons {v : V} {t : Str} {vs : List V} {ts : List Str} (h : Sh v t) (r : Shs vs ts) : Shs (v :: vs) (t :: ts)
theorem Shs.ix : ∀ {vs : List V} {ts : List Str} {i : Nat} {v : V}, Shs vs ts → vs[i]? = some v → ∃ t, ts[i]? = some t ∧ Sh v t
  | _, _, 0, _, .cons h r, e => ⟨_, rfl, (Option.some.inj e) ▸ h⟩
  | _, _, i + 1, _, .cons h r, e => Shs.ix (i := i) r e
theorem Shs.len {vs : List V} {ts : List Str} (h : Shs vs ts) : vs.length = ts.length := by
  induction h with
  | nil => rfl
  | cons h r ih => rw [List.length_cons, List.length_cons, ih]
theorem shs_strs : ∀ ts : List Str, Shs (ts.map V.str) ts
  | [] => .nil
  | t :: ts => .cons (.str t) (shs_strs ts)
theorem call_strS {X : Cx} : CallR X (.type "str") (fun xs H Q => ∃ v t, xs = [v] ∧ Sh v t ∧ Q (.str t) H) := by
  intro pins s σ H xs us Q I r h
  obtain ⟨v, t, rfl, hs, q⟩ := h
  cases hs with
  | int hl => exact call_str_int pins s σ H _ us Q I r ⟨_, rfl, hl, q⟩
  | str t => exact SkE.call_str_str pins s σ H _ us Q I r ⟨_, rfl, q⟩
def spc (ts : List Str) : Str := Txt.join (Str.ofString " ") ts
def spSpc (K : PySem.W.Frag) : Sp := fun vs H Q _ => ∃ (a : Addr) (xs : List V) (ts : List Str), vs = [.ref a] ∧ SqA K H a xs ∧ Shs xs ts ∧ ts.length ≤ 900 ∧ (ts.map (·.length)).sum + ts.length ≤ 16777216 ∧ ∀ H', Sm H H' → Q (.str (spc ts)) H'
def tI (i : Int) : Str := Str.ofString (toString i)
def crT (x y p q : Int) (rows : List Str) : Str := Str.empty ++ Str.ofString "[" ++ spc [tI x, tI y] ++ Str.ofString " " ++ spc [tI p, tI q] ++ Str.ofString ": " ++ spc rows ++ Str.ofString "]"
structure CrOk (x y p q : Int) (rows : List Str) : Prop where
  lx : x.natAbs.log2 < 1920
  ly : y.natAbs.log2 < 1920
  lp : p.natAbs.log2 < 1920
  lq : q.natAbs.log2 < 1920
  s1 : (tI x).length + (tI y).length ≤ 100000
  s2 : (tI p).length + (tI q).length ≤ 100000
  c1 : (spc [tI x, tI y]).length ≤ 100000
  c2 : (spc [tI p, tI q]).length ≤ 100000
  c3 : (spc rows).length ≤ 1000000
  n : rows.length ≤ 900
  sm : (rows.map (·.length)).sum + rows.length ≤ 16777216
structure CrAt (K : PySem.W.Frag) (CC : Addr) (H : Hp) (b : Addr) (x y p q : Int) (rows : List Str) : Prop where
  ex : ∃ dx ts tp tl, H b = some (.ins CC dx [("starts", .ref ts), ("periods", .ref tp), ("rows", .ref tl)]) ∧ H ts = some (.tup [.int x, .int y]) ∧ H tp = some (.tup [.int p, .int q]) ∧ SqT K H tl (rows.map V.str)
theorem CrAt.sm {K : PySem.W.Frag} {CC : Addr} {H H' : Hp} {b : Addr} {x y p q : Int} {rows : List Str} (h : CrAt K CC H b x y p q rows) (e : Sm H H') : CrAt K CC H' b x y p q rows :=
  let ⟨dx, ts, tp, tl, a, b, c, d⟩ := h.ex
  ⟨dx, ts, tp, tl, e _ _ a, e _ _ b, e _ _ c, e.tup d⟩
def CrS (K : PySem.W.Frag) (CC : Addr) (H : Hp) (b : Addr) (t : Str) : Prop := ∃ x y p q rows, CrAt K CC H b x y p q rows ∧ CrOk x y p q rows ∧ t = crT x y p q rows
/-- the classes, with Crowds told by its table -/
def wdOf (K : PySem.W.Frag) (CC : Addr) (C : Ix → Addr) : Wd := ⟨C, CrS K CC, fun ⟨x, y, p, q, rows, a, b, c⟩ e => ⟨x, y, p, q, rows, a.sm e, b, c⟩⟩
structure CrC (K : PySem.W.Frag) (CC : Addr) : Prop where
  ic : InsC K CC
  n1 : NoAttr K CC "starts"
  n2 : NoAttr K CC "periods"
  n3 : NoAttr K CC "rows"
/-- Crowds((0, 0), (1, 1), ('-',)) -/
def spNil (K : PySem.W.Frag) (CC : Addr) : Sp := fun vs H Q _ => ∃ (a s p r dx : Addr), vs = [.ref a, .ref s, .ref p, .ref r] ∧ H a = some (.ins CC dx []) ∧ H s = some (.tup [.int 0, .int 0]) ∧ H p = some (.tup [.int 1, .int 1]) ∧ H r = some (.tup [.str "-"]) ∧
  ∀ H', Kp a H H' → CrAt K CC H' a 0 0 1 1 ["-"] → Q .non H'
section
variable {P : Program} {w : World} {K : PySem.W.Frag} {mg : Str → Option Value} {base : Heap} {CC CL : Addr} {C : Ix → Addr}
abbrev s_spc : Stmt := topS 30
theorem sc_spc : FnScope ["parts", "part"] ["parts"] (defScope s_spc) := ⟨rfl, rfl, rfl, by decide +kernel, rfl, by decide +kernel, by decide +kernel⟩
theorem ok_spc {f : Addr} {fd : FuncData} {k : Nat} (F : Fun K "_spaced" "_spaced" s_spc f fd) (T : Bt mg) : FnOk P w K mg base CX0 (k + 1) f fd ["parts"] (spSpc K) := by
  refine F.ok sc_spc (fun vs H Q E h => ?_) (fun cdv A outer s H vs Q E hr h => ?_)
  · obtain ⟨a, xs, ts, rfl, _⟩ := h
    rfl
  · obtain ⟨a, xs, ts, rfl, ha, hx, h9, hz, q⟩ := h
    refine ⟨_, (pss_one (ps_ret (pe_join pe_str (pe_lc (own := [("part", 1)]) (tt := tYes) (by rfl) sc_spc.nd (pi_sq (pv 0)) (blkOk_by (N := ["parts", "part"]) (sc := defScope s_spc) (own := [("part", 1)]) (by decide +kernel)) (fun _ _ _ _ _ => pg_name (i := 1) sc_spc.nd rfl (Or.inl rfl)) (fun _ _ _ _ _ => pts_nil) (fun _ _ _ _ _ => (pe_callTy call_strS (by rfl) T.n_str (by decide +kernel) (pa_cons (pv 1) pa_nil))))))), ?_⟩
    refine ⟨⟨_, rfl⟩, _, rfl, a, xs, rfl, ha, fun it hit D hD => ?_⟩
    refine lc_sq hit (PvL H D ts (fun _ => true) V.str) (PvL.start hD) (fun i H p => p.sm) ?_ ?_
    · rintro i x H2 hx2 p
      obtain ⟨t, ht, hs⟩ := hx.ix hx2
      exact ⟨rfl, _, rfl, _, t, rfl, hs, p.yes hD (Sm.refl _) ht rfl rfl h9⟩
    · intro H2 p
      refine ⟨_, D, ts, rfl, rfl, .inl (.inl (.inl ?_)), ?_, q H2 p.sm⟩
      · rw [p.fin hx.len, List.filter_eq_self.mpr (fun _ _ => rfl)]
      · rw [show (Str.ofString " ").length = 1 from rfl, Nat.mul_one]
        exact hz
abbrev s_cstr : Stmt := inC (topS 15) 22
theorem sc_cstr : FnScope ["self"] ["self"] (defScope s_cstr) := ⟨rfl, rfl, rfl, by decide +kernel, rfl, by decide +kernel, by decide +kernel⟩
theorem ok_cstr {f : Addr} {fd : FuncData} (F : Fun K "__str__" "Crowds.__str__" s_cstr f fd) (c : CrC K CC) (Cs : Cal P w K mg base 1 "_spaced" (spSpc K) []) : FnOk P w K mg base CX0 2 f fd ["self"] (spCrS (wdOf K CC C)) := by
  refine F.ok sc_cstr (fun vs H Q E h => ?_) (fun cdv A outer s H vs Q E hr h => ?_)
  · obtain ⟨b, t, rfl, _⟩ := h
    rfl
  · obtain ⟨b, t, rfl, ⟨x, y, p, q, rows, ⟨dx, ts, tp, tl, hb, h1, h2, h3⟩, ok, rfl⟩, qq⟩ := h
    have two : ∀ {i j : Int}, (tI i).length + (tI j).length ≤ 100000 → ([tI i, tI j].map (·.length)).sum + [tI i, tI j].length ≤ 16777216 := fun {i j} h => by
      simp only [List.map_cons, List.map_nil, List.sum_cons, List.sum_nil, List.length_cons, List.length_nil]
      omega
    have e1 : (Str.ofString "[").length = 1 := rfl
    have e2 : (Str.ofString " ").length = 1 := rfl
    have e3 : (Str.ofString ": ").length = 2 := rfl
    have e4 : (Str.ofString "]").length = 1 := rfl
    have c1 := ok.c1
    have c2 := ok.c2
    have c3 := ok.c3
    have big : ∀ {n : Nat}, n ≤ 2000000 → n ≤ sizeLine := fun h => Nat.le_trans h (by decide)
    refine ⟨_, (pss_one (ps_ret (pe_joined (.cons pe_str (.cons (pe_fmt (pe_c Cs hr (by decide) (by rfl) (pa_cons (pe_fld (pv 0) rfl) pa_nil))) (.cons pe_str (.cons (pe_fmt (pe_c Cs hr (by decide) (by rfl) (pa_cons (pe_fld (pv 0) rfl) pa_nil))) (.cons pe_str (.cons (pe_fmt (pe_c Cs hr (by decide) (by rfl) (pa_cons (pe_fld (pv 0) rfl) pa_nil))) (.cons pe_str .nil)))))))))), ?_⟩
    refine ⟨_, rfl, big (by simp only [str_len, emp_len, e1]; omega), ?_⟩
    refine ⟨_, rfl, b, _, dx, _, _, rfl, hb, c.ic.c, c.n1, rfl, ts, _, [tI x, tI y], rfl, .inr (.inl (.inl h1)), .cons (.int ok.lx) (.cons (.int ok.ly) .nil), by show 2 ≤ 900; decide, two ok.s1, fun H1 s1 => .inl ⟨_, rfl, big (by omega), _, rfl, big (by simp only [str_len, emp_len, e1]; omega), ?_⟩⟩
    refine ⟨_, rfl, big (by simp only [str_len, emp_len, e1, e2]; omega), ?_⟩
    refine ⟨_, rfl, b, _, dx, _, _, rfl, s1 _ _ hb, c.ic.c, c.n2, rfl, tp, _, [tI p, tI q], rfl, .inr (.inl (.inl (s1 _ _ h2))), .cons (.int ok.lp) (.cons (.int ok.lq) .nil), by show 2 ≤ 900; decide, two ok.s2, fun H2 s2 => .inl ⟨_, rfl, big (by omega), _, rfl, big (by simp only [str_len, emp_len, e1, e2]; omega), ?_⟩⟩
    refine ⟨_, rfl, big (by simp only [str_len, emp_len, e1, e2, e3]; omega), ?_⟩
    refine ⟨_, rfl, b, _, dx, _, _, rfl, s2 _ _ (s1 _ _ hb), c.ic.c, c.n3, rfl, tl, _, rows, rfl, .inr ((s1.trans s2).tup h3), shs_strs rows, ok.n, ok.sm, fun H3 s3 => .inl ⟨_, rfl, big (by omega), _, rfl, big (by simp only [str_len, emp_len, e1, e2, e3]; omega), ?_⟩⟩
    exact ⟨_, rfl, big (by simp only [str_len, emp_len, e1, e2, e3, e4]; omega), qq H3 ((s1.trans s2).trans s3)⟩
end
end Z
set_option Elab.async false
set_option linter.all false
set_option maxRecDepth 100000
set_option maxHeartbeats 4000000
set_option autoImplicit false
/-! The empty set made. -/
namespace Z
open PySem PySem.Spec PyProof.Rows L2
open C8 (Cal pe_c Mak pe_mk Met pe_mt pe_mt0 pe_gc)
def mn : Str := Str.ofString "-"
theorem sg_mn : SgR [mn] 1 where
  n := by decide
  w9 := by decide
  len := fun t h => by rw [List.mem_singleton.mp h]; rfl
  sum := by decide
  jl := Nat.le_trans (show _ ≤ 1 by decide +kernel) (by decide)
  st := by decide +kernel
theorem sqt_put {K : PySem.W.Frag} {H : Hp} {a t C dx : Addr} {xs : List V} {fs gs : List (Str × V)} (h : SqT K H t xs) (ha : H a = some (.ins C dx fs)) : SqT K (upd H a (.ins C dx gs)) t xs := by
  rcases h with h | h
  · have ne : t ≠ a := fun z => by
      rw [z] at h
      rcases h with h | ⟨o, h⟩ <;> rw [ha] at h <;> cases h
    rcases h with h | ⟨o, h⟩
    · exact .inl (.inl (by rw [upd_ne ne]; exact h))
    · exact .inl (.inr ⟨o, by rw [upd_ne ne]; exact h⟩)
  · exact .inr h
section
variable {P : Program} {w : World} {K : PySem.W.Frag} {mg : Str → Option Value} {base : Heap} {CC CL : Addr} {C : Ix → Addr}
abbrev s_cini : Stmt := inC (topS 15) 0
abbrev n_cini : List Str := ["self", "starts", "periods", "rows", "row"]
abbrev p_cini : List Str := ["self", "starts", "periods", "rows"]
theorem sc_cini : FnScope n_cini p_cini (defScope s_cini) := ⟨rfl, rfl, rfl, by decide +kernel, rfl, by decide +kernel, by decide +kernel⟩
theorem ok_cini {f : Addr} {fd : FuncData} (F : Fun K "__init__" "Crowds.__init__" s_cini f fd) (T : Bt mg) (c : CrC K CC)
    (Ck : Cal P w K mg base 3 "_check_table" (spCkT K) []) : FnOk P w K mg base CX0 4 f fd p_cini (spNil K CC) := by
  refine F.ok sc_cini (fun vs H Q E h => ?_) (fun cdv A outer s H vs Q E hr h => ?_)
  · obtain ⟨a, s, p, r, dx, rfl, _⟩ := h
    rfl
  · obtain ⟨a, s, p, r, dx, rfl, ha, hs, hp, hrw, q⟩ := h
    refine ⟨_, (pss_cons (ps_expr (pe_c Ck hr (by decide) (by rfl) (pa_cons (pv 1) (pa_cons (pv 2) (pa_cons (pv 3) pa_nil)))))
      (pss_cons (ps_if ((pw_or (pt_cmpR op_gt (pe_callB call_len_seq (by rfl) T.n_len (by decide +kernel) (pa_cons (pv 3) pa_nil)) pe_int (nomark _)) (pw_or1 (pt_cmpR op_gt (pe_callB call_len_str (by rfl) T.n_len (by decide +kernel) (pa_cons (pe_ix ix_seq (pv 3) pe_int (fun _ _ => rfl)) pa_nil)) pe_int (nomark _))))).pt
        (pss_one ps_no)
        pss_nil)
      (pss_cons (ps_fld (pv 0) (pe_callTy call_tuple_of (by rfl) T.n_tuple (by decide +kernel) (pa_cons (pv 1) pa_nil)) rfl)
      (pss_cons (ps_fld (pv 0) (pe_callTy call_tuple_of (by rfl) T.n_tuple (by decide +kernel) (pa_cons (pv 2) pa_nil)) rfl)
      (pss_one (ps_fld (pv 0) (pe_callTy call_tuple_of (by rfl) T.n_tuple (by decide +kernel) (pa_cons (pv 3) pa_nil)) rfl)))))), ?_⟩
    have hS : SqT K H s [V.int ((0 : Nat) : Int), V.int ((0 : Nat) : Int)] := .inl (.inl hs)
    have hP : SqT K H p [V.int ((1 : Nat) : Int), V.int ((1 : Nat) : Int)] := .inl (.inl hp)
    have hR : SqT K H r ([mn].map V.str) := .inl (.inl hrw)
    refine ⟨_, rfl, _, rfl, _, rfl, s, p, r, 0, 0, 1, 1, [mn], rfl, hS, hP, .inr hR, by decide, by decide, rfl, sg_mn, fun H1 s1 => ?_⟩
    have hR1 := s1.tup hR
    refine ⟨_, rfl, r, _, rfl, .inr hR1, _, _, rfl, rfl, _, rfl, ?_⟩
    refine ⟨_, rfl, ix_sqa (j := 0) (.inr hR1) rfl rfl ⟨mn, rfl, by decide, _, _, rfl, rfl, _, rfl, ?_⟩⟩
    have ha1 := s1 _ _ ha
    refine ⟨_, rfl, s, _, rfl, .inr ⟨s1.tup hS, _, rfl, a, CC, dx, [], rfl, ha1, c.ic.c, c.n1, (by show 0 < 1000; decide), ?_⟩⟩
    refine ⟨_, rfl, p, _, rfl, .inr ⟨sqt_put (s1.tup hP) ha1, _, rfl, a, CC, dx, _, rfl, upd_same, c.ic.c, c.n2, (by show 1 < 1000; decide), ?_⟩⟩
    refine ⟨_, rfl, r, _, rfl, .inr ⟨sqt_put (sqt_put (s1.tup hR) ha1) upd_same, _, rfl, a, CC, dx, _, rfl, upd_same, c.ic.c, c.n3, (by show 2 < 1000; decide), ?_⟩⟩
    have kp : Kp a H1 (upd (upd (upd H1 a (.ins CC dx (putF "starts" (.ref s) []))) a (.ins CC dx (putF "periods" (.ref p) (putF "starts" (.ref s) [])))) a (.ins CC dx (putF "rows" (.ref r) (putF "periods" (.ref p) (putF "starts" (.ref s) []))))) := (Kp.of (Sm.refl _)).put.put.put
    have ns : s ≠ a := fun e => by rw [e, ha] at hs; cases hs
    have np : p ≠ a := fun e => by rw [e, ha] at hp; cases hp
    have nr : r ≠ a := fun e => by rw [e, ha] at hrw; cases hrw
    exact q _ (fun b o hb h => kp b o hb (s1 b o h)) ⟨dx, s, p, r, upd_same, kp _ _ ns (s1 _ _ hs), kp _ _ np (s1 _ _ hp), .inl (.inl (kp _ _ nr (s1 _ _ hrw)))⟩
def spNo (K : PySem.W.Frag) (CC : Addr) : Sp := fun vs H Q _ => vs = [.ref CC] ∧ ∀ H' b, Sm H H' → CrAt K CC H' b 0 0 1 1 ["-"] → Q (.ref b) H'
abbrev s_cno : Stmt := inC (topS 15) 1
theorem sc_cno : FnScope ["cls"] ["cls"] (defScope s_cno) := ⟨rfl, rfl, rfl, by decide +kernel, rfl, by decide +kernel, by decide +kernel⟩
theorem ok_cno {f fC : Addr} {fd fdC : FuncData} (F : Fun K "nothing" "Crowds.nothing" s_cno f fd) (M : Mk K CC fC) (FC : FnOk P w K mg base CX0 4 fC fdC p_cini (spNil K CC)) (bC : Binds K fdC p_cini []) : FnOk P w K mg base CX0 6 f fd ["cls"] (spNo K CC) := by
  refine F.ok sc_cno (fun vs H Q E h => ?_) (fun cdv A outer s H vs Q E hr h => ?_)
  · obtain ⟨rfl, _⟩ := h
    rfl
  · obtain ⟨rfl, q⟩ := h
    refine ⟨_, (pss_one (ps_ret (pe_makeL (i := 0) M FC hr rfl (Or.inl rfl) bC .nil pass0 (pa_cons (pe_tup (pa_cons pe_int (pa_cons pe_int pa_nil))) (pa_cons (pe_tup (pa_cons pe_int (pa_cons pe_int pa_nil))) (pa_cons (pe_tup (pa_cons pe_str pa_nil)) pa_nil)))))), ?_⟩
    refine ⟨rfl, (by show 2 ≤ sizeLine; decide), fun s1 h1 => ⟨(by show 2 ≤ sizeLine; decide), fun p1 hp1 => ⟨(by show 1 ≤ sizeLine; decide), fun r1 hr1 x dx nx nd ne => ?_⟩⟩⟩
    have k : Sm (upd (upd (upd H s1 (.tup [.int 0, .int 0])) p1 (.tup [.int 1, .int 1])) r1 (.tup [.str "-"])) (upd (upd (upd (upd (upd H s1 (.tup [.int 0, .int 0])) p1 (.tup [.int 1, .int 1])) r1 (.tup [.str "-"])) dx (.own x)) x (.ins CC dx [])) := (Sm.new nd).trans (Sm.new (by rw [upd_ne (Ne.symm ne)]; exact nx))
    have k3 : Sm H (upd (upd (upd H s1 (.tup [.int 0, .int 0])) p1 (.tup [.int 1, .int 1])) r1 (.tup [.str "-"])) := ((Sm.new h1).trans (Sm.new hp1)).trans (Sm.new hr1)
    refine ⟨x, s1, p1, r1, dx, rfl, upd_same, k _ _ (Sm.new hr1 _ _ (Sm.new hp1 _ _ upd_same)), k _ _ (Sm.new hr1 _ _ upd_same), k _ _ upd_same, fun H' kp at_ => ⟨rfl, q H' x ?_ at_⟩⟩
    exact fun b o hb => kp b o (fun e => by rw [e] at hb; have := k3 _ _ hb; rw [nx] at this; cases this) (k _ _ (k3 _ _ hb))
end
end Z
set_option Elab.async false
set_option linter.all false
set_option maxRecDepth 100000
set_option maxHeartbeats 4000000
set_option autoImplicit false
/-! In an except suite: isinstance of the held error, with its own dict; making an instance in a try; no error leaves. -/
namespace L2
open PySem PySem.Spec PyProof.Rows
def rIsX (K : PySem.W.Frag) (a : Addr) (cls : Value) (d : Option Addr) (D : Addr) : List V → Hp → VK → Prop := fun xs H Q => cls = .ref D ∧ ∃ (dd : Addr) (fs : List (Str × V)) (c : V) (cv : Value) (b : Bool),
  d = some dd ∧ H dd = some (.xd fs) ∧ xs = [.ref a, c] ∧ (∀ u, RelV c u → u = cv) ∧ PySem.W.kitOne K (.ref D) cv = some b ∧ Q (.bl b) H
theorem call_isX {X : Cx} {a D : Addr} {cls : Value} {d : Option Addr} {oe : Obj} {pn : List (Addr × Obj)} (C : ExcC X.K D) (hz : Zc cls d oe) (hf : ∃ vs, oe.data = .fields vs) :
    CallR (X.suite a ((a, oe) :: pn)) (.builtin "isinstance") (rIsX X.K a cls d D) := by
  intro pins s σ H xs us Q I r h
  obtain ⟨rfl, dd, fs, c, cv, b, rfl, ea, rfl, hcv, e, q⟩ := h
  obtain ⟨u1, u2, rfl, r1, r2⟩ := vals2 r
  obtain rfl : u1 = Value.ref a := r1
  obtain rfl := hcv _ r2
  obtain ⟨hget, _⟩ := I.pin (a, oe) (List.mem_append_left _ List.mem_cons_self)
  obtain ⟨vs, hd⟩ := hf
  obtain ⟨mA, hns, hr⟩ := (show ObjOk X.prog X.w H s.heap dd (.xd fs) from I.hok dd _ ea)
  obtain ⟨od, ho, hl⟩ := lookIn_ns hns
  obtain ⟨cd, hc, _⟩ := PySem.W.any_some C.hd
  have hcl : (PySem.W.clsIn X.K D).isSome = true := by rw [hc]; rfl
  have J : PySem.W.InstAt s.heap a oe D (some od) := ⟨hget, hz.1, by unfold PySem.W.notCls; rw [hd] <;> rfl, by rw [hz.2]; exact ho⟩
  exact PySem.W.kia_one (PySem.W.kitx_exc hcl C.hg C.hk C.hs C.ha C.hn C.ht C.hm) I.kIn J e (fun z => nomatch z) fun tk => ⟨.bl b, H, I.kept (t' := tk) fun _ _ z => z, rfl, q⟩
/-- C(e, ..), whose __init__ may let out an error, at the slots σ -/
def tMakeS (C : Addr) (sp : Sp) (dvs : List V) (E : L2.St → XK) (t : TA) : TE := fun σ H Q => t σ H fun vs H1 => ∀ x dx, H1 x = none → H1 dx = none → dx ≠ x →
  sp (.ref x :: (vs ++ dvs)) (upd (upd H1 dx (.own x)) x (.ins C dx [])) (fun v H2 => v = .non ∧ Q (.ref x) H2) (E σ)
section
variable {X : Cx} {CX : CXT} {k : Nat} {f C : Addr} {fd : FuncData} {ps : List Str} {sp : Sp} {dvs : List V} {ds : List Value} {E : L2.St → XK} {x : Str} {p pos : Pos} {e : Expr} {es : List Expr} {t : TA}
theorem pe_makeS (M : Mk X.K C f) (F : FnOk X.prog X.w X.K X.mg X.base CX k f fd ps sp) (hr : Room (k + 1) X.A) (hg : Gl X x) (hm : X.mg x = some (.ref C)) (hb : Binds X.K fd ps ds) (hd : Vals dvs ds) (hx : ∀ σ, PassesAt CX X σ (E σ))
    (ha : PA X (e :: es) t) (hdb : (x == ("__debug__" : Str)) = false := by decide) (he : starEach (e :: es) X.env = (false, eval e X.env) :: starEach es X.env := by rfl)
    (hpl : (backTo pos (starEach es X.env)).any (·.1) = false := by rfl) : PE X (.Call (.Name x p) (e :: es) [] pos) (tMakeS C sp dvs E t) := by
  refine ⟨fun pins s σ H Q I h => ?_⟩
  refine wpAny_Call_Name_kw (ld_glob I hg hm ?_ hdb)
  refine PySem.W.callWith_K (h₀ := X.base) I.ok.mod.kin M.kp (thn (ha.run pos pins s σ H _ I h) fun us s1 ⟨vs, H1, I1, r, q⟩ => ⟨I1.kIn, ?_⟩) he hpl
  have q' := q (s1.heap.objs.size + 1) s1.heap.objs.size (I1.hok.fresh (Nat.le_succ _)) (I1.hok.fresh (Nat.le_refl _)) (Nat.ne_of_lt (Nat.lt_succ_self _))
  have J := Inv.made (C := C) I1
  have rv : Vals (V.ref (s1.heap.objs.size + 1) :: (vs ++ dvs)) (Value.ref (s1.heap.objs.size + 1) :: (us ++ ds)) := .cons rfl (r.append hd)
  have len : (Value.ref (s1.heap.objs.size + 1) :: us ++ ds).length = ps.length := by
    rw [← F.len _ _ _ _ q']
    exact rv.length.symm
  have bnd := hb _ (Value.ref (s1.heap.objs.size + 1) :: us) J.kIn len
  have run := F.run (X.A.under (.builtin "type.__call__" ⟨.ref C :: us, []⟩)) X.stack _ _ ⟨Value.ref (s1.heap.objs.size + 1) :: us, []⟩ (Value.ref (s1.heap.objs.size + 1) :: us ++ ds) _ _ (E σ)
    (hr.make C us []) (J.env0.make C us []) bnd rv q'
  refine wpAny_call (make_map (f := f) I1.kIn M.makes M.init (beq_iff_eq.mp M.fn) (codeAny_mono run fun r s' hq => ?_))
  cases r with
  | error er => exact hx σ pins _ _ er s' J hq
  | ok fl =>
    cases fl with
    | ret u =>
      obtain ⟨v, H', I3, ru, ev, q3⟩ := J.after hq
      subst ev
      exact ⟨ru, ⟨V.ref (s1.heap.objs.size + 1), H', I3, rfl, q3⟩⟩
    | next => exact False.elim hq
    | brk => exact False.elim hq
    | cont => exact False.elim hq
end
theorem passF {X : Cx} : Passes (L2.CX X.prog X.w) X E0 := fun pins σ H s e s' I c => passAt takes0 σ pins H s e s' I c
end L2
set_option Elab.async false
set_option linter.all false
set_option maxRecDepth 100000
set_option maxHeartbeats 4000000
set_option autoImplicit false
/-! isinstance of a held error with a tuple of classes that was just laid. -/
namespace L2
open PySem PySem.Spec PyProof.Rows
def rIsXT (K : PySem.W.Frag) (a : Addr) (cls : Value) (d : Option Addr) (D : Addr) : List V → Hp → VK → Prop := fun xs H Q => cls = .ref D ∧ ∃ (dd : Addr) (fs : List (Str × V)) (tp : Addr) (cs : List V) (us : List Value) (b : Bool),
  d = some dd ∧ H dd = some (.xd fs) ∧ xs = [.ref a, .ref tp] ∧ H tp = some (.tup cs) ∧ Paired ClsV cs us ∧ PySem.W.kitAny K (.ref D) us = some b ∧ Q (.bl b) H
theorem call_isXT {X : Cx} {a D : Addr} {cls : Value} {d : Option Addr} {oe : Obj} {pn : List (Addr × Obj)} (C : ExcC X.K D) (hz : Zc cls d oe) (hf : ∃ vs, oe.data = .fields vs) :
    CallR (X.suite a ((a, oe) :: pn)) (.builtin "isinstance") (rIsXT X.K a cls d D) := by
  intro pins s σ H xs us Q I r h
  obtain ⟨rfl, dd, fs, tp, cs, cvs, b, rfl, ea, rfl, htp, hcv, e, q⟩ := h
  obtain ⟨u1, u2, rfl, r1, r2⟩ := vals2 r
  obtain rfl : u1 = Value.ref a := r1
  obtain rfl : u2 = Value.ref tp := r2
  obtain ⟨hget, _⟩ := I.pin (a, oe) (List.mem_append_left _ List.mem_cons_self)
  obtain ⟨vs, hd⟩ := hf
  obtain ⟨mA, hns, hr⟩ := (show ObjOk X.prog X.w H s.heap dd (.xd fs) from I.hok dd _ ea)
  obtain ⟨od, ho, hl⟩ := lookIn_ns hns
  obtain ⟨cd, hc, _⟩ := PySem.W.any_some C.hd
  have hcl : (PySem.W.clsIn X.K D).isSome = true := by rw [hc]; rfl
  have J : PySem.W.InstAt s.heap a oe D (some od) := ⟨hget, hz.1, by unfold PySem.W.notCls; rw [hd] <;> rfl, by rw [hz.2]; exact ho⟩
  obtain ⟨_, its, rv, o, h1, h2, n, h3⟩ := (show ObjOk X.prog X.w H s.heap tp (.tup cs) from I.hok tp _ htp)
  have e3 := ClsV.all hcv rv
  subst e3
  obtain ⟨oc, odd, dt, sl⟩ := o
  simp only at h2 h3
  subst h2 h3
  exact PySem.W.kia_tup (PySem.W.kitx_exc hcl C.hg C.hk C.hs C.ha C.hn C.ht C.hm) I.kIn J h1 e (fun z => nomatch z) fun tk => ⟨.bl b, H, I.kept (t' := tk) fun _ _ z => z, rfl, q⟩
end L2
namespace Z
open PySem PySem.Spec PyProof.Rows L2
def rNotInT (K : PySem.W.Frag) : R2 := fun x y H Q => ∃ d ds, Dp K H x d ∧ Dp K H y (.tuple ds) ∧ SeqAt.shaped d = true ∧ SeqAt.shaped (.tuple ds) = true ∧ Q (.bl (!ds.any fun z => PyData.eqv z d)) H
theorem op_notInT {X : Cx} (hu : X.A.units + 65 < cLine) : OpR X (compareOp .NotIn) (rNotInT X.K) := by
  intro pins s σ H x y v u Q I rx ry h
  obtain ⟨d, ds, hd, he, sd, se, q⟩ := h
  obtain ⟨as, r1⟩ := Dp.reads I d x v hd rx
  obtain ⟨bs, r2⟩ := Dp.reads I (.tuple ds) y u he ry
  exact SeqAt.notIn_tuple_reads r2 r1 (SeqAt.canLay_of_shaped se) (SeqAt.canLay_of_shaped sd) (room_in_shaped sd hu) ⟨.bl _, H, I, rfl, q⟩
end Z
set_option Elab.async false
set_option linter.all false
set_option maxRecDepth 100000
set_option maxHeartbeats 4000000
set_option autoImplicit false
/-! What is heard when a saying is made of things. -/
namespace Z
open PySem PySem.Spec PyProof.Rows L2
open C8 (Cal pe_c Mak pe_mk Met pe_mt pe_mt0 pe_gc)
def strO : PyData → Option Str
  | .str y => some y
  | _ => none
def intO : PyData → Option Int
  | .int n => some n
  | _ => none
theorem txt_dp {K : PySem.W.Frag} {H : Hp} {v : V} {d : PyData} (h : Dp K H v d) : TxtA K H v (strO d) :=
  ⟨tyD d, isStrD d, dp_ty h, kit_str h, fun e => (by cases h <;> (first | exact ⟨_, rfl, rfl⟩ | cases e)), fun e => (by cases h <;> (first | rfl | cases e))⟩
theorem num_dp {K : PySem.W.Frag} {H : Hp} {v : V} {d : PyData} (h : Dp K H v d) : NumA K H v (intO d) :=
  ⟨tyD d, isIntD d || isBlD d, isBlD d, dp_ty h, kit_int h, kit_bool h, fun e => (by cases h <;> (first | exact ⟨_, rfl, rfl⟩ | cases e)), fun e => (by cases h <;> (first | rfl | cases e))⟩
def sure0 : Sy := .neg (.sur "plain")
/-- what is said of the thing that is handed in as crowds or as a saying -/
structure ThA (K : PySem.W.Frag) (W : Wd) (CC CS : Addr) (H : Hp) (v : V) (cr sy : Bool) : Prop where
  c : InsA K H CC v cr
  s : InsA K H CS v sy
  cr : cr = true → ∃ p, v = .ref p ∧ W.Cr H p (crT 0 0 1 1 ["-"])
  sy : sy = true → ∃ p, v = .ref p ∧ IsSy W H sure0 p
theorem ThA.sm {K : PySem.W.Frag} {W : Wd} {CC CS : Addr} {H H' : Hp} {v : V} {cr sy : Bool} (h : ThA K W CC CS H v cr sy) (e : Sm H H') : ThA K W CC CS H' v cr sy :=
  ⟨h.c.sm e, h.s.sm e, fun z => let ⟨p, a, b⟩ := h.cr z; ⟨p, a, W.mono b e⟩, fun z => let ⟨p, a, b⟩ := h.sy z; ⟨p, a, b.sm e⟩⟩
def KD : List PyData := [.str "marked", .str "plain", .str "marked", .str "plain", .str "Marked", .str "", .none, .int 0, .tuple [.str "marked"], .bool true]
def ND : List PyData := [.int 0, .int 3, .int 6, .int (-1), .bool true, .none, .str "1"]
def thL (form : Nat) (vk v1 v2 vg : V) : List V := match form with
  | 0 => [vk, v1]
  | 1 => [vk, v1, v2]
  | 2 => [vg]
  | 3 => [vk]
  | _ => [vk, vg]
def ans (form : Nat) (dk n1 n2 : PyData) (cr sy : Bool) : Str := match form with
  | 0 => (badA (strO dk) (intO n1)).getD "made"
  | 1 => (badR (strO dk) (intO n1) (intO n2)).getD "made"
  | 2 => if cr = true then "made" else "crowds"
  | 3 => if isKd (strO dk) = true then "made" else "kind"
  | 4 => (badK (strO dk) sy).getD "made"
  | _ => if sy = true then "made" else "saying"
theorem mem_sum {t : Str} : ∀ {l : List Str}, t ∈ l → t.length ≤ (l.map (·.length)).sum
  | x :: r, h => by
    rw [List.map_cons, List.sum_cons]
    rcases List.mem_cons.mp h with e | h
    · rw [e]; omega
    · have := mem_sum h
      omega
structure Mad (s : Sy) : Prop where
  ft : s.fit
  w : s.wt ≤ 100000
  z : (s.lvs.map (·.length)).sum ≤ 16777216
  ne : decide (V.str s.txt = V.str "") = false
theorem mad_of {s : Sy} {t : Str} (ft : s.fit) (w : s.wt ≤ 100000) (z : (s.lvs.map (·.length)).sum ≤ 16777216) (ht : t ∈ s.lvs) (hl : 0 < t.length) : Mad s :=
  ⟨ft, w, z, decide_eq_false fun e => by
    have h := len_join_ge_sum Str.empty s.lvs
    have h2 := mem_sum ht
    have e2 : s.txt = Str.ofString "" := V.str.inj e
    have e3 : (Txt.join Str.empty s.lvs).length = 0 := by
      show s.txt.length = 0
      rw [e2]
      rfl
    omega⟩
theorem kd_len {k : Str} (h : isKd (some k) = true) : k.length ≤ 100 ∧ 0 < k.length := by
  have e : k = "marked" ∨ k = "plain" := by
    have z : inV (.str k) kinds = true := h
    unfold inV kinds at z
    simp only [List.any_cons, List.any_nil, Bool.or_false, Bool.or_eq_true, eqV] at z
    rcases z with z | z
    · exact .inl (by simpa using z : _ = k).symm
    · exact .inr (by simpa using z : _ = k).symm
  rcases e with rfl | rfl <;> exact ⟨by decide +kernel, by decide +kernel⟩
theorem nd_ok {d : PyData} {m : Int} (h : d ∈ ND) (e : intO d = some m) (h0 : 0 ≤ m) : Sy.okN m := by
  have z : m = 0 ∨ m = 3 ∨ m = 6 := by
    simp only [ND, List.mem_cons, List.not_mem_nil, or_false] at h
    rcases h with rfl | rfl | rfl | rfl | rfl | rfl | rfl <;> simp [intO] at e <;> omega
  rcases z with rfl | rfl | rfl <;> exact ⟨by decide +kernel, by decide +kernel⟩
theorem mad_atl {k : Str} {m : Int} (hk : k.length ≤ 100 ∧ 0 < k.length) (hm : Sy.okN m) : Mad (.atl k m) := by
  have e1 : (Str.ofString " >= ").length = 4 := by decide +kernel
  have h2 := hm.2
  have hl : (Sy.tAtl k m).length ≤ 2000 ∧ 0 < (Sy.tAtl k m).length := by
    simp only [Sy.tAtl, str_len, emp_len]
    omega
  exact mad_of (t := Sy.tAtl k m) ⟨hk.1, hm⟩ (by simp [Sy.wt]) (by simp only [Sy.lvs, List.map_cons, List.map_nil, List.sum_cons, List.sum_nil]; omega) (by simp [Sy.lvs]) hl.2
theorem mad_rst {k : Str} {m l : Int} (hk : k.length ≤ 100 ∧ 0 < k.length) (hm : Sy.okN m) (hl' : Sy.okN l) : Mad (.rst k m l) := by
  have e1 : (Str.ofString " by ").length = 4 := by decide +kernel
  have e2 : (Str.ofString " leaves ").length = 8 := by decide +kernel
  have h2 := hm.2
  have h3 := hl'.2
  have hl : (Sy.tRst k m l).length ≤ 4000 ∧ 0 < (Sy.tRst k m l).length := by
    simp only [Sy.tRst, str_len, emp_len]
    omega
  exact mad_of (t := Sy.tRst k m l) ⟨hk.1, hm, hl'⟩ (by simp [Sy.wt]) (by simp only [Sy.lvs, List.map_cons, List.map_nil, List.sum_cons, List.sum_nil]; omega) (by simp [Sy.lvs]) hl.2
theorem mad_sur {k : Str} (hk : k.length ≤ 100 ∧ 0 < k.length) : Mad (.sur k) := by
  have e1 : (Str.ofString "sure ").length = 5 := by decide +kernel
  have hl : (Sy.tSur k).length ≤ 2000 ∧ 0 < (Sy.tSur k).length := by
    simp only [Sy.tSur, str_len, emp_len]
    omega
  exact mad_of (t := Sy.tSur k) hk.1 (by simp [Sy.wt]) (by simp only [Sy.lvs, List.map_cons, List.map_nil, List.sum_cons, List.sum_nil]; omega) (by simp [Sy.lvs]) hl.2
theorem mad_fct : Mad (.fct (crT 0 0 1 1 ["-"])) := mad_of (t := crT 0 0 1 1 ["-"]) trivial (by decide) (by decide +kernel) (by simp [Sy.lvs]) (by decide +kernel)
theorem mad_kno {k : Str} (hk : k.length ≤ 100 ∧ 0 < k.length) : Mad (.kno k sure0) := by
  have e1 : (Str.ofString "knows ").length = 6 := by decide +kernel
  have e2 : (Str.ofString " (").length = 2 := by decide +kernel
  have e3 : (sure0.lvs.map (·.length)).sum = 13 := by decide +kernel
  have e4 : (Str.ofString ")").length = 1 := by decide +kernel
  have hl : (Sy.tKno k).length ≤ 2000 ∧ 0 < (Sy.tKno k).length := by
    simp only [Sy.tKno, str_len, emp_len]
    omega
  refine mad_of (t := Sy.tKno k) ⟨hk.1, by show (Str.ofString "plain").length ≤ 100; decide +kernel⟩ (by show 8 ≤ 100000; decide) ?_ (by simp [Sy.lvs]) hl.2
  simp only [Sy.lvs, List.map_cons, List.map_append, List.map_nil, List.sum_cons, List.sum_append, List.sum_nil]
  simp only [Sy.lvs, sure0, List.map_cons, List.map_append, List.map_nil, List.sum_cons, List.sum_append, List.sum_nil] at e3 ⊢
  omega
theorem mad_com : Mad (.com sure0) := mad_of (t := "common (") (by show (Str.ofString "plain").length ≤ 100; decide +kernel) (by decide) (by decide +kernel) (by simp [Sy.lvs]) (by decide +kernel)
end Z
set_option Elab.async false
set_option linter.all false
set_option maxRecDepth 100000
set_option maxHeartbeats 4000000
set_option autoImplicit false
/-! A law whose body asks repr: its end, where it is known that no repr is under way. -/
namespace L2
open PySem PySem.Spec PyProof.Rows
/-- a def's promise where no display is under way -/
structure FnG (P : Program) (w : World) (K : PySem.W.Frag) (mg : Str → Option Value) (base : Heap) (k : Nat) (f : Addr) (fd : FuncData) (ps : List Str) (sp : Sp) : Prop where
  run : ∀ (A : Around) (outer : List Env) (s : Shared) (H : Hp) (args : Args) (us : List Value) (vs : List V) (Q : VK), A.guards = some [] → Room k A →
    Env0 P w K mg base A outer s H → BindsTo s fd args (ps.zip us) → Vals vs us → sp vs H Q (fun _ _ _ => False) →
    codeAny (model P w) A (.call (.ref f) args) (CR CX0 outer P w H s Q (fun _ _ _ => False)) s
section
variable {P : Program} {w : World} {K : PySem.W.Frag} {mg : Str → Option Value} {base : Heap}
theorem Fun.okG {x qual : Str} {st : Stmt} {f : Addr} {fd : FuncData} {N ps : List Str} {k : Nat} {sp : Sp} (F : Fun K x qual st f fd)
    (S : FnScope N ps (defScope st)) (len : ∀ vs H Q E, sp vs H Q E → vs.length = ps.length)
    (hbody : ∀ (cdv : Value) (A : Around) (outer : List Env) (s : Shared) (H : Hp) (vs : List V) (Q : VK) (E : XK), A.guards = some [] →
      Room k (A.deeper (envOfC qual (defScope st) s.heap.objs.size f cdv)) → sp vs H Q E →
      ∃ t, PSs (cxOf CX0 P w K mg base N qual (defScope st) f cdv A outer s H E).nox (defBody st) t ∧
        t { nx := fun _ H' => Q .non H', rt := Q } (start N vs) H) : FnG P w K mg base (k + 1) f fd ps sp := by
  obtain ⟨oc, od, kV, doc, pm, an, cdv, ct, osl, rfl, lk, hcd⟩ := F.ex
  refine ⟨fun A outer s H args us vs Q gd hr e0 hb r hsp => ?_⟩
  have hl := len _ _ _ _ hsp
  have inK : K.In s.heap := e0.mod.kin.keeps fun b o e => (e0.bs b o e).1
  have nl : s.heap.NoLimit := e0.mod.nolimit.keeps fun b o e => (e0.bs b o e).1
  have kinds : ∀ y ∈ ps.zip us, (defScope st).names.lookup y.1 = some .local ∨
      ((defScope st).names.lookup y.1 = some .cell ∧ ((cellsFrom (s.heap.objs.size + 1) (defScope st).names []).lookup y.1).isSome = true) := by
    rintro ⟨n, v⟩ hy
    cases S.par n (List.of_mem_zip hy).1 with
    | inl q => exact .inl q
    | inr q => exact .inr ⟨q, PySem.W.cellsFrom_some _ _ _ (.inl q)⟩
  refine codeAny_call_function hr.depth (inK _ _ lk) rfl S.co S.gen rfl (PySem.W.codeRec_of inK hcd) (hb _ _ _ _ ?_)
  refine wpAny_newFunctionEnv_cells S.kind kinds fun env he s1 x => ?_
  subst he
  refine ⟨nl.keeps x.toInCall.keep, codeAny_func ?_⟩
  obtain ⟨t, ht0, hq⟩ := hbody cdv A outer s H vs Q _ gd (hr.deeper _) hsp
  have ht := ht0.nox
  have I := inv_start S hr.hd e0 hl r x (CX := CX0) (E := fun _ _ _ => False)
  refine wpAny_mono (ht.run [] s1 (start N vs) H _ I hq) (fun fl s' hs => ?_) fun e s' hs => hs
  cases fl with
  | ret u =>
    obtain ⟨v, σ', H', J, rv, q⟩ := hs
    exact ⟨v, H', J.os, J.bare, J.base, J.hok, rv, q⟩
  | next =>
    obtain ⟨σ', H', J, q⟩ := hs
    exact ⟨V.non, H', J.os, J.bare, J.base, J.hok, rfl, q⟩
  | brk =>
    obtain ⟨_, _, _, q⟩ := hs
    exact False.elim q
  | cont =>
    obtain ⟨_, _, _, q⟩ := hs
    exact False.elim q
end

/-- the heap that the call finds: nothing is tracked but perhaps the script at a -/
structure Found (P : Program) (w : World) (K : PySem.W.Frag) (s : Shared) (a : Addr) (ns : List Int) (H : Hp) : Prop where
  only : Only H
  seq : SqL K H a (ns.map V.int)
  ok : HOk P w H s.heap
  at_ : ∀ b, H b ≠ none → b = a
  out : H a ≠ none → K.lookup a = none
theorem found_ex {P : Program} {w : World} {K : PySem.W.Frag} {s : Shared} {a : Addr} {vs : List Value} {ns : List Int} (KX : K.In s.heap)
    (ha : s.heap.get? a = some { cls := .type "list", data := .seq vs.toArray }) (hi : IntsAre vs ns) (hl : ns.length ≤ sizeLine) : ∃ H, Found P w K s a ns H := by
  have rv := vals_ints hi
  have len := hi.length
  cases e : K.lookup a with
  | some o =>
    have z := KX a o e
    rw [ha] at z
    cases z
    refine ⟨fun _ => none, fun _ => .inl rfl, .inr ⟨_, vs.toArray, _, e, rfl, rfl, rfl, ?_, by simpa using rv⟩, fun b u z => ?_, fun b z => absurd rfl z, fun z => absurd rfl z⟩
    · rw [List.size_toArray, len]
      exact hl
    · exact absurd z (by simp)
  | none =>
    let o : Obj := { cls := .type "list", data := .seq vs.toArray }
    let H : Hp := fun b => if b = a then some (.frz o (.lst (ns.map V.int))) else none
    have h1 : H a = some (.frz o (.lst (ns.map V.int))) := if_pos rfl
    have h2 : ∀ {b}, b ≠ a → H b = none := fun {b} hb => if_neg hb
    refine ⟨H, fun b => ?_, .inl (.inr ⟨o, h1⟩), fun b u z => ?_, fun b z => ?_, fun _ => e⟩
    · by_cases hb : b = a
      · rw [hb]
        exact .inr ⟨_, _, h1⟩
      · exact .inl (h2 hb)
    · by_cases hb : b = a
      · subst hb
        rw [h1] at z
        cases z
        exact ⟨ha, by rw [List.length_map]; exact hl, vs, _, rv, ha⟩
      · rw [h2 hb] at z
        cases z
    · by_cases hb : b = a
      · exact hb
      · exact absurd (h2 hb) z
/-- the law is called -/
theorem law_callG {P : Program} {w : World} {K : PySem.W.Frag} {mg mb : Str → Option Value} {k : Nat} {fa a : Addr} {fd : FuncData} {x : Str} {sp : Sp} {s : Shared} {vs : List Value} {ns : List Int}
    (KX : K.In s.heap) (hns : s.heap.Ns mainGlobals mg) (hb : s.heap.Ns builtinsNs mb) (hbb : ∀ x : Str, x ≠ "__name__" → mb x = bootBuiltins x)
    (hlim : s.heap.NoLimit) (hg : s.gens = #[]) (ha : s.heap.get? a = some { cls := .type "list", data := .seq vs.toArray }) (hi : IntsAre vs ns)
    (hl : ns.length ≤ sizeLine) (hr : Room k callerA) (F : ∀ base : Heap, K.In base → base.Ns mainGlobals mg → FnG P w K mg base k fa fd [x] sp)
    (hbind : ∀ (s : Shared) (u : Value), BindsTo s fd ⟨[u], []⟩ [(x, u)])
    (hsp : ∀ H : Hp, Only H → SqL K H a (ns.map V.int) → sp [.ref a] H (fun v _ => v = .bl true) fun _ _ _ => False) :
    codeAny (model P w) callerA (.call (.ref fa) ⟨[.ref a], []⟩)
      (fun r s' => r = .ok (.ret (.bool true)) ∧ OldK s.heap s'.heap ∧ s'.os = s.os ∧ AllBare s'.gens) s := by
  obtain ⟨H, fo⟩ := found_ex (P := P) (w := w) KX ha hi hl
  have isA : ∀ {b : Addr} {u : HO}, H b = some u → b = a := fun q => fo.at_ _ (by rw [q]; simp)
  have noDict : ∀ {b : Addr} {o : Obj} {es : Array DictEntry} {ep : Nat}, s.heap.get? b = some o → o.data = .dict es ep → H b = none := by
    intro b o es ep e d
    cases q : H b with
    | none => rfl
    | some u =>
      rw [isA q, ha] at e
      cases e
      cases (show Data.seq vs.toArray _ = Data.dict es ep from d)
  have spaces : ∀ {b : Addr} {m : Str → Option Value}, s.heap.Ns b m → (hidT s.heap H).Ns b m := by
    rintro b m ⟨o, es, ep, e, d, r⟩
    exact ⟨o, es, ep, hidT_get e (noDict e d), d, r⟩
  have inB : K.In (hidT s.heap H) := by
    intro b o e
    refine hidT_get (KX b o e) ?_
    cases q : H b with
    | none => rfl
    | some u =>
      have z := isA q
      subst z
      rw [fo.out (by rw [q]; simp)] at e
      cases e
  obtain ⟨mc, l1, l2⟩ := hlim
  have hM : Mod K mg (hidT s.heap H) := ⟨inB, spaces hns, ⟨mb, spaces hb, hbb⟩, ⟨mc, spaces l1, l2⟩⟩
  have noF : ∀ {b : Addr}, b ∉ frs [] := fun {b} z => absurd (show b ∈ ([] : List Addr) from z) (by simp)
  have e0 : Env0 P w K mg (hidT s.heap H) callerA [] s H := ⟨rfl, hM, fun b o e => of_hidT e, Nat.le_of_eq (hidT_size _ _), trivial, fun b z => absurd z noF, fo.ok, .of_eq hg⟩
  have run := (F _ inB (spaces hns)).run callerA [] s H ⟨[.ref a], []⟩ [.ref a] [.ref a] _ rfl hr e0 (hbind s (.ref a)) (.cons rfl .nil) (hsp H fo.only fo.seq)
  refine codeAny_mono run fun r s' h => ?_
  cases r with
  | error e => exact False.elim h
  | ok fl =>
    cases fl with
    | next => exact False.elim h
    | brk => exact False.elim h
    | cont => exact False.elim h
    | ret u =>
      obtain ⟨v, H', os, bare, un, hok', r', q⟩ := h
      obtain rfl : v = .bl true := q
      obtain rfl : u = Value.bool true := r'
      refine ⟨rfl, OldK.of_keep fun b o e => ?_, os, bare⟩
      cases q : H b with
      | none => exact un.keep b o e q noF (by simp)
      | some u =>
        rcases fo.only b with z | ⟨ob, xs, z⟩
        · rw [q] at z
          cases z
        · have same := fo.ok b _ z
          have same' := hok' b _ (un.frzs b ob _ z)
          have y := same.1
          rw [e] at y
          cases y
          exact same'.1
theorem walk_ofG {l : PySem.W.OpenLaw} {n k : Nat} {q : Program} {loose : List Str} {XP : (Str → Option Value) → Heap → Prop} {YP : World → Heap → Prop} {d : DefRec} {K : Params → PySem.W.Frag} {sp : PySem.W.Frag → Sp} {x : Str}
    (hn : l.most = some n) (hn2 : n ≤ sizeLine) (hdf : d.params.defaults = []) (hr : Room k callerA) (hY : ∀ (w : World) (h : Heap), YP w h → (K w.params).In h)
    (F : ∀ (w : World) (mg : Str → Option Value) (fa : Addr) (h : Heap), (K w.params).In h → h.Ns mainGlobals mg → mg d.name = some (.ref fa) →
      ∃ fd : FuncData, (∀ (s : Shared) (u : Value), BindsTo s fd ⟨[u], []⟩ [(x, u)]) ∧
        ∀ base : Heap, (K w.params).In base → base.Ns mainGlobals mg → FnG l.prog w (K w.params) mg base k fa fd [x] (sp (K w.params)))
    (hsp : ∀ (K : PySem.W.Frag) (H : Hp) (a : Addr) (ns : List Int), ns.length ≤ n → Only H → SqL K H a (ns.map V.int) → sp K [.ref a] H (fun v _ => v = .bl true) fun _ _ _ => False) :
    PySem.W.WalkO q loose XP YP l.row.toRowW d [] (fun f vs => PySem.call f vs) := by
  refine Att.attach_call hn hdf fun w s₀ s₁ mg mb fa o pm cd doc a vs ns G Y ho hd hcd hmg hobj hints hlen hg => ?_
  obtain ⟨fd, hb, hF⟩ := F w mg fa _ (hY w _ Y) G.T.g hmg
  exact law_callG (hY w _ Y) G.T.g G.T.b G.T.builtins G.T.nolimit hg hobj hints (Nat.le_trans hlen hn2) hr hF hb fun H hO hS => hsp _ H a ns hlen hO hS
end L2
set_option Elab.async false
set_option linter.all false
set_option maxRecDepth 100000
set_option maxHeartbeats 8000000
set_option autoImplicit false
namespace Z
open PySem PySem.Spec PyProof.Rows L2
open C8 (Cal pe_c Mak pe_mk Met pe_mt pe_mt0 pe_gc)
/-- what the suite asks of the error's class -/
structure ErS (K : PySem.W.Frag) (CI KE CR CT : Addr) : Prop where
  x : XfC K CI
  c : ExcC K CI
  nf : PySem.W.findIn K (.ref CI) "word" = some none
  te : PySem.W.exmOne K (.ref CI) (.ref CI) = some true
  k1 : PySem.W.kitOne K (.ref CI) (.ref KE) = some true
  k2 : PySem.W.kitAny K (.ref CI) [.ref CR, .ref CT] = some false
/-- a class, made by its __init__ -/
structure MkX (P : Program) (w : World) (K : PySem.W.Frag) (mg : Str → Option Value) (base : Heap) (k : Nat) (x : Str) (C : Addr) (sp : Sp) : Prop where
  ex : ∃ (f : Addr) (fd : FuncData) (ps : List Str), Mk K C f ∧ FnOk P w K mg base (L2.CX P w) k f fd ps sp ∧ mg x = some (.ref C) ∧ Binds K fd ps []
def spHrd (K : PySem.W.Frag) (W : Wd) (CC CS : Addr) : Sp := fun vs H Q _ => ∃ (form : Nat) (th : Addr) (dk n1 n2 : PyData) (cr sy : Bool) (vk v1 v2 vg : V), vs = [.int form, .ref th] ∧ form < 6 ∧ H th = some (.tup (thL form vk v1 v2 vg)) ∧
  Dp K H vk dk ∧ Dp K H v1 n1 ∧ Dp K H v2 n2 ∧ ThA K W CC CS H vg cr sy ∧ n1 ∈ ND ∧ n2 ∈ ND ∧ ∀ H', Sm H H' → Q (.str (ans form dk n1 n2 cr sy)) H'
section
variable {P : Program} {w : World} {K : PySem.W.Frag} {mg : Str → Option Value} {base : Heap} {CI KE CR CT CC CS : Addr} {W : Wd}
abbrev s_hrd : Stmt := topS 50
abbrev n_hrd : List Str := ["_law_form", "_law_things", "_law_found", "_law_made", "e", "_law_others"]
abbrev p_hrd : List Str := ["_law_form", "_law_things"]
theorem sc_hrd : FnScope n_hrd p_hrd (defScope s_hrd) := ⟨rfl, rfl, rfl, by decide +kernel, rfl, by decide +kernel, by decide +kernel⟩
abbrev tIx (K : PySem.W.Frag) (i : Int) : TE := tOp (rIx K) (tVar 1) (tC (.int i))
abbrev tForm (i : Int) : TT := tTest (tOp rEq (tVar 0) (tC (.int i)))
abbrev tSays (W : Wd) (t : TE) : TS := tAsg (tIf (tTest (tOp rNe (tCB (rStrF W.C fun _ => spStr W) (tCons t tNil)) (tC (.str "")))) (tC (.str "made")) (tC (.str "none"))) (gName 2)
theorem ok_hrd {f : Addr} {fd : FuncData} (F : Fun K "_law_heard" "_law_heard" s_hrd f fd) (T : Bt mg) (gI : mg "InvalidSaying" = some (.ref CI)) (gK : mg "KnowError" = some (.ref KE)) (gR : mg "InvalidCrowds" = some (.ref CR)) (gT : mg "InvalidTalk" = some (.ref CT))
    (ER : ErS K CI KE CR CT) (cS : ∀ i, Met P w K mg base 7 (W.C i) "__str__" (spStr W) [])
    (Ma : MkX P w K mg base 5 "AtLeast" (W.C .atl) (spAtl K W CI)) (Mr : MkX P w K mg base 5 "Rest" (W.C .rst) (spRst K W CI)) (Mf : MkX P w K mg base 5 "Fact" (W.C .fct) (spFct K W CI CC)) (Ms : MkX P w K mg base 5 "Sure" (W.C .sur) (spSur K W CI))
    (Mk' : MkX P w K mg base 5 "Knows" (W.C .kno) (spKno K W CI CS)) (Mc : MkX P w K mg base 5 "Common" (W.C .com) (spCom K W CI CS)) : FnOk P w K mg base CX0 10 f fd p_hrd (spHrd K W CC CS) := by
  obtain ⟨fa, fda, psa, Ma, Fa, ga, ba⟩ := Ma.ex
  obtain ⟨fr, fdr, psr, Mr, Fr, gr, br⟩ := Mr.ex
  obtain ⟨ff, fdf, psf, Mf, Ff, gf, bf⟩ := Mf.ex
  obtain ⟨fs, fds, pss, Ms, Fs, gs, bs⟩ := Ms.ex
  obtain ⟨fk, fdk, psk, Mk', Fk, gk, bk⟩ := Mk'.ex
  obtain ⟨fc, fdc, psc, Mc, Fc, gc, bc⟩ := Mc.ex
  refine F.ok sc_hrd (fun vs H Q E h => ?_) (fun cdv A outer s H vs Q E hr h => ?_)
  · obtain ⟨form, th, dk, n1, n2, cr, sy, vk, v1, v2, vg, rfl, _⟩ := h
    rfl
  · obtain ⟨form, th, dk, n1, n2, cr, sy, vk, v1, v2, vg, rfl, hform, hth, hk, h1, h2, hg, m1, m2, q⟩ := h
    have hr6 : Room 6 _ := hr.mono (by decide)
    refine ⟨_, (pss_cons (ps_set (i := 2) sc_hrd.nd rfl (Or.inl rfl) pe_str)
      (pss_cons (ps_try_as (i := 4) (tb := fun W0 =>
            tIfS (tForm 0) (tSays W (tMakeS (W.C .atl) (spAtl K W CI) [] (WE W0) (tCons (tIx K 0) (tCons (tIx K 1) tNil))))
            (tIfS (tForm 1) (tSays W (tMakeS (W.C .rst) (spRst K W CI) [] (WE W0) (tCons (tIx K 0) (tCons (tIx K 1) (tCons (tIx K 2) tNil)))))
            (tIfS (tForm 2) (tSays W (tMakeS (W.C .fct) (spFct K W CI CC) [] (WE W0) (tCons (tIx K 0) tNil)))
            (tIfS (tForm 3) (tSays W (tMakeS (W.C .sur) (spSur K W CI) [] (WE W0) (tCons (tIx K 0) tNil)))
            (tSeq (tAsg (tIf (tForm 4) (tMakeS (W.C .kno) (spKno K W CI CS) [] (WE W0) (tCons (tIx K 0) (tCons (tIx K 1) tNil))) (tMakeS (W.C .com) (spCom K W CI CS) [] (WE W0) (tCons (tIx K 1) tNil))) (gName 3))
              (tSays W (tVar 3)))))))
          (ts := fun a cls d => tSeq (tAsg (tCB (rIsXT K a cls d CI) (tCons (tVar 4) (tCons (tTup (tCons (tC (.ref CR)) (tCons (tC (.ref CT)) tNil))) tNil))) (gName 5))
            (tAsg (tIf (tAnd (tB (tCB (rIsX K a cls d CI) (tCons (tVar 4) (tCons (tC (.ref KE)) tNil)))) (tNot (tB (tVar 5)))) (tXf a cls d CI "word" (tVar 4)) (tC (.str "other"))) (gName 2)))
          (Wout := fun _ _ _ _ => False) rfl rfl sc_hrd.nd rfl rfl ⟨rfl, by decide, Or.inl gI⟩ takes0
          (fun W0 pn xe tk _ => pss_one (ps_if (pt_cmpR op_eq (pv 0) pe_int (nomark _))
              (pss_one (ps_set (i := 2) sc_hrd.nd rfl (Or.inl rfl) (by exact (pe_ifExp (pt_cmpR op_ne (pe_callTy (call_strF cS hr (by decide)) (by rfl) T.n_str (by decide +kernel) (pa_cons (pe_makeS Ma Fa hr6 rfl ga ba .nil (fun σ => passAt tk σ) (pa_cons (pe_ix ix_seq (pv 1) pe_int (fun _ _ => rfl)) (pa_cons (pe_ix ix_seq (pv 1) pe_int (fun _ _ => rfl)) pa_nil))) pa_nil)) pe_str (nomark _)) pe_str pe_str))))
              (pss_one (ps_if (pt_cmpR op_eq (pv 0) pe_int (nomark _))
              (pss_one (ps_set (i := 2) sc_hrd.nd rfl (Or.inl rfl) (by exact (pe_ifExp (pt_cmpR op_ne (pe_callTy (call_strF cS hr (by decide)) (by rfl) T.n_str (by decide +kernel) (pa_cons (pe_makeS Mr Fr hr6 rfl gr br .nil (fun σ => passAt tk σ) (pa_cons (pe_ix ix_seq (pv 1) pe_int (fun _ _ => rfl)) (pa_cons (pe_ix ix_seq (pv 1) pe_int (fun _ _ => rfl)) (pa_cons (pe_ix ix_seq (pv 1) pe_int (fun _ _ => rfl)) pa_nil)))) pa_nil)) pe_str (nomark _)) pe_str pe_str))))
              (pss_one (ps_if (pt_cmpR op_eq (pv 0) pe_int (nomark _))
              (pss_one (ps_set (i := 2) sc_hrd.nd rfl (Or.inl rfl) (by exact (pe_ifExp (pt_cmpR op_ne (pe_callTy (call_strF cS hr (by decide)) (by rfl) T.n_str (by decide +kernel) (pa_cons (pe_makeS Mf Ff hr6 rfl gf bf .nil (fun σ => passAt tk σ) (pa_cons (pe_ix ix_seq (pv 1) pe_int (fun _ _ => rfl)) pa_nil)) pa_nil)) pe_str (nomark _)) pe_str pe_str))))
              (pss_one (ps_if (pt_cmpR op_eq (pv 0) pe_int (nomark _))
              (pss_one (ps_set (i := 2) sc_hrd.nd rfl (Or.inl rfl) (by exact (pe_ifExp (pt_cmpR op_ne (pe_callTy (call_strF cS hr (by decide)) (by rfl) T.n_str (by decide +kernel) (pa_cons (pe_makeS Ms Fs hr6 rfl gs bs .nil (fun σ => passAt tk σ) (pa_cons (pe_ix ix_seq (pv 1) pe_int (fun _ _ => rfl)) pa_nil)) pa_nil)) pe_str (nomark _)) pe_str pe_str))))
              (pss_cons (ps_set (i := 3) sc_hrd.nd rfl (Or.inl rfl) (by exact (pe_ifExp (pt_cmpR op_eq (pv 0) pe_int (nomark _)) (pe_makeS Mk' Fk hr6 rfl gk bk .nil (fun σ => passAt tk σ) (pa_cons (pe_ix ix_seq (pv 1) pe_int (fun _ _ => rfl)) (pa_cons (pe_ix ix_seq (pv 1) pe_int (fun _ _ => rfl)) pa_nil))) (pe_makeS Mc Fc hr6 rfl gc bc .nil (fun σ => passAt tk σ) (pa_cons (pe_ix ix_seq (pv 1) pe_int (fun _ _ => rfl)) pa_nil)))))
              (pss_one (ps_set (i := 2) sc_hrd.nd rfl (Or.inl rfl) (by exact (pe_ifExp (pt_cmpR op_ne (pe_callTy (call_strF cS hr (by decide)) (by rfl) T.n_str (by decide +kernel) (pa_cons (pv 3) pa_nil)) pe_str (nomark _)) pe_str pe_str)))))))))))))
          (fun a oe cls d pn hz hf => pss_cons (ps_set (i := 5) sc_hrd.nd rfl (Or.inl rfl) (by exact (pe_callB (call_isXT ER.c hz hf) (by rfl) T.n_isinstance (by decide +kernel) (pa_cons (pv 4) (pa_cons (pe_tup (pa_cons (pe_glob (v := .ref CR) (by rfl) gR rfl) (pa_cons (pe_glob (v := .ref CT) (by rfl) gT rfl) pa_nil))) pa_nil)))))
            (pss_one (ps_set (i := 2) sc_hrd.nd rfl (Or.inl rfl) (by exact (pe_ifExp ((pw_and (pt_val (pe_callB (call_isX ER.c hz hf) (by rfl) T.n_isinstance (by decide +kernel) (pa_cons (pv 4) (pa_cons (pe_glob (v := .ref KE) (by rfl) gK rfl) pa_nil)))) (pw_and1 (pt_not (pt_val (pv 5))))).pt)
              (pe_xf ER.x ER.nf hz hf (pv 4)) pe_str))))))
      (pss_one (ps_ret (pv 2))))), ?_⟩
    have ixh : ∀ (j : Nat) (x : V) (H' : Hp) (Q' : VK), Sm H H' → (thL form vk v1 v2 vg)[j]? = some x → Q' x H' → rIx K (.ref th) (.int (j : Int)) H' Q' := fun j x H' Q' e hx hq => ix_sqa (j := j) (.inr (.inl (.inl (e _ _ hth)))) rfl hx hq
    have new : ∀ {x dx C : Addr}, H x = none → H dx = none → dx ≠ x → Sm H (upd (upd H dx (.own x)) x (.ins C dx [])) := fun nx nd ne => (Sm.new nd).trans (Sm.new (by rw [upd_ne (Ne.symm ne)]; exact nx))
    match form, hform with
    | 0, _ =>
      refine ⟨_, rfl, rfl, _, rfl, ite1 rfl ?_⟩
      refine ⟨_, rfl, ixh 0 _ _ _ (Sm.refl _) rfl ⟨_, rfl, ixh 1 _ _ _ (Sm.refl _) rfl (fun x dx nx nd ne => ?_)⟩⟩
      have sm0 := new (C := W.C .atl) nx nd ne
      refine ⟨x, vk, v1, strO dk, intO n1, H, rfl, ⟨⟨dx, upd_same⟩, sm0, nx⟩, (txt_dp hk).sm sm0, (num_dp h1).sm sm0, fun wd e d' H' s' e' => ?_, fun k m ek em e H' sm hs => ⟨rfl, ?_⟩⟩
      · exact ⟨true, ER.te, fun _ a na => ⟨_, rfl, (by show 2 ≤ sizeLine; decide), fun tp htp => ⟨rfl, d', _, tp, _, _, false, rfl, Sm.new htp _ _ e', rfl, upd_same, .cons (.own _) (.cons (.own _) .nil), ER.k2, _, rfl, rfl, d', _, .ref KE, .ref KE, true, rfl, Sm.new htp _ _ e', rfl, fun _ r => r, ER.k1, _, rfl, ite1 rfl ⟨_, rfl, _, rfl, ite1 rfl ⟨_, rfl, rfl, rfl, d', _, .str wd, rfl, Sm.new htp _ _ e', by simp [List.lookup], _, rfl, (by have z := q _ ((sm0.trans s').trans (Sm.new (o := .tup [.ref CR, .ref CT]) htp)); rw [show ans 0 dk n1 n2 cr sy = wd by simp only [ans]; rw [e]; rfl] at z; exact z)⟩⟩⟩⟩, fun h => nomatch h⟩
      · have hb : isKd (some k) = true ∧ isNm (some m) = true := by
          rw [ek, em] at e
          unfold badA at e
          by_cases c1 : isKd (some k) = false
          · rw [if_pos c1] at e; cases e
          · rw [if_neg c1] at e
            by_cases c2 : isNm (some m) = false
            · rw [if_pos c2] at e; cases e
            · exact ⟨by simpa using c1, by simpa using c2⟩
        have md := mad_atl (kd_len hb.1) (nd_ok m1 em (by simpa [isNm] using hb.2))
        obtain ⟨dy, fs, hin, _⟩ := hs.ins
        refine ⟨_, x, dy, fs, rfl, hin, x, _, rfl, hs, md.ft, md.w, md.z, fun H3 s3 => ⟨_, rfl, rfl, _, rfl, ite1 (by rw [md.ne]; rfl) ?_⟩⟩
        have z := q H3 (sm.trans s3)
        rw [show ans 0 dk n1 n2 cr sy = Str.ofString "made" by simp only [ans]; rw [e]; rfl] at z
        exact ⟨_, rfl, z⟩
    | 1, _ =>
      refine ⟨_, rfl, rfl, _, rfl, ite0 rfl ?_⟩
      refine ⟨_, rfl, rfl, _, rfl, ite1 rfl ?_⟩
      refine ⟨_, rfl, ixh 0 _ _ _ (Sm.refl _) rfl ⟨_, rfl, ixh 1 _ _ _ (Sm.refl _) rfl ⟨_, rfl, ixh 2 _ _ _ (Sm.refl _) rfl (fun x dx nx nd ne => ?_)⟩⟩⟩
      have sm0 := new (C := W.C .rst) nx nd ne
      refine ⟨x, vk, v1, v2, strO dk, intO n1, intO n2, H, rfl, ⟨⟨dx, upd_same⟩, sm0, nx⟩, (txt_dp hk).sm sm0, (num_dp h1).sm sm0, (num_dp h2).sm sm0, fun wd e d' H' s' e' => ?_, fun k m l ek em el e H' sm hs => ⟨rfl, ?_⟩⟩
      · exact ⟨true, ER.te, fun _ a na => ⟨_, rfl, (by show 2 ≤ sizeLine; decide), fun tp htp => ⟨rfl, d', _, tp, _, _, false, rfl, Sm.new htp _ _ e', rfl, upd_same, .cons (.own _) (.cons (.own _) .nil), ER.k2, _, rfl, rfl, d', _, .ref KE, .ref KE, true, rfl, Sm.new htp _ _ e', rfl, fun _ r => r, ER.k1, _, rfl, ite1 rfl ⟨_, rfl, _, rfl, ite1 rfl ⟨_, rfl, rfl, rfl, d', _, .str wd, rfl, Sm.new htp _ _ e', by simp [List.lookup], _, rfl, (by have z := q _ ((sm0.trans s').trans (Sm.new (o := .tup [.ref CR, .ref CT]) htp)); rw [show ans 1 dk n1 n2 cr sy = wd by simp only [ans]; rw [e]; rfl] at z; exact z)⟩⟩⟩⟩, fun h => nomatch h⟩
      · have hb : isKd (some k) = true ∧ isPer (some l) = true ∧ isRst (some m) (some l) = true := by
          rw [ek, em, el] at e
          unfold badR at e
          by_cases c1 : isKd (some k) = false
          · rw [if_pos c1] at e; cases e
          · rw [if_neg c1] at e
            by_cases c2 : isPer (some l) = false
            · rw [if_pos c2] at e; cases e
            · rw [if_neg c2] at e
              by_cases c3 : isRst (some m) (some l) = false
              · rw [if_pos c3] at e; cases e
              · exact ⟨by simpa using c1, by simpa using c2, by simpa using c3⟩
        have hl : 0 < l := by simpa [isPer] using hb.2.1
        have hm : 0 ≤ m ∧ m < l := by simpa [isRst] using hb.2.2
        have md := mad_rst (kd_len hb.1) (nd_ok m1 em hm.1) (nd_ok m2 el (by omega))
        obtain ⟨dy, fs, hin, _⟩ := hs.ins
        refine ⟨_, x, dy, fs, rfl, hin, x, _, rfl, hs, md.ft, md.w, md.z, fun H3 s3 => ⟨_, rfl, rfl, _, rfl, ite1 (by rw [md.ne]; rfl) ?_⟩⟩
        have z := q H3 (sm.trans s3)
        rw [show ans 1 dk n1 n2 cr sy = Str.ofString "made" by simp only [ans]; rw [e]; rfl] at z
        exact ⟨_, rfl, z⟩
    | 2, _ =>
      refine ⟨_, rfl, rfl, _, rfl, ite0 rfl ?_⟩
      refine ⟨_, rfl, rfl, _, rfl, ite0 rfl ?_⟩
      refine ⟨_, rfl, rfl, _, rfl, ite1 rfl ?_⟩
      refine ⟨_, rfl, ixh 0 _ _ _ (Sm.refl _) rfl (fun x dx nx nd ne => ?_)⟩
      have sm0 := new (C := W.C .fct) nx nd ne
      refine ⟨x, vg, cr, H, rfl, ⟨⟨dx, upd_same⟩, sm0, nx⟩, hg.c.sm sm0, fun e d' H' s' e' => ?_, fun e => ?_⟩
      · exact ⟨true, ER.te, fun _ a na => ⟨_, rfl, (by show 2 ≤ sizeLine; decide), fun tp htp => ⟨rfl, d', _, tp, _, _, false, rfl, Sm.new htp _ _ e', rfl, upd_same, .cons (.own _) (.cons (.own _) .nil), ER.k2, _, rfl, rfl, d', _, .ref KE, .ref KE, true, rfl, Sm.new htp _ _ e', rfl, fun _ r => r, ER.k1, _, rfl, ite1 rfl ⟨_, rfl, _, rfl, ite1 rfl ⟨_, rfl, rfl, rfl, d', _, .str "crowds", rfl, Sm.new htp _ _ e', by simp [List.lookup], _, rfl, (by have z := q _ ((sm0.trans s').trans (Sm.new (o := .tup [.ref CR, .ref CT]) htp)); rw [show ans 2 dk n1 n2 cr sy = "crowds" by simp only [ans]; rw [if_neg (by rw [e]; decide)]] at z; exact z)⟩⟩⟩⟩, fun h => nomatch h⟩
      · obtain ⟨p, e1, hc⟩ := hg.cr e
        refine ⟨p, _, e1, hc, fun H' sm hs => ⟨rfl, ?_⟩⟩
        have md := mad_fct
        obtain ⟨dy, fs, hin, _⟩ := hs.ins
        refine ⟨_, x, dy, fs, rfl, hin, x, _, rfl, hs, md.ft, md.w, md.z, fun H3 s3 => ⟨_, rfl, rfl, _, rfl, ite1 (by rw [md.ne]; rfl) ?_⟩⟩
        have z := q H3 (sm.trans s3)
        rw [show ans 2 dk n1 n2 cr sy = Str.ofString "made" by simp only [ans]; rw [if_pos e]] at z
        exact ⟨_, rfl, z⟩
    | 3, _ =>
      refine ⟨_, rfl, rfl, _, rfl, ite0 rfl ?_⟩
      refine ⟨_, rfl, rfl, _, rfl, ite0 rfl ?_⟩
      refine ⟨_, rfl, rfl, _, rfl, ite0 rfl ?_⟩
      refine ⟨_, rfl, rfl, _, rfl, ite1 rfl ?_⟩
      refine ⟨_, rfl, ixh 0 _ _ _ (Sm.refl _) rfl (fun x dx nx nd ne => ?_)⟩
      have sm0 := new (C := W.C .sur) nx nd ne
      refine ⟨x, vk, strO dk, H, rfl, ⟨⟨dx, upd_same⟩, sm0, nx⟩, (txt_dp hk).sm sm0, fun e d' H' s' e' => ?_, fun k ek e H' sm hs => ⟨rfl, ?_⟩⟩
      · exact ⟨true, ER.te, fun _ a na => ⟨_, rfl, (by show 2 ≤ sizeLine; decide), fun tp htp => ⟨rfl, d', _, tp, _, _, false, rfl, Sm.new htp _ _ e', rfl, upd_same, .cons (.own _) (.cons (.own _) .nil), ER.k2, _, rfl, rfl, d', _, .ref KE, .ref KE, true, rfl, Sm.new htp _ _ e', rfl, fun _ r => r, ER.k1, _, rfl, ite1 rfl ⟨_, rfl, _, rfl, ite1 rfl ⟨_, rfl, rfl, rfl, d', _, .str "kind", rfl, Sm.new htp _ _ e', by simp [List.lookup], _, rfl, (by have z := q _ ((sm0.trans s').trans (Sm.new (o := .tup [.ref CR, .ref CT]) htp)); rw [show ans 3 dk n1 n2 cr sy = "kind" by simp only [ans]; rw [if_neg (by rw [e]; decide)]] at z; exact z)⟩⟩⟩⟩, fun h => nomatch h⟩
      · have md := mad_sur (kd_len (by rw [← ek]; exact e))
        obtain ⟨dy, fs, hin, _⟩ := hs.ins
        refine ⟨_, x, dy, fs, rfl, hin, x, _, rfl, hs, md.ft, md.w, md.z, fun H3 s3 => ⟨_, rfl, rfl, _, rfl, ite1 (by rw [md.ne]; rfl) ?_⟩⟩
        have z := q H3 (sm.trans s3)
        rw [show ans 3 dk n1 n2 cr sy = Str.ofString "made" by simp only [ans]; rw [if_pos e]] at z
        exact ⟨_, rfl, z⟩
    | 4, _ =>
      refine ⟨_, rfl, rfl, _, rfl, ite0 rfl ?_⟩
      refine ⟨_, rfl, rfl, _, rfl, ite0 rfl ?_⟩
      refine ⟨_, rfl, rfl, _, rfl, ite0 rfl ?_⟩
      refine ⟨_, rfl, rfl, _, rfl, ite0 rfl ?_⟩
      refine ⟨_, rfl, rfl, _, rfl, ite1 rfl ?_⟩
      refine ⟨_, rfl, ixh 0 _ _ _ (Sm.refl _) rfl ⟨_, rfl, ixh 1 _ _ _ (Sm.refl _) rfl (fun x dx nx nd ne => ?_)⟩⟩
      have sm0 := new (C := W.C .kno) nx nd ne
      refine ⟨x, vk, vg, strO dk, sy, H, rfl, ⟨⟨dx, upd_same⟩, sm0, nx⟩, (txt_dp hk).sm sm0, hg.s.sm sm0, fun wd e d' H' s' e' => ?_, fun k ek e => ?_⟩
      · exact ⟨true, ER.te, fun _ a na => ⟨_, rfl, (by show 2 ≤ sizeLine; decide), fun tp htp => ⟨rfl, d', _, tp, _, _, false, rfl, Sm.new htp _ _ e', rfl, upd_same, .cons (.own _) (.cons (.own _) .nil), ER.k2, _, rfl, rfl, d', _, .ref KE, .ref KE, true, rfl, Sm.new htp _ _ e', rfl, fun _ r => r, ER.k1, _, rfl, ite1 rfl ⟨_, rfl, _, rfl, ite1 rfl ⟨_, rfl, rfl, rfl, d', _, .str wd, rfl, Sm.new htp _ _ e', by simp [List.lookup], _, rfl, (by have z := q _ ((sm0.trans s').trans (Sm.new (o := .tup [.ref CR, .ref CT]) htp)); rw [show ans 4 dk n1 n2 cr sy = wd by simp only [ans]; rw [e]; rfl] at z; exact z)⟩⟩⟩⟩, fun h => nomatch h⟩
      · have hb : isKd (some k) = true ∧ sy = true := by
          rw [ek] at e
          unfold badK at e
          by_cases c1 : isKd (some k) = false
          · rw [if_pos c1] at e; cases e
          · rw [if_neg c1] at e
            by_cases c2 : sy = false
            · rw [if_pos c2] at e; cases e
            · exact ⟨by simpa using c1, by simpa using c2⟩
        obtain ⟨p, e1, hc⟩ := hg.sy hb.2
        refine ⟨p, sure0, e1, hc, fun H' sm hs => ⟨rfl, ?_⟩⟩
        have md := mad_kno (kd_len hb.1)
        obtain ⟨dy, fs, hin, _⟩ := hs.ins
        refine ⟨_, rfl, _, x, dy, fs, rfl, hin, x, _, rfl, hs, md.ft, md.w, md.z, fun H3 s3 => ⟨_, rfl, rfl, _, rfl, ite1 (by rw [md.ne]; rfl) ?_⟩⟩
        have z := q H3 (sm.trans s3)
        rw [show ans 4 dk n1 n2 cr sy = Str.ofString "made" by simp only [ans]; rw [e]; rfl] at z
        exact ⟨_, rfl, z⟩
    | 5, _ =>
      refine ⟨_, rfl, rfl, _, rfl, ite0 rfl ?_⟩
      refine ⟨_, rfl, rfl, _, rfl, ite0 rfl ?_⟩
      refine ⟨_, rfl, rfl, _, rfl, ite0 rfl ?_⟩
      refine ⟨_, rfl, rfl, _, rfl, ite0 rfl ?_⟩
      refine ⟨_, rfl, rfl, _, rfl, ite0 rfl ?_⟩
      refine ⟨_, rfl, ixh 1 _ _ _ (Sm.refl _) rfl (fun x dx nx nd ne => ?_)⟩
      have sm0 := new (C := W.C .com) nx nd ne
      refine ⟨x, vg, sy, H, rfl, ⟨⟨dx, upd_same⟩, sm0, nx⟩, hg.s.sm sm0, fun e d' H' s' e' => ?_, fun e => ?_⟩
      · exact ⟨true, ER.te, fun _ a na => ⟨_, rfl, (by show 2 ≤ sizeLine; decide), fun tp htp => ⟨rfl, d', _, tp, _, _, false, rfl, Sm.new htp _ _ e', rfl, upd_same, .cons (.own _) (.cons (.own _) .nil), ER.k2, _, rfl, rfl, d', _, .ref KE, .ref KE, true, rfl, Sm.new htp _ _ e', rfl, fun _ r => r, ER.k1, _, rfl, ite1 rfl ⟨_, rfl, _, rfl, ite1 rfl ⟨_, rfl, rfl, rfl, d', _, .str "saying", rfl, Sm.new htp _ _ e', by simp [List.lookup], _, rfl, (by have z := q _ ((sm0.trans s').trans (Sm.new (o := .tup [.ref CR, .ref CT]) htp)); rw [show ans 5 dk n1 n2 cr sy = "saying" by simp only [ans]; rw [if_neg (by rw [e]; decide)]] at z; exact z)⟩⟩⟩⟩, fun h => nomatch h⟩
      · obtain ⟨p, e1, hc⟩ := hg.sy e
        refine ⟨p, sure0, e1, hc, fun H' sm hs => ⟨rfl, ?_⟩⟩
        have md := mad_com
        obtain ⟨dy, fs, hin, _⟩ := hs.ins
        refine ⟨_, rfl, _, x, dy, fs, rfl, hin, x, _, rfl, hs, md.ft, md.w, md.z, fun H3 s3 => ⟨_, rfl, rfl, _, rfl, ite1 (by rw [md.ne]; rfl) ?_⟩⟩
        have z := q H3 (sm.trans s3)
        rw [show ans 5 dk n1 n2 cr sy = Str.ofString "made" by simp only [ans]; rw [if_pos e]] at z
        exact ⟨_, rfl, z⟩
    | n + 6, hf => exact absurd hf (by omega)
end
end Z
set_option Elab.async false
set_option linter.all false
set_option maxRecDepth 100000
set_option maxHeartbeats 8000000
set_option autoImplicit false
namespace Z
open PySem PySem.Spec PyProof.Rows L2
open C8 (Cal pe_c Mak pe_mk Met pe_mt pe_mt0 pe_gc)
def NB : List (PyData × Bool) := [(.int 0, true), (.int 3, true), (.int 6, true), (.int (-1), false), (.bool true, false), (.none, false), (.str "1", false)]
def NbAt (K : PySem.W.Frag) (H : Hp) (t : Addr) (d : PyData) (b : Bool) : Prop := ∃ v, H t = some (.tup [v, .bl b]) ∧ Dp K H v d ∧ (d, b) ∈ NB
theorem NbAt.sm {K : PySem.W.Frag} {H H' : Hp} {t : Addr} {d : PyData} {b : Bool} (h : NbAt K H t d b) (e : Sm H H') : NbAt K H' t d b := let ⟨v, a, c, m⟩ := h; ⟨v, e _ _ a, dp_mono e c, m⟩
theorem nb_b {d : PyData} {b : Bool} (h : (d, b) ∈ NB) : isNm (intO d) = b ∧ d ∈ ND ∧ (b = true → ∃ m, d = .int m) := by
  simp only [NB, List.mem_cons, List.not_mem_nil, or_false, Prod.mk.injEq] at h
  rcases h with ⟨rfl, rfl⟩ | ⟨rfl, rfl⟩ | ⟨rfl, rfl⟩ | ⟨rfl, rfl⟩ | ⟨rfl, rfl⟩ | ⟨rfl, rfl⟩ | ⟨rfl, rfl⟩ <;> exact ⟨rfl, by simp [ND], fun e => by first | exact ⟨_, rfl⟩ | cases e⟩
theorem kd_eqv {dk : PyData} (h : dk ∈ KD) : ([PyData.str "marked", .str "plain"].any fun z => PyData.eqv z dk) = isKd (strO dk) ∧ SeqAt.shaped dk = true := by
  simp only [KD, List.mem_cons, List.not_mem_nil, or_false] at h
  rcases h with rfl | rfl | rfl | rfl | rfl | rfl | rfl | rfl | rfl | rfl <;> exact ⟨by decide +kernel, by decide +kernel⟩
def spNmb (K : PySem.W.Frag) : Sp := fun vs H Q _ => ∃ (bx : Addr), vs = [.ref bx] ∧ BoxAt H bx ∧ ∀ t d b H', NbAt K (msk bx bx H') t d b → BoxAt H' bx → Sm (msk bx bx H) (msk bx bx H') → Q (.ref t) H'
def spDu (K : PySem.W.Frag) : Sp := fun vs H Q _ => ∃ (form : Nat) (vk : V) (t1 t2 : Addr) (dk d1 d2 : PyData) (b1 b2 fits : Bool), vs = [.int form, vk, .ref t1, .ref t2, .bl fits] ∧ form < 6 ∧ Dp K H vk dk ∧ dk ∈ KD ∧ NbAt K H t1 d1 b1 ∧ NbAt K H t2 d2 b2 ∧
  ∀ H', Sm H H' → Q (.str (ans form dk d1 d2 fits fits)) H'
section
variable {P : Program} {w : World} {K : PySem.W.Frag} {mg : Str → Option Value} {base : Heap} {CI KE CR CT CC CS : Addr} {W : Wd}
abbrev s_nmb : Stmt := topS 51
theorem sc_nmb : FnScope ["_law_box"] ["_law_box"] (defScope s_nmb) := ⟨rfl, rfl, rfl, by decide +kernel, rfl, by decide +kernel, by decide +kernel⟩
theorem sz2 : 2 ≤ sizeLine := by decide
theorem ok_nmb {f : Addr} {fd : FuncData} (F : Fun K "_law_number" "_law_number" s_nmb f fd) (Cp : Cal P w K mg base 2 "_law_pick" (spPick K) []) : FnOk P w K mg base CX0 3 f fd ["_law_box"] (spNmb K) := by
  refine F.ok sc_nmb (fun vs H Q E h => ?_) (fun cdv A outer s H vs Q E hr h => ?_)
  · obtain ⟨bx, rfl, _⟩ := h
    rfl
  · obtain ⟨bx, rfl, hb, q⟩ := h
    refine ⟨_, (pss_one (ps_ret (pe_c Cp hr (by decide) (by rfl) (pa_cons (pv 0) (pa_cons (pe_lst (pa_cons (pe_tup (pa_cons pe_int (pa_cons pe_bl pa_nil))) (pa_cons (pe_tup (pa_cons pe_int (pa_cons pe_bl pa_nil))) (pa_cons (pe_tup (pa_cons pe_int (pa_cons pe_bl pa_nil))) (pa_cons (pe_tup (pa_cons (pe_op op_sub pe_int pe_int) (pa_cons pe_bl pa_nil))) (pa_cons (pe_tup (pa_cons pe_bl (pa_cons pe_bl pa_nil))) (pa_cons (pe_tup (pa_cons pe_non (pa_cons pe_bl pa_nil))) (pa_cons (pe_tup (pa_cons pe_str (pa_cons pe_bl pa_nil))) pa_nil)))))))) pa_nil))))), ?_⟩
    have st : ∀ {H1 : Hp} {t : Addr} {v : V} {d : PyData} {b : Bool}, Sm H H1 → H1 t = none → Dp K (msk bx bx (upd H1 t (.tup [v, .bl b]))) v d → (d, b) ∈ NB → Sm H (upd H1 t (.tup [v, .bl b])) ∧ Sm H1 (upd H1 t (.tup [v, .bl b])) ∧ NbAt K (msk bx bx (upd H1 t (.tup [v, .bl b]))) t d b := fun {H1 t v d b} s h dv m => by
      have ne : t ≠ bx := (hb.sm s).newNe h
      exact ⟨s.trans (Sm.new h), Sm.new h, v, by rw [msk_ne ne ne, upd_same], dv, m⟩
    refine ⟨_, rfl, sz2, fun t0 h0 => ?_⟩
    obtain ⟨s0, _, n0⟩ := st (Sm.refl _) h0 (.int 0) (b := true) (by simp [NB])
    generalize upd H t0 _ = H0 at s0 n0 ⊢
    refine ⟨sz2, fun t1 h1 => ?_⟩
    obtain ⟨s1, r1, n1⟩ := st s0 h1 (.int 3) (b := true) (by simp [NB])
    have n0 := n0.sm r1.msk
    generalize upd H0 t1 _ = H1 at s1 n0 n1 ⊢
    refine ⟨sz2, fun t2 h2 => ?_⟩
    obtain ⟨s2, r2, n2⟩ := st s1 h2 (.int 6) (b := true) (by simp [NB])
    have n0 := n0.sm r2.msk
    have n1 := n1.sm r2.msk
    generalize upd H1 t2 _ = H2 at s2 n0 n1 n2 ⊢
    refine ⟨_, _, rfl, rfl, sz2, ?_⟩
    intro t3 h3
    dsimp only
    obtain ⟨s3, r3, n3⟩ := st (v := .int (0 - 1)) s2 h3 (.int (-1)) (b := false) (by simp [NB])
    have n0 := n0.sm r3.msk
    have n1 := n1.sm r3.msk
    have n2 := n2.sm r3.msk
    generalize upd H2 t3 _ = H3 at s3 n0 n1 n2 n3 ⊢
    refine ⟨sz2, fun t4 h4 => ?_⟩
    obtain ⟨s4, r4, n4⟩ := st s3 h4 (.bl true) (b := false) (by simp [NB])
    have n0 := n0.sm r4.msk
    have n1 := n1.sm r4.msk
    have n2 := n2.sm r4.msk
    have n3 := n3.sm r4.msk
    generalize upd H3 t4 _ = H4 at s4 n0 n1 n2 n3 n4 ⊢
    refine ⟨sz2, fun t5 h5 => ?_⟩
    obtain ⟨s5, r5, n5⟩ := st s4 h5 .non (b := false) (by simp [NB])
    have n0 := n0.sm r5.msk
    have n1 := n1.sm r5.msk
    have n2 := n2.sm r5.msk
    have n3 := n3.sm r5.msk
    have n4 := n4.sm r5.msk
    generalize upd H4 t5 _ = H5 at s5 n0 n1 n2 n3 n4 n5 ⊢
    refine ⟨sz2, fun t6 h6 => ?_⟩
    obtain ⟨s6, r6, n6⟩ := st s5 h6 (.str "1") (b := false) (by simp [NB])
    have n0 := n0.sm r6.msk
    have n1 := n1.sm r6.msk
    have n2 := n2.sm r6.msk
    have n3 := n3.sm r6.msk
    have n4 := n4.sm r6.msk
    have n5 := n5.sm r6.msk
    generalize upd H5 t6 _ = H6 at s6 n0 n1 n2 n3 n4 n5 n6 ⊢
    refine ⟨(by show 7 ≤ sizeLine; decide), fun l hl => ?_⟩
    have nl : l ≠ bx := (hb.sm s6).newNe hl
    have s7 := s6.trans (Sm.new (o := .lst [.ref t0, .ref t1, .ref t2, .ref t3, .ref t4, .ref t5, .ref t6]) hl)
    have r7 : Sm (msk bx bx H6) (msk bx bx (upd H6 l (.lst [.ref t0, .ref t1, .ref t2, .ref t3, .ref t4, .ref t5, .ref t6]))) := (Sm.new hl).msk
    refine ⟨bx, l, _, rfl, hb.sm s7, .inl (.inl (by rw [msk_ne nl nl]; exact upd_same)), by show 0 < 7; decide, by show 7 ≤ 1000; decide, fun j v H' hj hb' sm => ?_⟩
    have sE := s7.msk.trans sm
    have sF := r7.trans sm
    match j, hj with
    | 0, hj => cases hj; exact q _ _ _ _ (n0.sm sF) hb' sE
    | 1, hj => cases hj; exact q _ _ _ _ (n1.sm sF) hb' sE
    | 2, hj => cases hj; exact q _ _ _ _ (n2.sm sF) hb' sE
    | 3, hj => cases hj; exact q _ _ _ _ (n3.sm sF) hb' sE
    | 4, hj => cases hj; exact q _ _ _ _ (n4.sm sF) hb' sE
    | 5, hj => cases hj; exact q _ _ _ _ (n5.sm sF) hb' sE
    | 6, hj => cases hj; exact q _ _ _ _ (n6.sm sF) hb' sE
abbrev s_du : Stmt := topS 52
abbrev n_du : List Str := ["_law_form", "_law_kind", "_law_first", "_law_second", "_law_fits"]
theorem sc_du : FnScope n_du n_du (defScope s_du) := ⟨rfl, rfl, rfl, by decide +kernel, rfl, by decide +kernel, by decide +kernel⟩
theorem ok_du {f : Addr} {fd : FuncData} {k : Nat} (F : Fun K "_law_due" "_law_due" s_du f fd) : FnOk P w K mg base CX0 (k + 1) f fd n_du (spDu K) := by
  refine F.ok sc_du (fun vs H Q E h => ?_) (fun cdv A outer s H vs Q E hr h => ?_)
  · obtain ⟨form, vk, t1, t2, dk, d1, d2, b1, b2, fits, rfl, _⟩ := h
    rfl
  · obtain ⟨form, vk, t1, t2, dk, d1, d2, b1, b2, fits, rfl, hform, hk, mk, ⟨v1, e1, p1, m1⟩, ⟨v2, e2, p2, m2⟩, q⟩ := h
    have hu65 : A.units + 3 + 65 < cLine := by
      have := hr.un
      show A.units + 3 + 65 < _
      have e : (A.deeper (envOfC "_law_due" (defScope s_du) s.heap.objs.size f cdv)).units = A.units + 3 := rfl
      omega
    refine ⟨_, (pss_cons (ps_if ((pw_and (pt_cmpR op_in_seq (pv 0) (pe_tup (pa_cons pe_int (pa_cons pe_int (pa_cons pe_int (pa_cons pe_int pa_nil))))) rfl) (pw_and1 (pt_cmpR (op_notInT hu65) (pv 1) (pe_tup (pa_cons pe_str (pa_cons pe_str pa_nil))) rfl)))).pt
        (pss_one (ps_ret pe_str))
        pss_nil)
      (pss_cons (ps_if (pt_cmpR op_eq (pv 0) pe_int (nomark _))
        (pss_one (ps_ret (pe_ifExp (pt_truth (pe_ix ix_seq (pv 2) pe_int (fun _ _ => rfl)) (fun _ => rfl)) pe_str pe_str)))
        pss_nil)
      (pss_cons (ps_if (pt_cmpR op_eq (pv 0) pe_int (nomark _))
        (pss_cons (ps_if ((pw_or (pt_not (pt_truth (pe_ix ix_seq (pv 3) pe_int (fun _ _ => rfl)) (fun _ => rfl))) (pw_or1 (pt_cmpR op_eq (pe_ix ix_seq (pv 3) pe_int (fun _ _ => rfl)) pe_int (nomark _))))).pt
          (pss_one (ps_ret pe_str))
          pss_nil)
        (pss_one (ps_ret (pe_ifExp ((pw_and (pt_truth (pe_ix ix_seq (pv 2) pe_int (fun _ _ => rfl)) (fun _ => rfl)) (pw_and1 (pt_cmpR op_lt (pe_ix ix_seq (pv 2) pe_int (fun _ _ => rfl)) (pe_ix ix_seq (pv 3) pe_int (fun _ _ => rfl)) (nomark _))))).pt pe_str pe_str))))
        pss_nil)
      (pss_cons (ps_if ((pw_or (pt_cmpR op_eq (pv 0) pe_int (nomark _)) (pw_or1 (pt_val (pv 4))))).pt
        (pss_one (ps_ret pe_str))
        pss_nil)
      (pss_one (ps_ret (pe_ifExp (pt_cmpR op_eq (pv 0) pe_int (nomark _)) pe_str pe_str))))))), ?_⟩
    refine ⟨_, rfl, (by show 4 ≤ sizeLine; decide), fun p hp => ⟨p, _, rfl, .inr (.inl (.inl upd_same)), rfl, rfl, _, rfl, ?_⟩⟩
    have eN : ∀ {H' : Hp}, Sm H H' → SqA K H' t1 [v1, .bl b1] ∧ SqA K H' t2 [v2, .bl b2] := fun e => ⟨.inr (.inl (.inl (e _ _ e1))), .inr (.inl (.inl (e _ _ e2)))⟩
    obtain ⟨q1, _, i1⟩ := nb_b m1
    obtain ⟨q2, _, i2⟩ := nb_b m2
    obtain ⟨ke, ks⟩ := kd_eqv mk
    have s1 : Sm H (upd H p (.tup [.int 0, .int 1, .int 3, .int 4])) := Sm.new hp
    generalize upd H p (.tup [.int 0, .int 1, .int 3, .int 4]) = H1 at s1 ⊢
    have kt : ∀ (Q' : Bool → Hp → Prop), (∀ H2, Sm H1 H2 → Q' (!isKd (strO dk)) H2) → ∀ p2, H1 p2 = none → rNotInT K vk (.ref p2) (upd H1 p2 (.tup [.str "marked", .str "plain"])) (fun x H2 => ∃ b, x = .bl b ∧ Q' b H2) := fun Q' hq p2 hp2 =>
      ⟨dk, [.str "marked", .str "plain"], dp_mono (s1.trans (Sm.new hp2)) hk, .tup (.inl (.inl upd_same)) (.cons (.str _) (.cons (.str _) .nil)), ks, by decide +kernel, _, rfl, by rw [ke]; exact hq _ (Sm.new hp2)⟩
    match form, hform with
    | 0, _ =>
      refine ite1 rfl ⟨_, rfl, sz2, fun p2 hp2 => kt _ (fun H2 s2 => ?_) p2 hp2⟩
      have z := q H2 (s1.trans s2)
      have eN2 := eN (s1.trans s2)
      cases hkd : isKd (strO dk) with
      | false =>
        refine ite1 rfl ?_
        rw [show ans 0 dk d1 d2 fits fits = Str.ofString "kind" by simp only [ans, badA, badR, badK, hkd]; rfl] at z
        exact z
      | true =>
        refine ite0 rfl ?_
        refine ⟨_, rfl, rfl, _, rfl, ite1 rfl ?_⟩
        refine ⟨_, rfl, ix_sqa (j := 1) eN2.1 rfl rfl ⟨b1, rfl, iteB (fun hb => ?_) (fun hb => ?_)⟩⟩
        · rw [show ans 0 dk d1 d2 fits fits = Str.ofString "made" by simp only [ans, badA, hkd, q1, hb]; rfl] at z
          exact z
        · rw [show ans 0 dk d1 d2 fits fits = Str.ofString "number" by simp only [ans, badA, hkd, q1, hb]; rfl] at z
          exact z
    | 1, _ =>
      refine ite1 rfl ⟨_, rfl, sz2, fun p2 hp2 => kt _ (fun H2 s2 => ?_) p2 hp2⟩
      have z := q H2 (s1.trans s2)
      have eN2 := eN (s1.trans s2)
      cases hkd : isKd (strO dk) with
      | false =>
        refine ite1 rfl ?_
        rw [show ans 1 dk d1 d2 fits fits = Str.ofString "kind" by simp only [ans, badA, badR, badK, hkd]; rfl] at z
        exact z
      | true =>
        refine ite0 rfl ?_
        refine ⟨_, rfl, rfl, _, rfl, ite0 rfl ?_⟩
        refine ⟨_, rfl, rfl, _, rfl, ite1 rfl ?_⟩
        refine ⟨_, rfl, ix_sqa (j := 1) eN2.2 rfl rfl ⟨b2, rfl, iteB (fun hb => ?_) (fun hb => ?_)⟩⟩
        · have hp : isPer (intO d2) = false := by
            have hb2 : b2 = false := by simpa using hb
            rw [hb2] at q2
            cases hd : intO d2 with
            | none => rfl
            | some m =>
              rw [hd] at q2
              simp [isNm] at q2
              simp [isPer]
              omega
          rw [show ans 1 dk d1 d2 fits fits = Str.ofString "period" by simp only [ans, badR, hkd, hp]; rfl] at z
          exact iteT z
        · have hb2 : b2 = true := by simpa using hb
          obtain ⟨m, rfl⟩ := i2 hb2
          cases p2
          refine ⟨_, rfl, ix_sqa (j := 0) eN2.2 rfl rfl ⟨rfl, _, rfl, iteB (fun hc => ?_) (fun hc => ?_)⟩⟩
          · have m0 : m = 0 := V.int.inj (of_decide_eq_true hc)
            subst m0
            rw [show ans 1 dk d1 (.int 0) fits fits = Str.ofString "period" by simp only [ans, badR, hkd]; rfl] at z
            exact z
          · have mp : 0 < m := by
              have h0 : ¬ m = 0 := fun e => by rw [e] at hc; exact absurd hc (by decide)
              rw [hb2] at q2
              simp [isNm, intO] at q2
              omega
            have hp : isPer (intO (.int m)) = true := by simp [isPer, intO, mp]
            have rest : isRst (intO d1) (intO (.int m)) = false → Q (.str "rest") H2 := fun e => by
              rw [show ans 1 dk d1 (.int m) fits fits = Str.ofString "rest" by simp only [ans, badR, hkd, hp, e]; rfl] at z
              exact z
            refine ⟨_, rfl, ix_sqa (j := 1) eN2.1 rfl rfl ⟨b1, rfl, iteB (fun hd => ?_) (fun hd => ?_)⟩⟩
            · obtain ⟨n, rfl⟩ := i1 hd
              cases p1
              refine ⟨_, rfl, ix_sqa (j := 0) eN2.1 rfl rfl ⟨_, rfl, ix_sqa (j := 0) eN2.2 rfl rfl ⟨_, _, rfl, rfl, _, rfl, iteB (fun he => ?_) (fun he => ?_)⟩⟩⟩
              · have hr' : isRst (intO (.int n)) (intO (.int m)) = true := by
                  rw [hd] at q1
                  simp [isNm, intO] at q1
                  have he' : n < m := by simpa using he
                  simp [isRst, intO, q1, he']
                rw [show ans 1 dk (.int n) (.int m) fits fits = Str.ofString "made" by simp only [ans, badR, hkd, hp, hr']; rfl] at z
                exact z
              · exact rest (by have he' : ¬ n < m := by simpa using he
                               simp [isRst, intO]
                               omega)
            · refine iteF (rest ?_)
              rw [hd] at q1
              cases hd1 : intO d1 with
              | none => rfl
              | some n =>
                rw [hd1] at q1
                simp [isNm] at q1
                simp [isRst, intO]
                omega
    | 2, _ =>
      refine ite0 rfl (ite0 rfl ?_)
      have z := q H1 s1
      refine ⟨_, rfl, rfl, _, rfl, ite0 rfl ?_⟩
      refine ⟨_, rfl, rfl, _, rfl, ite0 rfl ?_⟩
      refine ⟨_, rfl, rfl, _, rfl, ite0 rfl ⟨_, rfl, fits, rfl, iteB (fun hb => ?_) (fun hb => ?_)⟩⟩
      · rw [show ans 2 dk d1 d2 fits fits = Str.ofString "made" by simp only [ans, hb]; rfl] at z
        exact z
      · rw [show ans 2 dk d1 d2 fits fits = Str.ofString "crowds" by simp only [ans, hb]; rfl] at z
        exact ⟨_, rfl, rfl, _, rfl, ite1 rfl z⟩
    | 3, _ =>
      refine ite1 rfl ⟨_, rfl, sz2, fun p2 hp2 => kt _ (fun H2 s2 => ?_) p2 hp2⟩
      have z := q H2 (s1.trans s2)
      have eN2 := eN (s1.trans s2)
      cases hkd : isKd (strO dk) with
      | false =>
        refine ite1 rfl ?_
        rw [show ans 3 dk d1 d2 fits fits = Str.ofString "kind" by simp only [ans, badA, badR, badK, hkd]; rfl] at z
        exact z
      | true =>
        refine ite0 rfl ?_
        refine ⟨_, rfl, rfl, _, rfl, ite0 rfl ?_⟩
        refine ⟨_, rfl, rfl, _, rfl, ite0 rfl ?_⟩
        rw [show ans 3 dk d1 d2 fits fits = Str.ofString "made" by simp only [ans, hkd]; rfl] at z
        exact ⟨_, rfl, rfl, _, rfl, ite1 rfl (iteT z)⟩
    | 4, _ =>
      refine ite1 rfl ⟨_, rfl, sz2, fun p2 hp2 => kt _ (fun H2 s2 => ?_) p2 hp2⟩
      have z := q H2 (s1.trans s2)
      have eN2 := eN (s1.trans s2)
      cases hkd : isKd (strO dk) with
      | false =>
        refine ite1 rfl ?_
        rw [show ans 4 dk d1 d2 fits fits = Str.ofString "kind" by simp only [ans, badA, badR, badK, hkd]; rfl] at z
        exact z
      | true =>
        refine ite0 rfl ?_
        refine ⟨_, rfl, rfl, _, rfl, ite0 rfl ?_⟩
        refine ⟨_, rfl, rfl, _, rfl, ite0 rfl ?_⟩
        refine ⟨_, rfl, rfl, _, rfl, ite0 rfl ⟨_, rfl, fits, rfl, iteB (fun hb => ?_) (fun hb => ?_)⟩⟩
        · rw [show ans 4 dk d1 d2 fits fits = Str.ofString "made" by simp only [ans, badK, hkd, hb]; rfl] at z
          exact z
        · rw [show ans 4 dk d1 d2 fits fits = Str.ofString "saying" by simp only [ans, badK, hkd, hb]; rfl] at z
          exact ⟨_, rfl, rfl, _, rfl, ite0 rfl z⟩
    | 5, _ =>
      refine ite0 rfl (ite0 rfl ?_)
      have z := q H1 s1
      refine ⟨_, rfl, rfl, _, rfl, ite0 rfl ?_⟩
      refine ⟨_, rfl, rfl, _, rfl, ite0 rfl ?_⟩
      refine ⟨_, rfl, rfl, _, rfl, ite0 rfl ⟨_, rfl, fits, rfl, iteB (fun hb => ?_) (fun hb => ?_)⟩⟩
      · rw [show ans 5 dk d1 d2 fits fits = Str.ofString "made" by simp only [ans, hb]; rfl] at z
        exact z
      · rw [show ans 5 dk d1 d2 fits fits = Str.ofString "saying" by simp only [ans, hb]; rfl] at z
        exact ⟨_, rfl, rfl, _, rfl, ite0 rfl z⟩
    | n + 6, hf => exact absurd hf (by omega)
end
end Z
set_option Elab.async false
set_option linter.all false
set_option maxRecDepth 100000
set_option maxHeartbeats 8000000
set_option autoImplicit false
/-! The law itself. -/
namespace Z
open PySem PySem.Spec PyProof.Rows L2
open C8 (Cal pe_c Mak pe_mk Met pe_mt pe_mt0 pe_gc)
/-- the seven things -/
structure ThL (K : PySem.W.Frag) (W : Wd) (CC CS : Addr) (H : Hp) (gl : Addr) (vs : List V) : Prop where
  at_ : H gl = some (.lst vs)
  n : vs.length = 7
  th : ∀ (j : Nat) (v : V), vs[j]? = some v → ThA K W CC CS H v (decide (j = 0)) (decide (j = 1))
theorem ThL.sm {K : PySem.W.Frag} {W : Wd} {CC CS : Addr} {H H' : Hp} {gl : Addr} {vs : List V} (h : ThL K W CC CS H gl vs) (e : Sm H H') : ThL K W CC CS H' gl vs := ⟨e _ _ h.at_, h.n, fun j v z => (h.th j v z).sm e⟩
/-- what isinstance says of the classes -/
structure KtS (K : PySem.W.Frag) (W : Wd) (CC CS : Addr) : Prop where
  ic : InsC K CC
  cc : PySem.W.kitOne K (.ref CC) (.ref CC) = some true
  cs : PySem.W.kitOne K (.ref CC) (.ref CS) = some false
  nc : PySem.W.kitOne K (.ref (W.C .neg)) (.ref CC) = some false
  ns : PySem.W.kitOne K (.ref (W.C .neg)) (.ref CS) = some true
  no : ∀ T : String, (T = "NoneType" ∨ T = "str" ∨ T = "int" ∨ T = "tuple" ∨ T = "list") → PySem.W.kitOne K (.type T) (.ref CC) = some false ∧ PySem.W.kitOne K (.type T) (.ref CS) = some false
def spLaw (K : PySem.W.Frag) : Sp := fun vs H Q _ => ∃ (a : Addr) (ns : List Int), vs = [.ref a] ∧ SqL K H a (ns.map V.int) ∧ ns.length ≤ 63 ∧ ∀ H', Q (.bl true) H'
theorem ans_fits {form : Nat} {dk d1 d2 : PyData} {pl : Int} (h : form < 6) : ans form dk d1 d2 (decide (V.int pl = V.int (if decide ((form : Int) > 3) = true then 1 else 0))) (decide (V.int pl = V.int (if decide ((form : Int) > 3) = true then 1 else 0))) = ans form dk d1 d2 (decide (pl = 0)) (decide (pl = 1)) := by
  have e0 : decide (V.int pl = V.int 0) = decide (pl = 0) := by
    by_cases e : pl = 0
    · rw [e]; rfl
    · rw [decide_eq_false e, decide_eq_false fun z => e (V.int.inj z)]
  have e1 : decide (V.int pl = V.int 1) = decide (pl = 1) := by
    by_cases e : pl = 1
    · rw [e]; rfl
    · rw [decide_eq_false e, decide_eq_false fun z => e (V.int.inj z)]
  match form, h with
  | 0, _ => rfl
  | 1, _ => rfl
  | 2, _ => exact congrArg (fun z => if z = true then Str.ofString "made" else Str.ofString "crowds") e0
  | 3, _ => rfl
  | 4, _ => exact congrArg (fun z => (badK (strO dk) z).getD "made") e1
  | 5, _ => exact congrArg (fun z => if z = true then Str.ofString "made" else Str.ofString "saying") e1
  | n + 6, h => exact absurd h (by omega)
theorem crok0 : CrOk 0 0 1 1 ["-"] where
  lx := by decide +kernel
  ly := by decide +kernel
  lp := by decide +kernel
  lq := by decide +kernel
  s1 := by decide +kernel
  s2 := by decide +kernel
  c1 := by decide +kernel
  c2 := by decide +kernel
  c3 := by decide +kernel
  n := by decide
  sm := by decide +kernel
theorem kd_at {K : PySem.W.Frag} {H : Hp} {o : Addr} {j : Nat} {v : V} (ho : H o = some (.tup [.str "marked"])) (h : [V.str "marked", .str "plain", .str "marked", .str "plain", .str "Marked", .str "", .non, .int 0, .ref o, .bl true][j]? = some v) : ∃ dk, dk ∈ KD ∧ Dp K H v dk := by
  match j, h with
  | 0, h => cases h; exact ⟨_, by simp [KD], .str "marked"⟩
  | 1, h => cases h; exact ⟨_, by simp [KD], .str "plain"⟩
  | 2, h => cases h; exact ⟨_, by simp [KD], .str "marked"⟩
  | 3, h => cases h; exact ⟨_, by simp [KD], .str "plain"⟩
  | 4, h => cases h; exact ⟨_, by simp [KD], .str "Marked"⟩
  | 5, h => cases h; exact ⟨_, by simp [KD], .str ""⟩
  | 6, h => cases h; exact ⟨_, by simp [KD], .non⟩
  | 7, h => cases h; exact ⟨_, by simp [KD], .int 0⟩
  | 8, h => cases h; exact ⟨.tuple [.str "marked"], by simp [KD], .tup (.inl (.inl ho)) (.cons (.str "marked") .nil)⟩
  | 9, h => cases h; exact ⟨_, by simp [KD], .bl true⟩
section
variable {P : Program} {w : World} {K : PySem.W.Frag} {mg : Str → Option Value} {base : Heap} {CI KE CR CT CC CS : Addr} {C : Ix → Addr}
abbrev s_law : Stmt := topS 53
abbrev n_law : List Str := ["_law_script", "_law_good", "_law_k", "_law_box", "_law_turn", "_law_kind", "_law_first", "_law_second", "_law_place", "_law_form", "_law_things", "_law_given", "_law_due_here"]
abbrev p_law : List Str := ["_law_script"]
theorem sc_law : FnScope n_law p_law (defScope s_law) := ⟨rfl, rfl, rfl, by decide +kernel, rfl, by decide +kernel, by decide +kernel⟩
theorem ok_law {f gN pN : Addr} {fd : FuncData} {mc : Value} (F : Fun K "law" "law" s_law f fd) (T : Bt mg) (S : SyC K (wdOf K CC C)) (KT : KtS K (wdOf K CC C) CC CS) (gC : mg "Crowds" = some (.ref CC)) (rd : ClX.CRead K CC mc) (cm : ClX.CMet K CC mc "nothing" pN gN)
    (FN : FnR P w K mg base CX0 6 gN (spNo K CC)) (cI : Met P w K mg base 3 (C .sur) "__invert__" (spInv (wdOf K CC C)) []) (Ms : MkX P w K mg base 5 "Sure" (C .sur) (spSur K (wdOf K CC C) CI)) (Ml : Mak P w K mg base 1 "Silent" (C .sil) (spSil (wdOf K CC C)) [])
    (Cfeed : Cal P w K mg base 1 "_law_feed" (spFeed K) []) (Ctake : Cal P w K mg base 1 "_law_take" spTake []) (Cpick : Cal P w K mg base 2 "_law_pick" (spPick K) []) (Cnum : Cal P w K mg base 3 "_law_number" (spNmb K) [])
    (Cdue : Cal P w K mg base 1 "_law_due" (spDu K) []) (Chrd : Cal P w K mg base 10 "_law_heard" (spHrd K (wdOf K CC C) CC CS) []) : FnG P w K mg base 11 f fd p_law (spLaw K) := by
  obtain ⟨fs, fds, pss, Ms, Fs, gs, bs⟩ := Ms.ex
  obtain ⟨fl, fdl, psl, dsl, Ml, Fl, gl', bl, vl⟩ := Ml.ex
  refine F.okG sc_law (fun vs H Q E h => ?_) (fun cdv A outer s H vs Q E gd hr h => ?_)
  · obtain ⟨a, ns, rfl, _⟩ := h
    rfl
  · obtain ⟨a, ns, rfl, hS, hlen, q⟩ := h
    have hr6 := hr.mono (show 6 ≤ 10 by decide)
    have hr2 := hr.mono (show 2 ≤ 10 by decide)
    refine ⟨_, (pss_cons (ps_set (i := 1) sc_law.nd rfl (Or.inl rfl) (pe_lst (pa_cons (pe_cmeth0 (pe_glob (v := .ref CC) rfl gC rfl) rd cm FN hr6 pass0) (pa_cons (pe_un (un_invF (ι := Unit) (C := fun _ => C .sur) (sp := fun _ => spInv (wdOf K CC C)) (fun _ => cI) hr (by decide)) (pe_make Ms Fs hr6 (by rfl) gs bs .nil passF (pa_cons pe_str pa_nil))) (pa_cons pe_non (pa_cons pe_str (pa_cons pe_int (pa_cons (pe_tup (pa_cons pe_str pa_nil)) (pa_cons (pe_lst (pa_cons (pe_make0 Ml Fl hr2 (by rfl) gl' bl vl pass0) pa_nil)) pa_nil)))))))))
      (pss_cons (ps_for PassesOwn.never rfl (pi_range1 rfl T.n_range (pa_cons (pe_callB (call_max2 rfl) (by rfl) T.n_max (by decide +kernel) (pa_cons pe_int (pa_cons (pe_callB (call_min2 rfl) (by rfl) T.n_min (by decide +kernel) (pa_cons pe_int (pa_cons (pe_callB call_len_seq (by rfl) T.n_len (by decide +kernel) (pa_cons (pv 0) pa_nil)) pa_nil))) pa_nil))) pa_nil)) (pg_name (i := 2) sc_law.nd rfl (Or.inl rfl))
        (pss_cons (ps_set (i := 3) sc_law.nd rfl (Or.inl rfl) (pe_c Cfeed hr (by decide) (by rfl) (pa_cons (pv 0) (pa_cons (pv 2) pa_nil))))
        (pss_one (ps_for PassesOwn.never rfl (pi_range1 rfl T.n_range (pa_cons pe_int pa_nil)) (pg_name (i := 4) sc_law.nd rfl (Or.inl rfl))
          (pss_cons (ps_set (i := 5) sc_law.nd rfl (Or.inl rfl) (pe_c Cpick hr (by decide) (by rfl) (pa_cons (pv 3) (pa_cons (pe_lst (pa_cons pe_str (pa_cons pe_str (pa_cons pe_str (pa_cons pe_str (pa_cons pe_str (pa_cons pe_str (pa_cons pe_non (pa_cons pe_int (pa_cons (pe_tup (pa_cons pe_str pa_nil)) (pa_cons pe_bl pa_nil))))))))))) pa_nil))))
          (pss_cons (ps_par3 (i := 6) (j := 7) (l := 8) rfl sc_law.nd rfl rfl rfl (by decide) (by decide) (by decide) rfl rfl rfl (pa_cons (pe_c Cnum hr (by decide) (by rfl) (pa_cons (pv 3) pa_nil)) (pa_cons (pe_c Cnum hr (by decide) (by rfl) (pa_cons (pv 3) pa_nil)) (pa_cons (pe_c Ctake hr (by decide) (by rfl) (pa_cons (pv 3) (pa_cons pe_int pa_nil))) pa_nil))) (by rfl))
          (pss_one (ps_for PassesOwn.never rfl (pi_range1 rfl T.n_range (pa_cons pe_int pa_nil)) (pg_name (i := 9) sc_law.nd rfl (Or.inl rfl))
            (pss_cons (ps_set (i := 10) sc_law.nd rfl (Or.inl rfl) (pe_lst (pa_cons (pe_tup (pa_cons (pv 5) (pa_cons (pe_ix ix_seq (pv 6) pe_int (fun _ _ => rfl)) pa_nil))) (pa_cons (pe_tup (pa_cons (pv 5) (pa_cons (pe_ix ix_seq (pv 6) pe_int (fun _ _ => rfl)) (pa_cons (pe_ix ix_seq (pv 7) pe_int (fun _ _ => rfl)) pa_nil)))) (pa_cons (pe_tup (pa_cons (pe_ix ix_list (pv 1) (pv 8) (fun _ _ => rfl)) pa_nil)) (pa_cons (pe_tup (pa_cons (pv 5) pa_nil)) pa_nil))))))
            (pss_cons (ps_set (i := 11) sc_law.nd rfl (Or.inl rfl) (pe_ix ix_list (pe_op op_cat (pv 10) (pe_op op_rep (pe_lst (pa_cons (pe_tup (pa_cons (pv 5) (pa_cons (pe_ix ix_list (pv 1) (pv 8) (fun _ _ => rfl)) pa_nil))) pa_nil)) pe_int)) (pv 9) (fun _ _ => rfl)))
            (pss_cons (ps_set (i := 12) sc_law.nd rfl (Or.inl rfl) (pe_c Cdue hr (by decide) (by rfl) (pa_cons (pv 9) (pa_cons (pv 5) (pa_cons (pv 6) (pa_cons (pv 7) (pa_cons (pe_cmpR op_eq (pv 8) (pe_callTy call_int1 (by rfl) T.n_int (by decide +kernel) (pa_cons (pe_cmpR op_gt (pv 9) pe_int (nomark _)) pa_nil)) (nomark _)) pa_nil)))))))
            (pss_one (ps_if (pt_cmpR op_ne (pe_c Chrd hr (by decide) (by rfl) (pa_cons (pv 9) (pa_cons (pv 11) pa_nil))) (pv 12) (nomark _))
              (pss_one (ps_ret pe_bl))
              pss_nil)))))))))))))
      (pss_one (ps_ret pe_bl)))), ?_⟩
    refine ⟨rfl, rfl, fun H1 c s1 at1 => ?_⟩
    intro x dx nx nd ne
    have sm0 : Sm H1 (upd (upd H1 dx (.own x)) x (.ins (C .sur) dx [])) := (Sm.new nd).trans (Sm.new (by rw [upd_ne (Ne.symm ne)]; exact nx))
    refine ⟨x, .str "plain", some "plain", H1, rfl, ⟨⟨dx, upd_same⟩, sm0, nx⟩, txt_dp (.str "plain"), fun e => absurd e (by decide +kernel), fun k ek _ H2 s2 hsu => ⟨rfl, ?_⟩⟩
    cases ek
    obtain ⟨dsu, hin⟩ := _root_.id hsu
    refine ⟨(), x, dsu, _, rfl, hin, x, _, rfl, hsu, fun H3 sn s3 _ hsn => ?_⟩
    refine ⟨(by show 1 ≤ sizeLine; decide), fun t ht => ?_⟩
    have e4 : upd H3 t (.tup [.str "marked"]) t = some (.tup [.str "marked"]) := upd_same
    have s4 : Sm H3 (upd H3 t (.tup [.str "marked"])) := Sm.new ht
    generalize upd H3 t (.tup [.str "marked"]) = H4 at e4 s4 ⊢
    intro y dy ny ndy ney
    have sm1 : Sm H4 (upd (upd H4 dy (.own y)) y (.ins (C .sil) dy [])) := (Sm.new ndy).trans (Sm.new (by rw [upd_ne (Ne.symm ney)]; exact ny))
    cases vl
    refine ⟨y, H4, rfl, ⟨⟨dy, upd_same⟩, sm1, ny⟩, fun H5 s5 hsi => ⟨rfl, (by show 1 ≤ sizeLine; decide), fun l hl => ?_⟩⟩
    have e6 : upd H5 l (.lst [.ref y]) l = some (.lst [.ref y]) := upd_same
    have s6 : Sm H5 (upd H5 l (.lst [.ref y])) := Sm.new hl
    generalize upd H5 l (.lst [.ref y]) = H6 at e6 s6 ⊢
    refine ⟨(by show 7 ≤ sizeLine; decide), fun gl hgl => ?_⟩
    have s7 : Sm H6 (upd H6 gl (.lst [.ref c, .ref sn, .non, .str "silent", .int 0, .ref t, .ref l])) := Sm.new hgl
    have e7 : (upd H6 gl (.lst [.ref c, .ref sn, .non, .str "silent", .int 0, .ref t, .ref l])) gl = some (.lst [.ref c, .ref sn, .non, .str "silent", .int 0, .ref t, .ref l]) := upd_same
    generalize (upd H6 gl (.lst [.ref c, .ref sn, .non, .str "silent", .int 0, .ref t, .ref l])) = H7 at s7 e7 ⊢
    have s47 := (s5.trans s6).trans s7
    have s37 := s4.trans s47
    have s17 := ((s2.trans s3).trans s37)
    have S7 : SqL K H7 a (ns.map V.int) := (s1.trans s17).seq hS
    have T7 : ThL K (wdOf K CC C) CC CS H7 gl [.ref c, .ref sn, .non, .str "silent", .int 0, .ref t, .ref l] := by
      refine ⟨e7, rfl, fun j v hj => ?_⟩
      have pl : ∀ {v : V} {T : String}, TyX K H7 v (.type T) → (T = "NoneType" ∨ T = "str" ∨ T = "int" ∨ T = "tuple" ∨ T = "list") → ThA K (wdOf K CC C) CC CS H7 v false false := fun ty h => ⟨⟨_, ty, (KT.no _ h).1⟩, ⟨_, ty, (KT.no _ h).2⟩, (fun z => nomatch z), (fun z => nomatch z)⟩
      match j, hj with
      | 0, hj =>
        cases hj
        have at7 := at1.sm s17
        obtain ⟨dc, ts, tp, tl, hc, _⟩ := at7.ex
        exact ⟨⟨_, KT.ic.ty hc, KT.cc⟩, ⟨_, KT.ic.ty hc, KT.cs⟩, fun _ => ⟨c, rfl, 0, 0, 1, 1, ["-"], at7, crok0, rfl⟩, fun z => nomatch z⟩
      | 1, hj =>
        cases hj
        have hs7 := hsn.sm s37
        obtain ⟨dn, bn, hn, _⟩ := _root_.id hs7
        exact ⟨⟨_, (S.ic .neg).ty hn, KT.nc⟩, ⟨_, (S.ic .neg).ty hn, KT.ns⟩, (fun z => nomatch z), fun _ => ⟨sn, rfl, hs7⟩⟩
      | 2, hj => cases hj; exact pl (.base .non) (.inl rfl)
      | 3, hj => cases hj; exact pl (.base (.str _)) (.inr (.inl rfl))
      | 4, hj => cases hj; exact pl (.base (.int 0)) (.inr (.inr (.inl rfl)))
      | 5, hj => cases hj; exact pl (.base (.tup (s47 _ _ e4))) (.inr (.inr (.inr (.inl rfl))))
      | 6, hj => cases hj; exact pl (.base (.lst (s7 _ _ e6))) (.inr (.inr (.inr (.inr rfl))))
    generalize ([.ref c, .ref sn, .non, .str "silent", .int 0, .ref t, .ref l] : List V) = gs at T7
    have bound : ∃ X : Int, X = (if (if ((ns.map V.int).length : Int) < 5 then ((ns.map V.int).length : Int) else 5) > 2 then (if ((ns.map V.int).length : Int) < 5 then ((ns.map V.int).length : Int) else 5) else 2) ∧ X ≤ 5 ∧ 2 ≤ X := ⟨_, rfl, by split <;> split <;> omega, by split <;> split <;> omega⟩
    obtain ⟨X, eX, X5, X2⟩ := bound
    refine ⟨_, rfl, a, _, rfl, .inl S7, 5, _, rfl, 2, _, rfl, X, by rw [eX], by omega, by omega, for_range (lo := 0) (n := X.toNat) (fun i σ H' => (∃ x2 x3 x4 x5 x6 x7 x8 x9 x10 x11 x12, σ = [some (.ref a), some (.ref gl), x2, x3, x4, x5, x6, x7, x8, x9, x10, x11, x12]) ∧ SqL K H' a (ns.map V.int) ∧ ThL K (wdOf K CC C) CC CS H' gl gs) ?_ ?_ ?_⟩
    · exact ⟨⟨none, none, none, none, none, none, none, none, none, none, none, rfl⟩, S7, T7⟩
    · rintro i σ H1 hi ⟨⟨x2, x3, x4, x5, x6, x7, x8, x9, x10, x11, x12, rfl⟩, hS1, hT1⟩
      refine ⟨_, rfl, _, rfl, a, ns, _, rfl, hS1, by omega, by omega, fun d H2 s2 nd B2 => ?_⟩
      have S2 : Sm H1 (msk d d H2) := fun b o hb => by
        have nb : b ≠ d := fun z => by rw [z, nd] at hb; cases hb
        rw [msk_ne nb nb]
        exact s2 b o hb
      refine ⟨6, rfl, by decide, by decide, for_range (lo := 0) (n := 6) (fun j σ H' => (∃ x4 x5 x6 x7 x8 x9 x10 x11 x12, σ = [some (.ref a), some (.ref gl), some (.int (0 + (i : Int))), some (.ref d), x4, x5, x6, x7, x8, x9, x10, x11, x12]) ∧
        BoxAt H' d ∧ Sm H1 (msk d d H')) ?_ ?_ ?_⟩
      · exact ⟨⟨_, _, _, _, _, _, _, _, _, rfl⟩, B2, S2⟩
      · rintro j σ H4 hj ⟨⟨x4, x5, x6, x7, x8, x9, x10, x11, x12, rfl⟩, B4, S4⟩
        refine ⟨_, rfl, (by show 1 ≤ sizeLine; decide), fun o ho => ⟨(by show 10 ≤ sizeLine; decide), fun l hl => ?_⟩⟩
        have no : o ≠ d := B4.newNe ho
        have nl : l ≠ d := (B4.sm (Sm.new ho)).newNe hl
        have sl : Sm H4 (upd (upd H4 o (.tup [.str "marked"])) l (.lst [.str "marked", .str "plain", .str "marked", .str "plain", .str "Marked", .str "", .non, .int 0, .ref o, .bl true])) := (Sm.new ho).trans (Sm.new hl)
        refine ⟨d, l, _, rfl, B4.sm sl, .inl (.inl (by rw [msk_ne nl nl]; exact upd_same)), by show 0 < 10; decide, by show 10 ≤ 1000; decide, fun jk vk H5 hk B5 e5 => ?_⟩
        have eo : msk d d (upd (upd H4 o (.tup [.str "marked"])) l (.lst [.str "marked", .str "plain", .str "marked", .str "plain", .str "Marked", .str "", .non, .int 0, .ref o, .bl true])) o = some (.tup [.str "marked"]) := by
          rw [msk_ne no no]
          exact Sm.new hl _ _ upd_same
        obtain ⟨dk, mk, hdk⟩ := kd_at (K := K) (e5 _ _ eo) hk
        have S5 := (S4.trans sl.msk).trans e5
        refine ⟨_, rfl, d, rfl, B5, fun t1 d1 b1 H6 N1 B6 e6 => ⟨_, rfl, d, rfl, B6, fun t2 d2 b2 H7 N2 B7 e7 => ⟨_, rfl, d, 7, rfl, B7, by decide, by decide, fun pl H8 p0 p7 B8 e8 => ⟨_, _, _, rfl, ?_⟩⟩⟩⟩
        obtain ⟨pj, rfl⟩ := Int.eq_ofNat_of_zero_le p0
        have S8 := ((S5.trans e6).trans e7).trans e8
        have k8 := dp_mono ((e6.trans e7).trans e8) hdk
        have n1 := N1.sm (e7.trans e8)
        have n2 := N2.sm e8
        have t8 := hT1.sm S8
        have pjl : pj < gs.length := by rw [t8.n]; omega
        have hvg := List.getElem?_eq_getElem pjl
        generalize gs[pj] = vg at hvg
        have ta8 := t8.th pj vg hvg
        refine ⟨6, rfl, by decide, by decide, for_range (lo := 0) (n := 6) (fun m σ H' => (∃ x9 x10 x11 x12, σ = [some (.ref a), some (.ref gl), some (.int (0 + (i : Int))), some (.ref d), some (.int (0 + (j : Int))), some vk, some (.ref t1), some (.ref t2), some (.int (pj : Int)), x9, x10, x11, x12]) ∧ Sm H8 H') ?_ ?_ ?_⟩
        · exact ⟨⟨_, _, _, _, rfl⟩, Sm.refl _⟩
        · rintro m σ H9 hm ⟨⟨x9, x10, x11, x12, rfl⟩, S9⟩
          rw [Int.zero_add]
          obtain ⟨v1, g1, p1, m1⟩ := n1
          obtain ⟨v2, g2, p2, m2⟩ := n2
          have sM : Sm (msk d d H8) H9 := msk_le.trans S9
          have q1 : ∀ {G : Hp}, Sm H9 G → SqA K G t1 [v1, .bl b1] := fun e => .inr (.inl (.inl ((sM.trans e) _ _ g1)))
          have q2 : ∀ {G : Hp}, Sm H9 G → SqA K G t2 [v2, .bl b2] := fun e => .inr (.inl (.inl ((sM.trans e) _ _ g2)))
          have qg : ∀ {G : Hp}, Sm H9 G → SqL K G gl gs := fun e => .inl (.inl ((sM.trans e) _ _ t8.at_))
          refine ⟨_, rfl, _, rfl, ix_sqa (j := 0) (q1 (Sm.refl _)) rfl rfl ⟨sz2, fun r1 hr1 => ?_⟩⟩
          have f1 : upd H9 r1 (.tup [vk, v1]) r1 = some (.tup [vk, v1]) := upd_same
          have y1 : Sm H9 (upd H9 r1 (.tup [vk, v1])) := Sm.new hr1
          generalize upd H9 r1 (.tup [vk, v1]) = G1 at f1 y1 ⊢
          refine ⟨_, rfl, _, rfl, ix_sqa (j := 0) (q1 y1) rfl rfl ⟨_, rfl, ix_sqa (j := 0) (q2 y1) rfl rfl ⟨(by show 3 ≤ sizeLine; decide), fun r2 hr2 => ?_⟩⟩⟩
          have f2 : upd G1 r2 (.tup [vk, v1, v2]) r2 = some (.tup [vk, v1, v2]) := upd_same
          have z2 : Sm G1 (upd G1 r2 (.tup [vk, v1, v2])) := Sm.new hr2
          have f1 := z2 _ _ f1
          have y2 := y1.trans z2
          generalize upd G1 r2 (.tup [vk, v1, v2]) = G2 at f1 f2 y2 ⊢
          refine ⟨_, rfl, _, rfl, gl, gs, _, vg, rfl, rfl, qg y2, atI_nat hvg, (by show 1 ≤ sizeLine; decide), fun r3 hr3 => ?_⟩
          have f3 : upd G2 r3 (.tup [vg]) r3 = some (.tup [vg]) := upd_same
          have z3 : Sm G2 (upd G2 r3 (.tup [vg])) := Sm.new hr3
          have f1 := z3 _ _ f1
          have f2 := z3 _ _ f2
          have y3 := y2.trans z3
          generalize upd G2 r3 (.tup [vg]) = G3 at f1 f2 f3 y3 ⊢
          refine ⟨_, rfl, (by show 1 ≤ sizeLine; decide), fun r4 hr4 => ?_⟩
          have f4 : upd G3 r4 (.tup [vk]) r4 = some (.tup [vk]) := upd_same
          have z4 : Sm G3 (upd G3 r4 (.tup [vk])) := Sm.new hr4
          have f1 := z4 _ _ f1
          have f2 := z4 _ _ f2
          have f3 := z4 _ _ f3
          have y4 := y3.trans z4
          generalize upd G3 r4 (.tup [vk]) = G4 at f1 f2 f3 f4 y4 ⊢
          refine ⟨(by show 4 ≤ sizeLine; decide), fun l1 hl1 => ?_⟩
          have l5 : upd G4 l1 (.lst [.ref r1, .ref r2, .ref r3, .ref r4]) l1 = some (.lst [.ref r1, .ref r2, .ref r3, .ref r4]) := upd_same
          have z5 : Sm G4 (upd G4 l1 (.lst [.ref r1, .ref r2, .ref r3, .ref r4])) := Sm.new hl1
          have f1 := z5 _ _ f1
          have f2 := z5 _ _ f2
          have f3 := z5 _ _ f3
          have f4 := z5 _ _ f4
          have y5 := y4.trans z5
          generalize upd G4 l1 (.lst [.ref r1, .ref r2, .ref r3, .ref r4]) = G5 at f1 f2 f3 f4 l5 y5 ⊢
          refine ⟨_, rfl, _, rfl, _, rfl, _, rfl, gl, gs, _, vg, rfl, rfl, qg y5, atI_nat hvg, sz2, fun r5 hr5 => ?_⟩
          have f5 : upd G5 r5 (.tup [vk, vg]) r5 = some (.tup [vk, vg]) := upd_same
          have z6 : Sm G5 (upd G5 r5 (.tup [vk, vg])) := Sm.new hr5
          have f1 := z6 _ _ f1
          have f2 := z6 _ _ f2
          have f3 := z6 _ _ f3
          have f4 := z6 _ _ f4
          have l5 := z6 _ _ l5
          have y6 := y5.trans z6
          generalize upd G5 r5 (.tup [vk, vg]) = G6 at f1 f2 f3 f4 f5 l5 y6 ⊢
          refine ⟨(by show 1 ≤ sizeLine; decide), fun l2 hl2 => ⟨l2, 2, _, rfl, rfl, upd_same, by decide, by decide, (by show 1 * 2 ≤ sizeLine; decide), fun l3 hl3 => ?_⟩⟩
          have z7 : Sm G6 (upd (upd G6 l2 (.lst [.ref r5])) l3 (.lst (List.replicate (2 : Int).toNat [V.ref r5]).flatten)) := (Sm.new hl2).trans (Sm.new hl3)
          refine ⟨l1, l3, _, _, rfl, rfl, z7 _ _ l5, upd_same, (by show 4 + 2 ≤ sizeLine; decide), fun l4 hl4 => ?_⟩
          have z8 := z7.trans (Sm.new (o := .lst ([.ref r1, .ref r2, .ref r3, .ref r4] ++ (List.replicate (2 : Int).toNat [V.ref r5]).flatten)) hl4)
          have e8' : (upd (upd (upd G6 l2 (.lst [.ref r5])) l3 (.lst (List.replicate (2 : Int).toNat [V.ref r5]).flatten)) l4 (.lst ([.ref r1, .ref r2, .ref r3, .ref r4] ++ (List.replicate (2 : Int).toNat [V.ref r5]).flatten))) l4 = some (.lst [.ref r1, .ref r2, .ref r3, .ref r4, .ref r5, .ref r5]) := upd_same
          have f1 := z8 _ _ f1
          have f2 := z8 _ _ f2
          have f3 := z8 _ _ f3
          have f4 := z8 _ _ f4
          have f5 := z8 _ _ f5
          have y8 := y6.trans z8
          generalize (upd (upd (upd G6 l2 (.lst [.ref r5])) l3 (.lst (List.replicate (2 : Int).toNat [V.ref r5]).flatten)) l4 (.lst ([.ref r1, .ref r2, .ref r3, .ref r4] ++ (List.replicate (2 : Int).toNat [V.ref r5]).flatten))) = G8 at f1 f2 f3 f4 f5 e8' y8 ⊢
          obtain ⟨rm, hrm, hat⟩ : ∃ rm, [V.ref r1, .ref r2, .ref r3, .ref r4, .ref r5, .ref r5][m]? = some (.ref rm) ∧ G8 rm = some (.tup (thL m vk v1 v2 vg)) := by
            match m, hm with
            | 0, _ => exact ⟨r1, rfl, f1⟩
            | 1, _ => exact ⟨r2, rfl, f2⟩
            | 2, _ => exact ⟨r3, rfl, f3⟩
            | 3, _ => exact ⟨r4, rfl, f4⟩
            | 4, _ => exact ⟨r5, rfl, f5⟩
            | 5, _ => exact ⟨r5, rfl, f5⟩
            | n + 6, h => exact absurd h (by omega)
          refine ⟨_, rfl, l4, _, _, _, rfl, rfl, .inl (.inl e8'), atI_nat hrm, ?_⟩
          have sG := sM.trans y8
          refine ⟨_, rfl, _, rfl, _, rfl, _, rfl, _, rfl, _, rfl, _, _, rfl, rfl, .inr ⟨_, rfl, rfl, ?_⟩⟩
          refine ⟨m, vk, t1, t2, dk, d1, d2, b1, b2, _, rfl, hm, dp_mono sG k8, mk, ⟨v1, sG _ _ g1, dp_mono sG p1, m1⟩, ⟨v2, sG _ _ g2, dp_mono sG p2, m2⟩, fun G9 y9 => ?_⟩
          have sG9 := sG.trans y9
          refine ⟨_, rfl, _, rfl, m, rm, dk, d1, d2, decide (pj = 0), decide (pj = 1), vk, v1, v2, vg, rfl, hm, y9 _ _ hat, dp_mono sG9 k8, dp_mono sG9 p1, dp_mono sG9 p2, ta8.sm sG9, (nb_b m1).2.1, (nb_b m2).2.1, fun G10 y10 => ?_⟩
          refine ⟨_, rfl, rfl, _, rfl, ite0 ?_ ⟨⟨_, _, _, _, rfl⟩, S9.trans ((y8.trans y9).trans y10)⟩⟩
          have af := ans_fits (form := m) (dk := dk) (d1 := d1) (d2 := d2) (pl := (pj : Int)) hm
          rw [af, show decide ((pj : Int) = 0) = decide (pj = 0) from decide_eq_decide.mpr (by omega), show decide ((pj : Int) = 1) = decide (pj = 1) from decide_eq_decide.mpr (by omega)]
          simp
        · rintro σ H9 ⟨⟨x9, x10, x11, x12, rfl⟩, S9⟩
          exact ⟨⟨_, _, _, _, _, _, _, _, _, rfl⟩, B8.sm S9, S8.trans S9.msk⟩
      · rintro σ H4 ⟨⟨x4, x5, x6, x7, x8, x9, x10, x11, x12, rfl⟩, B4, S4⟩
        exact ⟨⟨_, _, _, _, _, _, _, _, _, _, _, rfl⟩, (S4.trans msk_le).seq hS1, hT1.sm (S4.trans msk_le)⟩
    · rintro σ H1 ⟨⟨x2, x3, x4, x5, x6, x7, x8, x9, x10, x11, x12, rfl⟩, hS1, hT1⟩
      exact q H1
end
end Z
set_option Elab.async false
set_option linter.all false
set_option maxRecDepth 100000
set_option maxHeartbeats 4000000
set_option autoImplicit false
/-! A head whose facts are asked by name: any tests of the objects that the top leaves, and the defs. -/
namespace Z
open PySem PySem.Spec PyProof.Rows L2
abbrev Fct := PySem.W.Frag → Bool
/-- the defs as they stand; not by a map on either side, so that the kernel goes from def to def -/
def obsL (K : PySem.W.Frag) : List He5.DefA → List He5.FnW
  | [] => []
  | d :: r => He5.fnA K (d.at_ K) :: obsL K r
def valL : List He5.DefA → List He5.FnW
  | [] => []
  | d :: r => d.val :: valL r
abbrev ObM := Bool × Bool × List He5.FnW
def obsM (fa : List (List Fct)) (fn : List He5.DefA) (K : PySem.W.Frag) : ObM := (fa.all fun l => l.all fun f => f K, fn.all fun d => He5.DefA.ok K d, obsL K fn)
theorem obsL_ok {K : PySem.W.Frag} : ∀ {fn : List He5.DefA}, obsL K fn = valL fn → ∀ {i : Nat} {d : He5.DefA}, fn[i]? = some d → He5.fnA K (d.at_ K) = d.val
  | e :: r, h, 0, d, hd => by
    cases Option.some.inj hd
    exact (List.cons.inj h).1
  | e :: r, h, i + 1, d, hd => obsL_ok (List.cons.inj h).2 (i := i) hd
/-- from what stands at an address on -/
def refs1 (g : Addr → Option Obj) (a : Addr) : List Addr := match g a with
  | some o => He.refsO o
  | none => []
/-- what is looked at: classes, defs and other things of the top by their names, methods by their classes, class methods -/
structure Look where
  cs : List Str
  fs : List Str
  ms : List (Str × List Str)
  ws : List (Str × List Str)
def lookC (L : Look) (g : Addr → Option Obj) (K0 : PySem.W.Frag) : List Addr := (L.cs.map (He.ga K0)) ++ (L.cs.map (He.ga K0)).flatMap (refs1 g)
def lookM (ms : List (Str × List Str)) (K0 K1 : PySem.W.Frag) : List Addr := ms.flatMap fun p => p.2.map (He.ma K1 (He.ga K0 p.1))
def lookR (g : Addr → Option Obj) (fs ws : List Addr) : List Addr := fs.flatMap (fun a => a :: refs1 g a) ++ ws.flatMap (fun a => a :: (refs1 g a).flatMap fun b => b :: refs1 g b)
def look2 (L : Look) (g : Addr → Option Obj) (K0 : PySem.W.Frag) (c1 : List Addr) : List Addr :=
  c1 ++ lookR g (L.fs.map (He.ga K0) ++ lookM L.ms K0 (He.frG g c1)) (lookM L.ws K0 (He.frG g c1)) ++ [cStatics]
def look1 (L : Look) (g : Addr → Option Obj) (K0 : PySem.W.Frag) : List Addr := look2 L g K0 (mainGlobals :: lookC L g K0)
def lookA (L : Look) (g : Addr → Option Obj) : List Addr := look1 L g (He.frG g [mainGlobals])
def obsMG (n : Look) (fa : List (List Fct)) (fn : List He5.DefA) (g : Addr → Option Obj) : ObM := obsM fa fn (He.frG g (lookA n g))
def SaysM (fa : List (List Fct)) (fn : List He5.DefA) (vs : List He5.FnW) (K : PySem.W.Frag) : Prop := (fa.all fun l => l.all fun f => f K) = true ∧ (fn.all fun d => He5.DefA.ok K d) = true ∧ obsL K fn = vs
def hookM (n : Look) (fa : List (List Fct)) (fn : List He5.DefA) (vs : List He5.FnW) : PySem.W.Hook where
  α := ObM
  obs s := obsMG n fa fn s.heap.get?
  val _ := (true, true, vs)
  says _ h := ∃ K : PySem.W.Frag, K.In h ∧ SaysM fa fn vs K
  of w s e := ⟨_, He.frG_in, (Prod.mk.inj e).1, (Prod.mk.inj (Prod.mk.inj e).2).1, (Prod.mk.inj (Prod.mk.inj e).2).2⟩
  keeps w h h' s m := let ⟨K, i, r⟩ := s; ⟨K, fun a o e => m a o (i a o e), r⟩
theorem SaysM.fact {fa : List (List Fct)} {fn : List He5.DefA} {vs : List He5.FnW} {K : PySem.W.Frag} (c : SaysM fa fn vs K) (i j : Nat) {l : List Fct} {f : Fct} (h : fa[i]? = some l := by rfl) (h2 : l[j]? = some f := by rfl) : f K = true :=
  List.all_eq_true.mp (List.all_eq_true.mp c.1 l (List.mem_of_getElem? h)) f (List.mem_of_getElem? h2)
theorem SaysM.is {fa : List (List Fct)} {fn : List He5.DefA} {vs : List He5.FnW} {K : PySem.W.Frag} (c : SaysM fa fn vs K) (i j : Nat) {l : List Fct} {p : PySem.W.Frag → Prop} {d : ∀ K, Decidable (p K)} (h : fa[i]? = some l := by rfl) (h2 : l[j]? = some (fun K => @decide (p K) (d K)) := by rfl) : p K :=
  of_decide_eq_true (c.fact i j h h2)
theorem SaysM.fun_ {fa : List (List Fct)} {fn : List He5.DefA} {vs : List He5.FnW} {K : PySem.W.Frag} (c : SaysM fa fn vs K) (hv : vs = valL fn) (i : Nat) {at_ : PySem.W.Frag → Addr} {x q : Str} {st : Stmt} (h : fn[i]? = some ⟨at_, x, q, defArgs st, defBody st, defScope st, [], []⟩ := by rfl) : ∃ fd, Fun K x q st (at_ K) fd := by
  obtain ⟨fd, F⟩ := He5.DefA.funD (obsL_ok (c.2.2.trans hv) h) (List.all_eq_true.mp c.2.1 _ (List.mem_of_getElem? h))
  exact ⟨fd, He5.fun_of F⟩
theorem obsM_eq {n : Look} {fa : List (List Fct)} {fn : List He5.DefA} {vs : List He5.FnW} (s : PySem.W.SharedT) : obsMG n fa fn (HandSHeadRun.getT s) = (hookM n fa fn vs).obs s.abs := by
  show obsMG n fa fn (HandSHeadRun.getT s) = obsMG n fa fn s.abs.heap.get?
  rw [show HandSHeadRun.getT s = s.abs.heap.get? from funext (HandSHeadRun.getT_eq s)]
/-- a class of errors, as its object stands -/
def excB (K : PySem.W.Frag) (C B : Addr) : Bool :=
  match K.lookup C with
  | some ⟨.type "type", _, .cls cd, sl⟩ => decide (cd.mro = .ref C :: .ref B :: PySem.HandSPX.veTail) && decide (cd.hasDict = true) && decide (cd.hasDel = false) && (match sl.toList with
    | [_, _, _, _, some (.builtin n), _] => decide (n = "ValueError.__new__")
    | _ => false)
  | _ => false
theorem excB_ok {K : PySem.W.Frag} {C B : Addr} (h : excB K C B = true) : ∃ nm q N bs sn sub ab col dd k0 k1 k2 k3 k5, K.lookup C = some (excClassObj nm q C N bs (.ref B :: PySem.HandSPX.veTail) true sn sub ab col dd k0 k1 k2 k3 k5 "ValueError.__new__") := by
  unfold excB at h
  split at h
  next d cd sl e =>
    simp only [Bool.and_eq_true, decide_eq_true_eq] at h
    obtain ⟨⟨⟨hm, hd⟩, hl⟩, hs⟩ := h
    split at hs
    next k0 k1 k2 k3 n k5 e2 =>
      cases of_decide_eq_true hs
      obtain ⟨sl⟩ := sl
      have e2' : sl = [k0, k1, k2, k3, some (.builtin "ValueError.__new__"), k5] := e2
      subst e2'
      obtain ⟨nm, bs, mro, N, q, hdct, sn, sub, ab, col, del⟩ := cd
      have hm' : mro = _ := hm
      have hd' : hdct = true := hd
      have hl' : del = false := hl
      subst hm' hd' hl'
      exact ⟨nm, q, N, bs, sn, sub, ab, col, d, k0, k1, k2, k3, k5, e⟩
    next => cases hs
  next => cases h
theorem walk_ofGE {l : PySem.W.OpenLaw} {n k : Nat} {q : Program} {loose : List Str} {XP : (Str → Option Value) → Heap → Prop} {YP : World → Heap → Prop} {d : DefRec} {sp : PySem.W.Frag → Sp} {x : Str}
    (hn : l.most = some n) (hn2 : n ≤ sizeLine) (hdf : d.params.defaults = []) (hr : Room k callerA)
    (F : ∀ (w : World) (mg : Str → Option Value) (fa : Addr) (h : Heap), YP w h → h.Ns mainGlobals mg → mg d.name = some (.ref fa) →
      ∃ (K : PySem.W.Frag) (fd : FuncData), K.In h ∧ (∀ (s : Shared) (u : Value), BindsTo s fd ⟨[u], []⟩ [(x, u)]) ∧
        ∀ base : Heap, K.In base → base.Ns mainGlobals mg → FnG l.prog w K mg base k fa fd [x] (sp K))
    (hsp : ∀ (K : PySem.W.Frag) (H : Hp) (a : Addr) (ns : List Int), ns.length ≤ n → Only H → SqL K H a (ns.map V.int) → sp K [.ref a] H (fun v _ => v = .bl true) fun _ _ _ => False) :
    PySem.W.WalkO q loose XP YP l.row.toRowW d [] (fun f vs => PySem.call f vs) := by
  refine Att.attach_call hn hdf fun w s₀ s₁ mg mb fa o pm cd doc a vs ns G Y ho hd hcd hmg hobj hints hlen hg => ?_
  obtain ⟨K, fd, KX, hb, hF⟩ := F w mg fa _ Y G.T.g hmg
  exact law_callG KX G.T.g G.T.b G.T.builtins G.T.nolimit hg hobj hints (Nat.le_trans hlen hn2) hr hF hb fun H hO hS => hsp _ H a ns hlen hO hS
end Z
set_option Elab.async false
set_option linter.all false
set_option maxRecDepth 100000
set_option maxHeartbeats 16000000
set_option autoImplicit false
/-! All that the top has written, put together. -/
namespace Z
open PySem PySem.Spec PyProof.Rows L2
open C8 (Cal pe_c Mak pe_mk Met pe_mt pe_mt0 pe_gc)
abbrev s_ie : Stmt := inC (topS 12) 0
theorem sc_ie : FnScope ["self", "word"] ["self", "word"] (defScope s_ie) := ⟨rfl, rfl, rfl, by decide +kernel, rfl, by decide +kernel, by decide +kernel⟩
theorem ok_ie {P : Program} {w : World} {K : PySem.W.Frag} {mg : Str → Option Value} {base : Heap} {C : Addr} {f : Addr} {fd : FuncData} (F : Fun K "__init__" "InvalidSaying.__init__" s_ie f fd) (T : ErrC K C) (nf : PySem.W.findIn K (.ref C) "word" = some none) :
    FnOk P w K mg base CX0 1 f fd ["self", "word"] (spErrInit C "word") := by
  refine F.ok sc_ie (fun vs H Q E h => ?_) (fun cdv A outer s H vs Q E hr h => ?_)
  · obtain ⟨a, v, rfl, _⟩ := h
    rfl
  · obtain ⟨a, v, rfl, ea, q⟩ := h
    exact ⟨_, pss_one (ps_errSet (pv 0) (pv 1)), ⟨_, rfl, _, rfl, a, C, rfl, T, nf, ea, fun dx hd ne => q dx hd ne⟩⟩
def ixF (x_atl x_rst x_fct x_sur x_sil x_kno x_com x_neg x_par : Addr) : Ix → Addr
  | .atl => x_atl
  | .rst => x_rst
  | .fct => x_fct
  | .sur => x_sur
  | .sil => x_sil
  | .kno => x_kno
  | .com => x_com
  | .neg => x_neg
  | .par => x_par
theorem all_mk {P : Program} {w : World} {K : PySem.W.Frag} {h : Heap} {mg : Str → Option Value} {fa : Addr} {KE CI CR CT CS CC TK A_atl A_rst A_fct A_sur A_sil A_kno A_com A_neg A_par f_I f_patl f_tatl f_natl f_prst f_trst f_nrst f_pfct f_tfct f_nfct f_psur f_tsur f_nsur f_psil f_tsil f_nsil f_pkno f_tkno f_nkno f_pcom f_tcom f_ncom f_pneg f_nneg f_ppar f_tneg f_vsur f_ncr f_tcr pN f_cno f_isint f_isnum f_iskind f_isseq f_ckt f_two f_rws f_spc f_ckk f_cks f_strs f_feed f_take f_pick f_hrd f_nmb f_du f_law : Addr}
    {fd_I : FuncData}
    {fd_patl : FuncData}
    {fd_tatl : FuncData}
    {fd_natl : FuncData}
    {fd_prst : FuncData}
    {fd_trst : FuncData}
    {fd_nrst : FuncData}
    {fd_pfct : FuncData}
    {fd_tfct : FuncData}
    {fd_nfct : FuncData}
    {fd_psur : FuncData}
    {fd_tsur : FuncData}
    {fd_nsur : FuncData}
    {fd_psil : FuncData}
    {fd_tsil : FuncData}
    {fd_nsil : FuncData}
    {fd_pkno : FuncData}
    {fd_tkno : FuncData}
    {fd_nkno : FuncData}
    {fd_pcom : FuncData}
    {fd_tcom : FuncData}
    {fd_ncom : FuncData}
    {fd_pneg : FuncData}
    {fd_nneg : FuncData}
    {fd_ppar : FuncData}
    {fd_tneg : FuncData}
    {fd_vsur : FuncData}
    {fd_ncr : FuncData}
    {fd_tcr : FuncData}
    {fd_cno : FuncData}
    {fd_isint : FuncData}
    {fd_isnum : FuncData}
    {fd_iskind : FuncData}
    {fd_isseq : FuncData}
    {fd_ckt : FuncData}
    {fd_two : FuncData}
    {fd_rws : FuncData}
    {fd_spc : FuncData}
    {fd_ckk : FuncData}
    {fd_cks : FuncData}
    {fd_strs : FuncData}
    {fd_feed : FuncData}
    {fd_take : FuncData}
    {fd_pick : FuncData}
    {fd_hrd : FuncData}
    {fd_nmb : FuncData}
    {fd_du : FuncData}
    {fd_law : FuncData}
    (X : K.In h) (G : h.Ns mainGlobals mg) (hfa : mg "law" = some (.ref fa))
    (aK : PySem.W.nsIn K mainGlobals "KnowError" = some (some (.ref KE)))
    (aI : PySem.W.nsIn K mainGlobals "InvalidSaying" = some (some (.ref CI)))
    (aR : PySem.W.nsIn K mainGlobals "InvalidCrowds" = some (some (.ref CR)))
    (aT : PySem.W.nsIn K mainGlobals "InvalidTalk" = some (some (.ref CT)))
    (aS : PySem.W.nsIn K mainGlobals "Saying" = some (some (.ref CS)))
    (aC : PySem.W.nsIn K mainGlobals "Crowds" = some (some (.ref CC)))
    (aKD : PySem.W.nsIn K mainGlobals "KINDS" = some (some (.ref TK)))
    (xI : excB K CI KE = true)
    (kI : PySem.W.keepIn K (.ref CI) = true)
    (gaI : PySem.W.findIn K (.ref CI) "__getattribute__" = some (some (.builtin "BaseException.__getattribute__")))
    (ggI : PySem.W.findIn K (.ref CI) "__getattr__" = some none)
    (exI : PySem.W.subIn K (.ref CI) (.type "BaseException") = some true)
    (hdI : PySem.W.hasDictIn K CI = true)
    (saI : PySem.W.findIn K (.ref CI) "__setattr__" = some (some (.builtin "object.__setattr__")))
    (tyI : PySem.W.typeIn K (.ref CI) = some (.type "type"))
    (ssI : PySem.W.subIn K (.ref CI) (.ref CI) = some true)
    (nfI : PySem.W.findIn K (.ref CI) "word" = some none)
    (haI : PySem.W.findIn K (.ref CI) "__class__" = some (some (.builtin "object.__class__")))
    (hmI : PySem.W.mroIn K CI (.type "object") = some true)
    (k1I : PySem.W.kitOne K (.ref CI) (.ref KE) = some true)
    (k2I : PySem.W.kitAny K (.ref CI) [.ref CR, .ref CT] = some false)
    (iiI : PySem.W.findIn K (.ref CI) "__init__" = some (some (.ref f_I)))
    (tiI : PySem.W.typeIn K (.ref f_I) = some (.type "function"))
    (F_I : Fun K "__init__" "InvalidSaying.__init__" s_ie f_I fd_I)
    (hn : PySem.W.specialIn K (.builtin "object.__class__") "__get__" = some (some (.builtin "getset_descriptor.__get__")))
    (ht : PySem.W.takesIn K (.builtin "object.__class__") = some true)
    (sK : ∀ H : Hp, SqT K H TK kinds)
    (a_atl : PySem.W.nsIn K mainGlobals "AtLeast" = some (some (.ref A_atl)))
    (pg_atl : PySem.W.plainGet K A_atl Str.empty = true)
    (hd_atl : PySem.W.hasDictIn K A_atl = true)
    (po_atl : PySem.W.plainOver K A_atl = true)
    (sa_atl : PySem.W.findIn K (.ref A_atl) "__setattr__" = some (some (.builtin "object.__setattr__")))
    (ca_atl : PySem.W.findIn K (.ref A_atl) "__class__" = some (some (.builtin "object.__class__")))
    (cm_atl : PySem.W.mroIn K A_atl (.type "object") = some true)
    (n_atl_kind : PySem.W.findIn K (.ref A_atl) "kind" = some none)
    (n_atl_number : PySem.W.findIn K (.ref A_atl) "number" = some none)
    (n_atl_depth : PySem.W.findIn K (.ref A_atl) "depth" = some none)
    (n_atl_commons : PySem.W.findIn K (.ref A_atl) "commons" = some none)
    (ks_atl : PySem.W.kitOne K (.ref A_atl) (.type "str") = some false)
    (m_patl : PySem.W.findIn K (.ref A_atl) "pieces" = some (some (.ref f_patl)))
    (F_patl : Fun K "pieces" "AtLeast.pieces" s_pAtLeast f_patl fd_patl)
    (i_patl : PySem.W.isFn K (.ref f_patl) = true)
    (m_tatl : PySem.W.findIn K (.ref A_atl) "__str__" = some (some (.ref f_tatl)))
    (F_tatl : Fun K "__str__" "AtLeast.__str__" s_tAtLeast f_tatl fd_tatl)
    (i_tatl : PySem.W.isFn K (.ref f_tatl) = true)
    (mk_atl : PySem.W.makesIn K A_atl = true)
    (kc_atl : PySem.W.keepIn K (.ref A_atl) = true)
    (m_natl : PySem.W.findIn K (.ref A_atl) "__init__" = some (some (.ref f_natl)))
    (F_natl : Fun K "__init__" "AtLeast.__init__" s_iAtl f_natl fd_natl)
    (i_natl : PySem.W.isFn K (.ref f_natl) = true)
    (a_rst : PySem.W.nsIn K mainGlobals "Rest" = some (some (.ref A_rst)))
    (pg_rst : PySem.W.plainGet K A_rst Str.empty = true)
    (hd_rst : PySem.W.hasDictIn K A_rst = true)
    (po_rst : PySem.W.plainOver K A_rst = true)
    (sa_rst : PySem.W.findIn K (.ref A_rst) "__setattr__" = some (some (.builtin "object.__setattr__")))
    (ca_rst : PySem.W.findIn K (.ref A_rst) "__class__" = some (some (.builtin "object.__class__")))
    (cm_rst : PySem.W.mroIn K A_rst (.type "object") = some true)
    (n_rst_kind : PySem.W.findIn K (.ref A_rst) "kind" = some none)
    (n_rst_rest : PySem.W.findIn K (.ref A_rst) "rest" = some none)
    (n_rst_period : PySem.W.findIn K (.ref A_rst) "period" = some none)
    (n_rst_depth : PySem.W.findIn K (.ref A_rst) "depth" = some none)
    (n_rst_commons : PySem.W.findIn K (.ref A_rst) "commons" = some none)
    (ks_rst : PySem.W.kitOne K (.ref A_rst) (.type "str") = some false)
    (m_prst : PySem.W.findIn K (.ref A_rst) "pieces" = some (some (.ref f_prst)))
    (F_prst : Fun K "pieces" "Rest.pieces" s_pRest f_prst fd_prst)
    (i_prst : PySem.W.isFn K (.ref f_prst) = true)
    (m_trst : PySem.W.findIn K (.ref A_rst) "__str__" = some (some (.ref f_trst)))
    (F_trst : Fun K "__str__" "Rest.__str__" s_tRest f_trst fd_trst)
    (i_trst : PySem.W.isFn K (.ref f_trst) = true)
    (mk_rst : PySem.W.makesIn K A_rst = true)
    (kc_rst : PySem.W.keepIn K (.ref A_rst) = true)
    (m_nrst : PySem.W.findIn K (.ref A_rst) "__init__" = some (some (.ref f_nrst)))
    (F_nrst : Fun K "__init__" "Rest.__init__" s_iRst f_nrst fd_nrst)
    (i_nrst : PySem.W.isFn K (.ref f_nrst) = true)
    (a_fct : PySem.W.nsIn K mainGlobals "Fact" = some (some (.ref A_fct)))
    (pg_fct : PySem.W.plainGet K A_fct Str.empty = true)
    (hd_fct : PySem.W.hasDictIn K A_fct = true)
    (po_fct : PySem.W.plainOver K A_fct = true)
    (sa_fct : PySem.W.findIn K (.ref A_fct) "__setattr__" = some (some (.builtin "object.__setattr__")))
    (ca_fct : PySem.W.findIn K (.ref A_fct) "__class__" = some (some (.builtin "object.__class__")))
    (cm_fct : PySem.W.mroIn K A_fct (.type "object") = some true)
    (n_fct_crowds : PySem.W.findIn K (.ref A_fct) "crowds" = some none)
    (n_fct_depth : PySem.W.findIn K (.ref A_fct) "depth" = some none)
    (n_fct_commons : PySem.W.findIn K (.ref A_fct) "commons" = some none)
    (ks_fct : PySem.W.kitOne K (.ref A_fct) (.type "str") = some false)
    (m_pfct : PySem.W.findIn K (.ref A_fct) "pieces" = some (some (.ref f_pfct)))
    (F_pfct : Fun K "pieces" "Fact.pieces" s_pFact f_pfct fd_pfct)
    (i_pfct : PySem.W.isFn K (.ref f_pfct) = true)
    (m_tfct : PySem.W.findIn K (.ref A_fct) "__str__" = some (some (.ref f_tfct)))
    (F_tfct : Fun K "__str__" "Fact.__str__" s_tFact f_tfct fd_tfct)
    (i_tfct : PySem.W.isFn K (.ref f_tfct) = true)
    (mk_fct : PySem.W.makesIn K A_fct = true)
    (kc_fct : PySem.W.keepIn K (.ref A_fct) = true)
    (m_nfct : PySem.W.findIn K (.ref A_fct) "__init__" = some (some (.ref f_nfct)))
    (F_nfct : Fun K "__init__" "Fact.__init__" s_iFct f_nfct fd_nfct)
    (i_nfct : PySem.W.isFn K (.ref f_nfct) = true)
    (a_sur : PySem.W.nsIn K mainGlobals "Sure" = some (some (.ref A_sur)))
    (pg_sur : PySem.W.plainGet K A_sur Str.empty = true)
    (hd_sur : PySem.W.hasDictIn K A_sur = true)
    (po_sur : PySem.W.plainOver K A_sur = true)
    (sa_sur : PySem.W.findIn K (.ref A_sur) "__setattr__" = some (some (.builtin "object.__setattr__")))
    (ca_sur : PySem.W.findIn K (.ref A_sur) "__class__" = some (some (.builtin "object.__class__")))
    (cm_sur : PySem.W.mroIn K A_sur (.type "object") = some true)
    (n_sur_kind : PySem.W.findIn K (.ref A_sur) "kind" = some none)
    (n_sur_depth : PySem.W.findIn K (.ref A_sur) "depth" = some none)
    (n_sur_commons : PySem.W.findIn K (.ref A_sur) "commons" = some none)
    (ks_sur : PySem.W.kitOne K (.ref A_sur) (.type "str") = some false)
    (m_psur : PySem.W.findIn K (.ref A_sur) "pieces" = some (some (.ref f_psur)))
    (F_psur : Fun K "pieces" "Sure.pieces" s_pSure f_psur fd_psur)
    (i_psur : PySem.W.isFn K (.ref f_psur) = true)
    (m_tsur : PySem.W.findIn K (.ref A_sur) "__str__" = some (some (.ref f_tsur)))
    (F_tsur : Fun K "__str__" "Sure.__str__" s_tSure f_tsur fd_tsur)
    (i_tsur : PySem.W.isFn K (.ref f_tsur) = true)
    (mk_sur : PySem.W.makesIn K A_sur = true)
    (kc_sur : PySem.W.keepIn K (.ref A_sur) = true)
    (m_nsur : PySem.W.findIn K (.ref A_sur) "__init__" = some (some (.ref f_nsur)))
    (F_nsur : Fun K "__init__" "Sure.__init__" s_iSur f_nsur fd_nsur)
    (i_nsur : PySem.W.isFn K (.ref f_nsur) = true)
    (a_sil : PySem.W.nsIn K mainGlobals "Silent" = some (some (.ref A_sil)))
    (pg_sil : PySem.W.plainGet K A_sil Str.empty = true)
    (hd_sil : PySem.W.hasDictIn K A_sil = true)
    (po_sil : PySem.W.plainOver K A_sil = true)
    (sa_sil : PySem.W.findIn K (.ref A_sil) "__setattr__" = some (some (.builtin "object.__setattr__")))
    (ca_sil : PySem.W.findIn K (.ref A_sil) "__class__" = some (some (.builtin "object.__class__")))
    (cm_sil : PySem.W.mroIn K A_sil (.type "object") = some true)
    (n_sil_depth : PySem.W.findIn K (.ref A_sil) "depth" = some none)
    (n_sil_commons : PySem.W.findIn K (.ref A_sil) "commons" = some none)
    (ks_sil : PySem.W.kitOne K (.ref A_sil) (.type "str") = some false)
    (m_psil : PySem.W.findIn K (.ref A_sil) "pieces" = some (some (.ref f_psil)))
    (F_psil : Fun K "pieces" "Silent.pieces" s_pSilent f_psil fd_psil)
    (i_psil : PySem.W.isFn K (.ref f_psil) = true)
    (m_tsil : PySem.W.findIn K (.ref A_sil) "__str__" = some (some (.ref f_tsil)))
    (F_tsil : Fun K "__str__" "Silent.__str__" s_tSilent f_tsil fd_tsil)
    (i_tsil : PySem.W.isFn K (.ref f_tsil) = true)
    (mk_sil : PySem.W.makesIn K A_sil = true)
    (kc_sil : PySem.W.keepIn K (.ref A_sil) = true)
    (m_nsil : PySem.W.findIn K (.ref A_sil) "__init__" = some (some (.ref f_nsil)))
    (F_nsil : Fun K "__init__" "Silent.__init__" s_iSil f_nsil fd_nsil)
    (i_nsil : PySem.W.isFn K (.ref f_nsil) = true)
    (a_kno : PySem.W.nsIn K mainGlobals "Knows" = some (some (.ref A_kno)))
    (pg_kno : PySem.W.plainGet K A_kno Str.empty = true)
    (hd_kno : PySem.W.hasDictIn K A_kno = true)
    (po_kno : PySem.W.plainOver K A_kno = true)
    (sa_kno : PySem.W.findIn K (.ref A_kno) "__setattr__" = some (some (.builtin "object.__setattr__")))
    (ca_kno : PySem.W.findIn K (.ref A_kno) "__class__" = some (some (.builtin "object.__class__")))
    (cm_kno : PySem.W.mroIn K A_kno (.type "object") = some true)
    (n_kno_kind : PySem.W.findIn K (.ref A_kno) "kind" = some none)
    (n_kno_saying : PySem.W.findIn K (.ref A_kno) "saying" = some none)
    (n_kno_depth : PySem.W.findIn K (.ref A_kno) "depth" = some none)
    (n_kno_commons : PySem.W.findIn K (.ref A_kno) "commons" = some none)
    (ks_kno : PySem.W.kitOne K (.ref A_kno) (.type "str") = some false)
    (m_pkno : PySem.W.findIn K (.ref A_kno) "pieces" = some (some (.ref f_pkno)))
    (F_pkno : Fun K "pieces" "Knows.pieces" s_pKnows f_pkno fd_pkno)
    (i_pkno : PySem.W.isFn K (.ref f_pkno) = true)
    (m_tkno : PySem.W.findIn K (.ref A_kno) "__str__" = some (some (.ref f_tkno)))
    (F_tkno : Fun K "__str__" "Knows.__str__" s_tKnows f_tkno fd_tkno)
    (i_tkno : PySem.W.isFn K (.ref f_tkno) = true)
    (mk_kno : PySem.W.makesIn K A_kno = true)
    (kc_kno : PySem.W.keepIn K (.ref A_kno) = true)
    (m_nkno : PySem.W.findIn K (.ref A_kno) "__init__" = some (some (.ref f_nkno)))
    (F_nkno : Fun K "__init__" "Knows.__init__" s_iKno f_nkno fd_nkno)
    (i_nkno : PySem.W.isFn K (.ref f_nkno) = true)
    (a_com : PySem.W.nsIn K mainGlobals "Common" = some (some (.ref A_com)))
    (pg_com : PySem.W.plainGet K A_com Str.empty = true)
    (hd_com : PySem.W.hasDictIn K A_com = true)
    (po_com : PySem.W.plainOver K A_com = true)
    (sa_com : PySem.W.findIn K (.ref A_com) "__setattr__" = some (some (.builtin "object.__setattr__")))
    (ca_com : PySem.W.findIn K (.ref A_com) "__class__" = some (some (.builtin "object.__class__")))
    (cm_com : PySem.W.mroIn K A_com (.type "object") = some true)
    (n_com_saying : PySem.W.findIn K (.ref A_com) "saying" = some none)
    (n_com_depth : PySem.W.findIn K (.ref A_com) "depth" = some none)
    (n_com_commons : PySem.W.findIn K (.ref A_com) "commons" = some none)
    (ks_com : PySem.W.kitOne K (.ref A_com) (.type "str") = some false)
    (m_pcom : PySem.W.findIn K (.ref A_com) "pieces" = some (some (.ref f_pcom)))
    (F_pcom : Fun K "pieces" "Common.pieces" s_pCommon f_pcom fd_pcom)
    (i_pcom : PySem.W.isFn K (.ref f_pcom) = true)
    (m_tcom : PySem.W.findIn K (.ref A_com) "__str__" = some (some (.ref f_tcom)))
    (F_tcom : Fun K "__str__" "Common.__str__" s_tCommon f_tcom fd_tcom)
    (i_tcom : PySem.W.isFn K (.ref f_tcom) = true)
    (mk_com : PySem.W.makesIn K A_com = true)
    (kc_com : PySem.W.keepIn K (.ref A_com) = true)
    (m_ncom : PySem.W.findIn K (.ref A_com) "__init__" = some (some (.ref f_ncom)))
    (F_ncom : Fun K "__init__" "Common.__init__" s_iCom f_ncom fd_ncom)
    (i_ncom : PySem.W.isFn K (.ref f_ncom) = true)
    (a_neg : PySem.W.nsIn K mainGlobals "Not" = some (some (.ref A_neg)))
    (pg_neg : PySem.W.plainGet K A_neg Str.empty = true)
    (hd_neg : PySem.W.hasDictIn K A_neg = true)
    (po_neg : PySem.W.plainOver K A_neg = true)
    (sa_neg : PySem.W.findIn K (.ref A_neg) "__setattr__" = some (some (.builtin "object.__setattr__")))
    (ca_neg : PySem.W.findIn K (.ref A_neg) "__class__" = some (some (.builtin "object.__class__")))
    (cm_neg : PySem.W.mroIn K A_neg (.type "object") = some true)
    (n_neg_saying : PySem.W.findIn K (.ref A_neg) "saying" = some none)
    (n_neg_depth : PySem.W.findIn K (.ref A_neg) "depth" = some none)
    (n_neg_commons : PySem.W.findIn K (.ref A_neg) "commons" = some none)
    (ks_neg : PySem.W.kitOne K (.ref A_neg) (.type "str") = some false)
    (m_pneg : PySem.W.findIn K (.ref A_neg) "pieces" = some (some (.ref f_pneg)))
    (F_pneg : Fun K "pieces" "Not.pieces" s_pNot f_pneg fd_pneg)
    (i_pneg : PySem.W.isFn K (.ref f_pneg) = true)
    (mk_neg : PySem.W.makesIn K A_neg = true)
    (kc_neg : PySem.W.keepIn K (.ref A_neg) = true)
    (m_nneg : PySem.W.findIn K (.ref A_neg) "__init__" = some (some (.ref f_nneg)))
    (F_nneg : Fun K "__init__" "Not.__init__" s_iNeg f_nneg fd_nneg)
    (i_nneg : PySem.W.isFn K (.ref f_nneg) = true)
    (a_par : PySem.W.nsIn K mainGlobals "Pair" = some (some (.ref A_par)))
    (pg_par : PySem.W.plainGet K A_par Str.empty = true)
    (hd_par : PySem.W.hasDictIn K A_par = true)
    (po_par : PySem.W.plainOver K A_par = true)
    (sa_par : PySem.W.findIn K (.ref A_par) "__setattr__" = some (some (.builtin "object.__setattr__")))
    (ca_par : PySem.W.findIn K (.ref A_par) "__class__" = some (some (.builtin "object.__class__")))
    (cm_par : PySem.W.mroIn K A_par (.type "object") = some true)
    (n_par_sign : PySem.W.findIn K (.ref A_par) "sign" = some none)
    (n_par_first : PySem.W.findIn K (.ref A_par) "first" = some none)
    (n_par_second : PySem.W.findIn K (.ref A_par) "second" = some none)
    (n_par_depth : PySem.W.findIn K (.ref A_par) "depth" = some none)
    (n_par_commons : PySem.W.findIn K (.ref A_par) "commons" = some none)
    (ks_par : PySem.W.kitOne K (.ref A_par) (.type "str") = some false)
    (m_ppar : PySem.W.findIn K (.ref A_par) "pieces" = some (some (.ref f_ppar)))
    (F_ppar : Fun K "pieces" "Pair.pieces" s_pPair f_ppar fd_ppar)
    (i_ppar : PySem.W.isFn K (.ref f_ppar) = true)
    (m_tneg : PySem.W.findIn K (.ref A_neg) "__str__" = some (some (.ref f_tneg)))
    (F_tneg : Fun K "__str__" "Saying.__str__" s_tSaying f_tneg fd_tneg)
    (i_tneg : PySem.W.isFn K (.ref f_tneg) = true)
    (m_tpar : PySem.W.findIn K (.ref A_par) "__str__" = some (some (.ref f_tneg)))
    (m_vsur : PySem.W.findIn K (.ref A_sur) "__invert__" = some (some (.ref f_vsur)))
    (F_vsur : Fun K "__invert__" "Sure.__invert__" s_vSure f_vsur fd_vsur)
    (i_vsur : PySem.W.isFn K (.ref f_vsur) = true)
    (pg_cr : PySem.W.plainGet K CC Str.empty = true)
    (hd_cr : PySem.W.hasDictIn K CC = true)
    (po_cr : PySem.W.plainOver K CC = true)
    (sa_cr : PySem.W.findIn K (.ref CC) "__setattr__" = some (some (.builtin "object.__setattr__")))
    (ca_cr : PySem.W.findIn K (.ref CC) "__class__" = some (some (.builtin "object.__class__")))
    (cm_cr : PySem.W.mroIn K CC (.type "object") = some true)
    (n_cr_starts : PySem.W.findIn K (.ref CC) "starts" = some none)
    (n_cr_periods : PySem.W.findIn K (.ref CC) "periods" = some none)
    (n_cr_rows : PySem.W.findIn K (.ref CC) "rows" = some none)
    (mk_cr : PySem.W.makesIn K CC = true)
    (kc_cr : PySem.W.keepIn K (.ref CC) = true)
    (m_ncr : PySem.W.findIn K (.ref CC) "__init__" = some (some (.ref f_ncr)))
    (F_ncr : Fun K "__init__" "Crowds.__init__" s_cini f_ncr fd_ncr)
    (i_ncr : PySem.W.isFn K (.ref f_ncr) = true)
    (m_tcr : PySem.W.findIn K (.ref CC) "__str__" = some (some (.ref f_tcr)))
    (F_tcr : Fun K "__str__" "Crowds.__str__" s_cstr f_tcr fd_tcr)
    (i_tcr : PySem.W.isFn K (.ref f_tcr) = true)
    (cmN : ClX.CMet K CC (.type "type") "nothing" pN f_cno)
    (F_cno : Fun K "nothing" "Crowds.nothing" s_cno f_cno fd_cno)
    (rdC : PySem.W.readsIn K CC (.type "type") = true)
    (gaC : PySem.W.specialIn K (.ref CC) "__getattribute__" = some (some (.builtin "type.__getattribute__")))
    (kcc : PySem.W.kitOne K (.ref CC) (.ref CC) = some true)
    (kcs : PySem.W.kitOne K (.ref CC) (.ref CS) = some false)
    (knc : PySem.W.kitOne K (.ref A_neg) (.ref CC) = some false)
    (kns : PySem.W.kitOne K (.ref A_neg) (.ref CS) = some true)
    (kc_TNoneType : PySem.W.kitOne K (.type "NoneType") (.ref CC) = some false)
    (ks_TNoneType : PySem.W.kitOne K (.type "NoneType") (.ref CS) = some false)
    (kc_Tstr : PySem.W.kitOne K (.type "str") (.ref CC) = some false)
    (ks_Tstr : PySem.W.kitOne K (.type "str") (.ref CS) = some false)
    (kc_Tint : PySem.W.kitOne K (.type "int") (.ref CC) = some false)
    (ks_Tint : PySem.W.kitOne K (.type "int") (.ref CS) = some false)
    (kc_Ttuple : PySem.W.kitOne K (.type "tuple") (.ref CC) = some false)
    (ks_Ttuple : PySem.W.kitOne K (.type "tuple") (.ref CS) = some false)
    (kc_Tlist : PySem.W.kitOne K (.type "list") (.ref CC) = some false)
    (ks_Tlist : PySem.W.kitOne K (.type "list") (.ref CS) = some false)
    (z_int : PySem.W.nsIn K mainGlobals "int" = some none)
    (z_len : PySem.W.nsIn K mainGlobals "len" = some none)
    (z_range : PySem.W.nsIn K mainGlobals "range" = some none)
    (z_tuple : PySem.W.nsIn K mainGlobals "tuple" = some none)
    (z_isinstance : PySem.W.nsIn K mainGlobals "isinstance" = some none)
    (z_list : PySem.W.nsIn K mainGlobals "list" = some none)
    (z_bool : PySem.W.nsIn K mainGlobals "bool" = some none)
    (z_str : PySem.W.nsIn K mainGlobals "str" = some none)
    (z_all : PySem.W.nsIn K mainGlobals "all" = some none)
    (z_set : PySem.W.nsIn K mainGlobals "set" = some none)
    (z_sorted : PySem.W.nsIn K mainGlobals "sorted" = some none)
    (z_max : PySem.W.nsIn K mainGlobals "max" = some none)
    (z_min : PySem.W.nsIn K mainGlobals "min" = some none)
    (z_repr : PySem.W.nsIn K mainGlobals "repr" = some none)
    (a_isint : PySem.W.nsIn K mainGlobals "is_integer" = some (some (.ref f_isint)))
    (F_isint : Fun K "is_integer" "is_integer" s_isint f_isint fd_isint)
    (a_isnum : PySem.W.nsIn K mainGlobals "is_number" = some (some (.ref f_isnum)))
    (F_isnum : Fun K "is_number" "is_number" s_isnum f_isnum fd_isnum)
    (a_iskind : PySem.W.nsIn K mainGlobals "is_kind" = some (some (.ref f_iskind)))
    (F_iskind : Fun K "is_kind" "is_kind" s_iskind f_iskind fd_iskind)
    (a_isseq : PySem.W.nsIn K mainGlobals "is_sequence" = some (some (.ref f_isseq)))
    (F_isseq : Fun K "is_sequence" "is_sequence" s_isseq f_isseq fd_isseq)
    (a_ckt : PySem.W.nsIn K mainGlobals "_check_table" = some (some (.ref f_ckt)))
    (F_ckt : Fun K "_check_table" "_check_table" s_ckt f_ckt fd_ckt)
    (a_two : PySem.W.nsIn K mainGlobals "_are_two_from" = some (some (.ref f_two)))
    (F_two : Fun K "_are_two_from" "_are_two_from" s_two f_two fd_two)
    (a_rws : PySem.W.nsIn K mainGlobals "_are_rows" = some (some (.ref f_rws)))
    (F_rws : Fun K "_are_rows" "_are_rows" s_rws f_rws fd_rws)
    (a_spc : PySem.W.nsIn K mainGlobals "_spaced" = some (some (.ref f_spc)))
    (F_spc : Fun K "_spaced" "_spaced" s_spc f_spc fd_spc)
    (a_ckk : PySem.W.nsIn K mainGlobals "_check_kind" = some (some (.ref f_ckk)))
    (F_ckk : Fun K "_check_kind" "_check_kind" s_ckk f_ckk fd_ckk)
    (a_cks : PySem.W.nsIn K mainGlobals "_check_saying" = some (some (.ref f_cks)))
    (F_cks : Fun K "_check_saying" "_check_saying" s_cks f_cks fd_cks)
    (a_strs : PySem.W.nsIn K mainGlobals "strings_of" = some (some (.ref f_strs)))
    (F_strs : Fun K "strings_of" "strings_of" s_strs f_strs fd_strs)
    (a_feed : PySem.W.nsIn K mainGlobals "_law_feed" = some (some (.ref f_feed)))
    (F_feed : Fun K "_law_feed" "_law_feed" s_feed f_feed fd_feed)
    (a_take : PySem.W.nsIn K mainGlobals "_law_take" = some (some (.ref f_take)))
    (F_take : Fun K "_law_take" "_law_take" s_take f_take fd_take)
    (a_pick : PySem.W.nsIn K mainGlobals "_law_pick" = some (some (.ref f_pick)))
    (F_pick : Fun K "_law_pick" "_law_pick" s_pick f_pick fd_pick)
    (a_hrd : PySem.W.nsIn K mainGlobals "_law_heard" = some (some (.ref f_hrd)))
    (F_hrd : Fun K "_law_heard" "_law_heard" s_hrd f_hrd fd_hrd)
    (a_nmb : PySem.W.nsIn K mainGlobals "_law_number" = some (some (.ref f_nmb)))
    (F_nmb : Fun K "_law_number" "_law_number" s_nmb f_nmb fd_nmb)
    (a_du : PySem.W.nsIn K mainGlobals "_law_due" = some (some (.ref f_du)))
    (F_du : Fun K "_law_due" "_law_due" s_du f_du fd_du)
    (a_law : PySem.W.nsIn K mainGlobals "law" = some (some (.ref f_law)))
    (F_law : Fun K "law" "law" s_law f_law fd_law) :
    ∃ fd : FuncData, (∀ (s : Shared) (u : Value), BindsTo s fd ⟨[u], []⟩ [("_law_script", u)]) ∧ ∀ base : Heap, K.In base → base.Ns mainGlobals mg → FnG P w K mg base 11 fa fd p_law (spLaw K) := by
  have e := hfa.symm.trans (PySem.W.mg_of X G a_law)
  cases e
  obtain ⟨nm0, q0, N0, bs0, sn0, sub0, ab0, col0, dd0, v0a, v0b, v0c, v0d, v0e, xI⟩ := excB_ok xI
  have k_isint := F_isint.kp
  have b_isint := F_isint.binds (ps := ["value"]) fun _ _ _ _ _ _ us hl => match us, hl with | [_], _ => rfl
  have k_isnum := F_isnum.kp
  have b_isnum := F_isnum.binds (ps := ["value"]) fun _ _ _ _ _ _ us hl => match us, hl with | [_], _ => rfl
  have k_iskind := F_iskind.kp
  have b_iskind := F_iskind.binds (ps := ["value"]) fun _ _ _ _ _ _ us hl => match us, hl with | [_], _ => rfl
  have k_isseq := F_isseq.kp
  have b_isseq := F_isseq.binds (ps := ["value"]) fun _ _ _ _ _ _ us hl => match us, hl with | [_], _ => rfl
  have k_ckt := F_ckt.kp
  have b_ckt := F_ckt.binds (ps := n_ckt) fun _ _ _ _ _ _ us hl => match us, hl with | [_, _, _], _ => rfl
  have k_two := F_two.kp
  have b_two := F_two.binds (ps := ["lowest", "values"]) fun _ _ _ _ _ _ us hl => match us, hl with | [_, _], _ => rfl
  have k_rws := F_rws.kp
  have b_rws := F_rws.binds (ps := ["rows", "height", "width"]) fun _ _ _ _ _ _ us hl => match us, hl with | [_, _, _], _ => rfl
  have k_spc := F_spc.kp
  have b_spc := F_spc.binds (ps := ["parts"]) fun _ _ _ _ _ _ us hl => match us, hl with | [_], _ => rfl
  have k_ckk := F_ckk.kp
  have b_ckk := F_ckk.binds (ps := ["kind"]) fun _ _ _ _ _ _ us hl => match us, hl with | [_], _ => rfl
  have k_cks := F_cks.kp
  have b_cks := F_cks.binds (ps := ["saying"]) fun _ _ _ _ _ _ us hl => match us, hl with | [_], _ => rfl
  have k_strs := F_strs.kp
  have b_strs := F_strs.binds (ps := ["saying"]) fun _ _ _ _ _ _ us hl => match us, hl with | [_], _ => rfl
  have k_feed := F_feed.kp
  have b_feed := F_feed.binds (ps := p_feed) fun _ _ _ _ _ _ us hl => match us, hl with | [_, _], _ => rfl
  have k_take := F_take.kp
  have b_take := F_take.binds (ps := p_take) fun _ _ _ _ _ _ us hl => match us, hl with | [_, _], _ => rfl
  have k_pick := F_pick.kp
  have b_pick := F_pick.binds (ps := p_pick) fun _ _ _ _ _ _ us hl => match us, hl with | [_, _], _ => rfl
  have k_hrd := F_hrd.kp
  have b_hrd := F_hrd.binds (ps := p_hrd) fun _ _ _ _ _ _ us hl => match us, hl with | [_, _], _ => rfl
  have k_nmb := F_nmb.kp
  have b_nmb := F_nmb.binds (ps := ["_law_box"]) fun _ _ _ _ _ _ us hl => match us, hl with | [_], _ => rfl
  have k_du := F_du.kp
  have b_du := F_du.binds (ps := n_du) fun _ _ _ _ _ _ us hl => match us, hl with | [_, _, _, _, _], _ => rfl
  have k_patl := F_patl.kp
  have b_patl := F_patl.binds (ps := ["self"]) fun _ _ _ _ _ _ us hl => match us, hl with | [_], _ => rfl
  have k_tatl := F_tatl.kp
  have b_tatl := F_tatl.binds (ps := ["self"]) fun _ _ _ _ _ _ us hl => match us, hl with | [_], _ => rfl
  have k_natl := F_natl.kp
  have b_natl := F_natl.binds (ps := ["self", "kind", "number"]) fun _ _ _ _ _ _ us hl => match us, hl with | [_, _, _], _ => rfl
  have k_prst := F_prst.kp
  have b_prst := F_prst.binds (ps := ["self"]) fun _ _ _ _ _ _ us hl => match us, hl with | [_], _ => rfl
  have k_trst := F_trst.kp
  have b_trst := F_trst.binds (ps := ["self"]) fun _ _ _ _ _ _ us hl => match us, hl with | [_], _ => rfl
  have k_nrst := F_nrst.kp
  have b_nrst := F_nrst.binds (ps := ["self", "kind", "rest", "period"]) fun _ _ _ _ _ _ us hl => match us, hl with | [_, _, _, _], _ => rfl
  have k_pfct := F_pfct.kp
  have b_pfct := F_pfct.binds (ps := ["self"]) fun _ _ _ _ _ _ us hl => match us, hl with | [_], _ => rfl
  have k_tfct := F_tfct.kp
  have b_tfct := F_tfct.binds (ps := ["self"]) fun _ _ _ _ _ _ us hl => match us, hl with | [_], _ => rfl
  have k_nfct := F_nfct.kp
  have b_nfct := F_nfct.binds (ps := ["self", "crowds"]) fun _ _ _ _ _ _ us hl => match us, hl with | [_, _], _ => rfl
  have k_psur := F_psur.kp
  have b_psur := F_psur.binds (ps := ["self"]) fun _ _ _ _ _ _ us hl => match us, hl with | [_], _ => rfl
  have k_tsur := F_tsur.kp
  have b_tsur := F_tsur.binds (ps := ["self"]) fun _ _ _ _ _ _ us hl => match us, hl with | [_], _ => rfl
  have k_nsur := F_nsur.kp
  have b_nsur := F_nsur.binds (ps := ["self", "kind"]) fun _ _ _ _ _ _ us hl => match us, hl with | [_, _], _ => rfl
  have k_psil := F_psil.kp
  have b_psil := F_psil.binds (ps := ["self"]) fun _ _ _ _ _ _ us hl => match us, hl with | [_], _ => rfl
  have k_tsil := F_tsil.kp
  have b_tsil := F_tsil.binds (ps := ["self"]) fun _ _ _ _ _ _ us hl => match us, hl with | [_], _ => rfl
  have k_nsil := F_nsil.kp
  have b_nsil := F_nsil.binds (ps := ["self"]) fun _ _ _ _ _ _ us hl => match us, hl with | [_], _ => rfl
  have k_pkno := F_pkno.kp
  have b_pkno := F_pkno.binds (ps := ["self"]) fun _ _ _ _ _ _ us hl => match us, hl with | [_], _ => rfl
  have k_tkno := F_tkno.kp
  have b_tkno := F_tkno.binds (ps := ["self"]) fun _ _ _ _ _ _ us hl => match us, hl with | [_], _ => rfl
  have k_nkno := F_nkno.kp
  have b_nkno := F_nkno.binds (ps := ["self", "kind", "saying"]) fun _ _ _ _ _ _ us hl => match us, hl with | [_, _, _], _ => rfl
  have k_pcom := F_pcom.kp
  have b_pcom := F_pcom.binds (ps := ["self"]) fun _ _ _ _ _ _ us hl => match us, hl with | [_], _ => rfl
  have k_tcom := F_tcom.kp
  have b_tcom := F_tcom.binds (ps := ["self"]) fun _ _ _ _ _ _ us hl => match us, hl with | [_], _ => rfl
  have k_ncom := F_ncom.kp
  have b_ncom := F_ncom.binds (ps := ["self", "saying"]) fun _ _ _ _ _ _ us hl => match us, hl with | [_, _], _ => rfl
  have k_pneg := F_pneg.kp
  have b_pneg := F_pneg.binds (ps := ["self"]) fun _ _ _ _ _ _ us hl => match us, hl with | [_], _ => rfl
  have k_nneg := F_nneg.kp
  have b_nneg := F_nneg.binds (ps := ["self", "saying"]) fun _ _ _ _ _ _ us hl => match us, hl with | [_, _], _ => rfl
  have k_ppar := F_ppar.kp
  have b_ppar := F_ppar.binds (ps := ["self"]) fun _ _ _ _ _ _ us hl => match us, hl with | [_], _ => rfl
  have k_tneg := F_tneg.kp
  have b_tneg := F_tneg.binds (ps := ["self"]) fun _ _ _ _ _ _ us hl => match us, hl with | [_], _ => rfl
  have k_vsur := F_vsur.kp
  have b_vsur := F_vsur.binds (ps := ["self"]) fun _ _ _ _ _ _ us hl => match us, hl with | [_], _ => rfl
  have k_ncr := F_ncr.kp
  have b_ncr := F_ncr.binds (ps := p_cini) fun _ _ _ _ _ _ us hl => match us, hl with | [_, _, _, _], _ => rfl
  have k_tcr := F_tcr.kp
  have b_tcr := F_tcr.binds (ps := ["self"]) fun _ _ _ _ _ _ us hl => match us, hl with | [_], _ => rfl
  have k_cno := F_cno.kp
  have b_cno := F_cno.binds (ps := ["cls"]) fun _ _ _ _ _ _ us hl => match us, hl with | [_], _ => rfl
  have k_I := F_I.kp
  have b_I := F_I.binds (ps := ["self", "word"]) fun _ _ _ _ _ _ us hl => match us, hl with | [_, _], _ => rfl
  have EI : ErrC K CI := ⟨⟨_, _, _, _, _, _, _, _, _, _, _, _, _, _, _, _, _, _, _, PySem.F.excBase_ValueError, (chain_VE (bm := .ref KE :: PySem.HandSPX.veTail) rfl), xI⟩, saI, gaI, ggI, exI, kI, hdI⟩
  have OI : OexC K CI := ⟨⟨nm0, q0, N0, bs0, _, sn0, sub0, ab0, col0, dd0, v0a, v0b, v0c, v0d, v0e, xI, rfl⟩, saI, exI, tyI, kI⟩
  have XI : XfC K CI := ⟨gaI, ggI, exI, hdI⟩
  have XC : ExcC K CI := ⟨gaI, ggI, exI, hdI, haI, hn, ht, hmI⟩
  have ER : ErS K CI KE CR CT := ⟨XI, XC, nfI, PySem.W.exm_ref (cls := .ref CI) exI hdI tyI ssI, k1I, k2I⟩
  have I_atl : InsC K A_atl := ⟨⟨pg_atl, hd_atl, po_atl, sa_atl⟩, ca_atl, hn, ht, cm_atl⟩
  have I_rst : InsC K A_rst := ⟨⟨pg_rst, hd_rst, po_rst, sa_rst⟩, ca_rst, hn, ht, cm_rst⟩
  have I_fct : InsC K A_fct := ⟨⟨pg_fct, hd_fct, po_fct, sa_fct⟩, ca_fct, hn, ht, cm_fct⟩
  have I_sur : InsC K A_sur := ⟨⟨pg_sur, hd_sur, po_sur, sa_sur⟩, ca_sur, hn, ht, cm_sur⟩
  have I_sil : InsC K A_sil := ⟨⟨pg_sil, hd_sil, po_sil, sa_sil⟩, ca_sil, hn, ht, cm_sil⟩
  have I_kno : InsC K A_kno := ⟨⟨pg_kno, hd_kno, po_kno, sa_kno⟩, ca_kno, hn, ht, cm_kno⟩
  have I_com : InsC K A_com := ⟨⟨pg_com, hd_com, po_com, sa_com⟩, ca_com, hn, ht, cm_com⟩
  have I_neg : InsC K A_neg := ⟨⟨pg_neg, hd_neg, po_neg, sa_neg⟩, ca_neg, hn, ht, cm_neg⟩
  have I_par : InsC K A_par := ⟨⟨pg_par, hd_par, po_par, sa_par⟩, ca_par, hn, ht, cm_par⟩
  have I_cr : InsC K CC := ⟨⟨pg_cr, hd_cr, po_cr, sa_cr⟩, ca_cr, hn, ht, cm_cr⟩
  have cC : CrC K CC := ⟨I_cr, n_cr_starts, n_cr_periods, n_cr_rows⟩
  have S : SyC K (wdOf K CC (ixF A_atl A_rst A_fct A_sur A_sil A_kno A_com A_neg A_par)) := by
    refine ⟨fun i => by cases i <;> assumption, fun i f hf => ?_, fun i => by cases i <;> assumption⟩
    cases i <;> simp only [flds, List.mem_cons, List.not_mem_nil, or_false] at hf
    · rcases hf with rfl | rfl | rfl | rfl <;> assumption
    · rcases hf with rfl | rfl | rfl | rfl | rfl <;> assumption
    · rcases hf with rfl | rfl | rfl <;> assumption
    · rcases hf with rfl | rfl | rfl <;> assumption
    · rcases hf with rfl | rfl <;> assumption
    · rcases hf with rfl | rfl | rfl | rfl <;> assumption
    · rcases hf with rfl | rfl | rfl <;> assumption
    · rcases hf with rfl | rfl | rfl <;> assumption
    · rcases hf with rfl | rfl | rfl | rfl | rfl <;> assumption
  have T : Bt mg := ⟨PySem.W.mg_none_of X G z_int, PySem.W.mg_none_of X G z_len, PySem.W.mg_none_of X G z_range, PySem.W.mg_none_of X G z_tuple, PySem.W.mg_none_of X G z_isinstance, PySem.W.mg_none_of X G z_list, PySem.W.mg_none_of X G z_bool, PySem.W.mg_none_of X G z_str, PySem.W.mg_none_of X G z_all, PySem.W.mg_none_of X G z_set, PySem.W.mg_none_of X G z_sorted, PySem.W.mg_none_of X G z_max, PySem.W.mg_none_of X G z_min, PySem.W.mg_none_of X G z_repr⟩
  have KT : KtS K (wdOf K CC (ixF A_atl A_rst A_fct A_sur A_sil A_kno A_com A_neg A_par)) CC CS := ⟨I_cr, kcc, kcs, knc, kns, fun T hT => by
    rcases hT with rfl | rfl | rfl | rfl | rfl
    · exact ⟨kc_TNoneType, ks_TNoneType⟩
    · exact ⟨kc_Tstr, ks_Tstr⟩
    · exact ⟨kc_Tint, ks_Tint⟩
    · exact ⟨kc_Ttuple, ks_Ttuple⟩
    · exact ⟨kc_Tlist, ks_Tlist⟩
    ⟩
  obtain ⟨oc, od, kV, doc, pm, an, cdv, ct, osl, rfl, _⟩ := F_law.ex
  refine ⟨PySem.W.fnOf "law" "law" (defArgs s_law) (defBody s_law) (defScope s_law) .none kV doc pm an cdv ct, fun s u => .of_eq rfl, fun base _ _ => ?_⟩
  have B : BadE P w K mg base "InvalidSaying" "word" CI := ⟨OI, PySem.W.mg_of X G aI, _, _, iiI, tiI, ok_ie F_I EI nfI, b_I⟩
  have Cisint : Cal P w K mg base 1 "is_integer" (spIn K) [] := ⟨⟨_, _, _, [], ok_isint F_isint T, PySem.W.mg_of X G a_isint, k_isint, b_isint, .nil⟩⟩
  have Cisnum : Cal P w K mg base 2 "is_number" (spNm K) [] := ⟨⟨_, _, _, [], ok_isnum F_isnum Cisint, PySem.W.mg_of X G a_isnum, k_isnum, b_isnum, .nil⟩⟩
  have Ciskind : Cal P w K mg base 1 "is_kind" (spKd K) [] := ⟨⟨_, _, _, [], ok_iskind F_iskind T (PySem.W.mg_of X G aKD) sK, PySem.W.mg_of X G a_iskind, k_iskind, b_iskind, .nil⟩⟩
  have Cisseq : Cal P w K mg base 1 "is_sequence" (spSeq K) [] := ⟨⟨_, _, _, [], ok_isseq F_isseq T, PySem.W.mg_of X G a_isseq, k_isseq, b_isseq, .nil⟩⟩
  have Ctwo : Cal P w K mg base 2 "_are_two_from" (spTwo K) [] := ⟨⟨_, _, _, [], ok_two F_two T Cisseq Cisint, PySem.W.mg_of X G a_two, k_two, b_two, .nil⟩⟩
  have Crws : Cal P w K mg base 2 "_are_rows" (spRws K) [] := ⟨⟨_, _, _, [], ok_rws F_rws T Cisseq, PySem.W.mg_of X G a_rws, k_rws, b_rws, .nil⟩⟩
  have Cckt : Cal P w K mg base 3 "_check_table" (spCkT K) [] := ⟨⟨_, _, _, [], ok_ckt F_ckt Ctwo Crws, PySem.W.mg_of X G a_ckt, k_ckt, b_ckt, .nil⟩⟩
  have Mcr : Mk K CC f_ncr := ⟨mk_cr, m_ncr, i_ncr, kc_cr⟩
  have FC := ok_cini (P := P) (w := w) (base := base) F_ncr T cC Cckt
  have FNo : FnR P w K mg base CX0 6 f_cno (spNo K CC) := ((ok_cno (P := P) (w := w) (base := base) F_cno Mcr FC b_ncr).raw b_cno .nil).imp fun vs H Q E h => by rw [List.append_nil]; exact h
  have Cspc : Cal P w K mg base 1 "_spaced" (spSpc K) [] := ⟨⟨_, _, _, [], ok_spc F_spc T, PySem.W.mg_of X G a_spc, k_spc, b_spc, .nil⟩⟩
  have Tcr : Met P w K mg base 2 CC "__str__" (spCrS (wdOf K CC (ixF A_atl A_rst A_fct A_sur A_sil A_kno A_com A_neg A_par))) [] := ⟨⟨_, _, _, [], I_cr.c, ⟨m_tcr, i_tcr, k_tcr⟩, ok_cstr F_tcr cC Cspc, b_tcr, .nil⟩⟩
  have cP : ∀ i, Met P w K mg base 5 ((wdOf K CC (ixF A_atl A_rst A_fct A_sur A_sil A_kno A_com A_neg A_par)).C i) "pieces" (spPcs (wdOf K CC (ixF A_atl A_rst A_fct A_sur A_sil A_kno A_com A_neg A_par)) i) [] := fun i => by
    cases i
    · exact ⟨⟨_, _, _, [], I_atl.c, ⟨m_patl, i_patl, k_patl⟩, ok_pAtLeast F_patl S, b_patl, .nil⟩⟩
    · exact ⟨⟨_, _, _, [], I_rst.c, ⟨m_prst, i_prst, k_prst⟩, ok_pRest F_prst S, b_prst, .nil⟩⟩
    · exact ⟨⟨_, _, _, [], I_fct.c, ⟨m_pfct, i_pfct, k_pfct⟩, ok_pFact F_pfct T S (fun H b t h => let ⟨_, _, _, _, _, at_, _⟩ := h; let ⟨dx, _, _, _, e, _⟩ := at_.ex; ⟨dx, _, e⟩) Tcr, b_pfct, .nil⟩⟩
    · exact ⟨⟨_, _, _, [], I_sur.c, ⟨m_psur, i_psur, k_psur⟩, ok_pSure F_psur S, b_psur, .nil⟩⟩
    · exact ⟨⟨_, _, _, [], I_sil.c, ⟨m_psil, i_psil, k_psil⟩, ok_pSilent F_psil S, b_psil, .nil⟩⟩
    · exact ⟨⟨_, _, _, [], I_kno.c, ⟨m_pkno, i_pkno, k_pkno⟩, ok_pKnows F_pkno S, b_pkno, .nil⟩⟩
    · exact ⟨⟨_, _, _, [], I_com.c, ⟨m_pcom, i_pcom, k_pcom⟩, ok_pCommon F_pcom S, b_pcom, .nil⟩⟩
    · exact ⟨⟨_, _, _, [], I_neg.c, ⟨m_pneg, i_pneg, k_pneg⟩, ok_pNot F_pneg S, b_pneg, .nil⟩⟩
    · exact ⟨⟨_, _, _, [], I_par.c, ⟨m_ppar, i_ppar, k_ppar⟩, ok_pPair F_ppar S, b_ppar, .nil⟩⟩
  have Cstrs : Cal P w K mg base 6 "strings_of" (spStrs (wdOf K CC (ixF A_atl A_rst A_fct A_sur A_sil A_kno A_com A_neg A_par))) [] := ⟨⟨_, _, _, [], ok_strs F_strs T S cP, PySem.W.mg_of X G a_strs, k_strs, b_strs, .nil⟩⟩
  have cT : ∀ i, Met P w K mg base 7 ((wdOf K CC (ixF A_atl A_rst A_fct A_sur A_sil A_kno A_com A_neg A_par)).C i) "__str__" (spStr (wdOf K CC (ixF A_atl A_rst A_fct A_sur A_sil A_kno A_com A_neg A_par))) [] := fun i => by
    cases i
    · exact ⟨⟨_, _, _, [], I_atl.c, ⟨m_tatl, i_tatl, k_tatl⟩, ok_tAtLeast F_tatl Cstrs, b_tatl, .nil⟩⟩
    · exact ⟨⟨_, _, _, [], I_rst.c, ⟨m_trst, i_trst, k_trst⟩, ok_tRest F_trst Cstrs, b_trst, .nil⟩⟩
    · exact ⟨⟨_, _, _, [], I_fct.c, ⟨m_tfct, i_tfct, k_tfct⟩, ok_tFact F_tfct Cstrs, b_tfct, .nil⟩⟩
    · exact ⟨⟨_, _, _, [], I_sur.c, ⟨m_tsur, i_tsur, k_tsur⟩, ok_tSure F_tsur Cstrs, b_tsur, .nil⟩⟩
    · exact ⟨⟨_, _, _, [], I_sil.c, ⟨m_tsil, i_tsil, k_tsil⟩, ok_tSilent F_tsil Cstrs, b_tsil, .nil⟩⟩
    · exact ⟨⟨_, _, _, [], I_kno.c, ⟨m_tkno, i_tkno, k_tkno⟩, ok_tKnows F_tkno Cstrs, b_tkno, .nil⟩⟩
    · exact ⟨⟨_, _, _, [], I_com.c, ⟨m_tcom, i_tcom, k_tcom⟩, ok_tCommon F_tcom Cstrs, b_tcom, .nil⟩⟩
    · exact ⟨⟨_, _, _, [], I_neg.c, ⟨m_tneg, i_tneg, k_tneg⟩, ok_tSaying F_tneg Cstrs, b_tneg, .nil⟩⟩
    · exact ⟨⟨_, _, _, [], I_par.c, ⟨m_tpar, i_tneg, k_tneg⟩, ok_tSaying F_tneg Cstrs, b_tneg, .nil⟩⟩
  have Mneg : Mak P w K mg base 1 "Not" ((wdOf K CC (ixF A_atl A_rst A_fct A_sur A_sil A_kno A_com A_neg A_par)).C .neg) (spNeg (wdOf K CC (ixF A_atl A_rst A_fct A_sur A_sil A_kno A_com A_neg A_par))) [] := ⟨⟨_, _, _, [], ⟨mk_neg, m_nneg, i_nneg, kc_neg⟩, ok_iNeg F_nneg S, PySem.W.mg_of X G a_neg, b_nneg, .nil⟩⟩
  have cI : Met P w K mg base 3 ((ixF A_atl A_rst A_fct A_sur A_sil A_kno A_com A_neg A_par) .sur) "__invert__" (spInv (wdOf K CC (ixF A_atl A_rst A_fct A_sur A_sil A_kno A_com A_neg A_par))) [] := ⟨⟨_, _, _, [], I_sur.c, ⟨m_vsur, i_vsur, k_vsur⟩, ok_vSure F_vsur Mneg, b_vsur, .nil⟩⟩
  have Msil : Mak P w K mg base 1 "Silent" ((ixF A_atl A_rst A_fct A_sur A_sil A_kno A_com A_neg A_par) .sil) (spSil (wdOf K CC (ixF A_atl A_rst A_fct A_sur A_sil A_kno A_com A_neg A_par))) [] := ⟨⟨_, _, _, [], ⟨mk_sil, m_nsil, i_nsil, kc_sil⟩, ok_iSil F_nsil S, PySem.W.mg_of X G a_sil, b_nsil, .nil⟩⟩
  have Ckk : CalX P w K mg base 3 "_check_kind" (spCkK K CI) := ⟨⟨_, _, _, ok_ckk F_ckk B Ciskind, PySem.W.mg_of X G a_ckk, k_ckk, b_ckk⟩⟩
  have Cks : CalX P w K mg base 3 "_check_saying" (spCkS K CI CS) := ⟨⟨_, _, _, ok_cks F_cks T (PySem.W.mg_of X G aS) B, PySem.W.mg_of X G a_cks, k_cks, b_cks⟩⟩
  have X_atl : MkX P w K mg base 5 "AtLeast" ((wdOf K CC (ixF A_atl A_rst A_fct A_sur A_sil A_kno A_com A_neg A_par)).C .atl) (spAtl K (wdOf K CC (ixF A_atl A_rst A_fct A_sur A_sil A_kno A_com A_neg A_par)) CI) := ⟨⟨_, _, _, ⟨mk_atl, m_natl, i_natl, kc_atl⟩, ok_iAtl F_natl S B Ckk Cisnum, PySem.W.mg_of X G a_atl, b_natl⟩⟩
  have X_rst : MkX P w K mg base 5 "Rest" ((wdOf K CC (ixF A_atl A_rst A_fct A_sur A_sil A_kno A_com A_neg A_par)).C .rst) (spRst K (wdOf K CC (ixF A_atl A_rst A_fct A_sur A_sil A_kno A_com A_neg A_par)) CI) := ⟨⟨_, _, _, ⟨mk_rst, m_nrst, i_nrst, kc_rst⟩, ok_iRst F_nrst S B Ckk Cisnum, PySem.W.mg_of X G a_rst, b_nrst⟩⟩
  have X_fct : MkX P w K mg base 5 "Fact" ((wdOf K CC (ixF A_atl A_rst A_fct A_sur A_sil A_kno A_com A_neg A_par)).C .fct) (spFct K (wdOf K CC (ixF A_atl A_rst A_fct A_sur A_sil A_kno A_com A_neg A_par)) CI CC) := ⟨⟨_, _, _, ⟨mk_fct, m_nfct, i_nfct, kc_fct⟩, ok_iFct F_nfct S T (PySem.W.mg_of X G aC) B, PySem.W.mg_of X G a_fct, b_nfct⟩⟩
  have X_sur : MkX P w K mg base 5 "Sure" ((wdOf K CC (ixF A_atl A_rst A_fct A_sur A_sil A_kno A_com A_neg A_par)).C .sur) (spSur K (wdOf K CC (ixF A_atl A_rst A_fct A_sur A_sil A_kno A_com A_neg A_par)) CI) := ⟨⟨_, _, _, ⟨mk_sur, m_nsur, i_nsur, kc_sur⟩, ok_iSur F_nsur S Ckk, PySem.W.mg_of X G a_sur, b_nsur⟩⟩
  have X_kno : MkX P w K mg base 5 "Knows" ((wdOf K CC (ixF A_atl A_rst A_fct A_sur A_sil A_kno A_com A_neg A_par)).C .kno) (spKno K (wdOf K CC (ixF A_atl A_rst A_fct A_sur A_sil A_kno A_com A_neg A_par)) CI CS) := ⟨⟨_, _, _, ⟨mk_kno, m_nkno, i_nkno, kc_kno⟩, ok_iKno F_nkno S Ckk Cks, PySem.W.mg_of X G a_kno, b_nkno⟩⟩
  have X_com : MkX P w K mg base 5 "Common" ((wdOf K CC (ixF A_atl A_rst A_fct A_sur A_sil A_kno A_com A_neg A_par)).C .com) (spCom K (wdOf K CC (ixF A_atl A_rst A_fct A_sur A_sil A_kno A_com A_neg A_par)) CI CS) := ⟨⟨_, _, _, ⟨mk_com, m_ncom, i_ncom, kc_com⟩, ok_iCom F_ncom S Cks, PySem.W.mg_of X G a_com, b_ncom⟩⟩
  have Cfeed : Cal P w K mg base 1 "_law_feed" (spFeed K) [] := ⟨⟨_, _, _, [], ok_feed F_feed T, PySem.W.mg_of X G a_feed, k_feed, b_feed, .nil⟩⟩
  have Ctake : Cal P w K mg base 1 "_law_take" spTake [] := ⟨⟨_, _, _, [], ok_take F_take T, PySem.W.mg_of X G a_take, k_take, b_take, .nil⟩⟩
  have Cpick : Cal P w K mg base 2 "_law_pick" (spPick K) [] := ⟨⟨_, _, _, [], ok_pick F_pick T Ctake, PySem.W.mg_of X G a_pick, k_pick, b_pick, .nil⟩⟩
  have Cnmb : Cal P w K mg base 3 "_law_number" (spNmb K) [] := ⟨⟨_, _, _, [], ok_nmb F_nmb Cpick, PySem.W.mg_of X G a_nmb, k_nmb, b_nmb, .nil⟩⟩
  have Cdu : Cal P w K mg base 1 "_law_due" (spDu K) [] := ⟨⟨_, _, _, [], ok_du F_du, PySem.W.mg_of X G a_du, k_du, b_du, .nil⟩⟩
  have Chrd : Cal P w K mg base 10 "_law_heard" (spHrd K (wdOf K CC (ixF A_atl A_rst A_fct A_sur A_sil A_kno A_com A_neg A_par)) CC CS) [] := ⟨⟨_, _, _, [], ok_hrd F_hrd T (PySem.W.mg_of X G aI) (PySem.W.mg_of X G aK) (PySem.W.mg_of X G aR) (PySem.W.mg_of X G aT) ER cT X_atl X_rst X_fct X_sur X_kno X_com, PySem.W.mg_of X G a_hrd, k_hrd, b_hrd, .nil⟩⟩
  exact ok_law (C := (ixF A_atl A_rst A_fct A_sur A_sil A_kno A_com A_neg A_par)) F_law T S KT (PySem.W.mg_of X G aC) ⟨rdC, gaC⟩ cmN FNo cI X_sur Msil Cfeed Ctake Cpick Cnmb Cdu Chrd
def fac0 : List Fct := [
  fun K => decide (PySem.W.nsIn K mainGlobals "KnowError" = some (some (.ref (He.ga K "KnowError")))),
  fun K => decide (PySem.W.nsIn K mainGlobals "InvalidSaying" = some (some (.ref (He.ga K "InvalidSaying")))),
  fun K => decide (PySem.W.nsIn K mainGlobals "InvalidCrowds" = some (some (.ref (He.ga K "InvalidCrowds")))),
  fun K => decide (PySem.W.nsIn K mainGlobals "InvalidTalk" = some (some (.ref (He.ga K "InvalidTalk")))),
  fun K => decide (PySem.W.nsIn K mainGlobals "Saying" = some (some (.ref (He.ga K "Saying")))),
  fun K => decide (PySem.W.nsIn K mainGlobals "Crowds" = some (some (.ref (He.ga K "Crowds")))),
  fun K => decide (PySem.W.nsIn K mainGlobals "KINDS" = some (some (.ref (He.ga K "KINDS")))),
  fun K => excB K (He.ga K "InvalidSaying") (He.ga K "KnowError"),
  fun K => decide (PySem.W.keepIn K (.ref (He.ga K "InvalidSaying")) = true),
  fun K => decide (PySem.W.findIn K (.ref (He.ga K "InvalidSaying")) "__getattribute__" = some (some (.builtin "BaseException.__getattribute__"))),
  fun K => decide (PySem.W.findIn K (.ref (He.ga K "InvalidSaying")) "__getattr__" = some none),
  fun K => decide (PySem.W.subIn K (.ref (He.ga K "InvalidSaying")) (.type "BaseException") = some true),
  fun K => decide (PySem.W.hasDictIn K (He.ga K "InvalidSaying") = true),
  fun K => decide (PySem.W.findIn K (.ref (He.ga K "InvalidSaying")) "__setattr__" = some (some (.builtin "object.__setattr__"))),
  fun K => decide (PySem.W.typeIn K (.ref (He.ga K "InvalidSaying")) = some (.type "type")),
  fun K => decide (PySem.W.subIn K (.ref (He.ga K "InvalidSaying")) (.ref (He.ga K "InvalidSaying")) = some true),
  fun K => decide (PySem.W.findIn K (.ref (He.ga K "InvalidSaying")) "word" = some none),
  fun K => decide (PySem.W.findIn K (.ref (He.ga K "InvalidSaying")) "__class__" = some (some (.builtin "object.__class__"))),
  fun K => decide (PySem.W.mroIn K (He.ga K "InvalidSaying") (.type "object") = some true),
  fun K => decide (PySem.W.kitOne K (.ref (He.ga K "InvalidSaying")) (.ref (He.ga K "KnowError")) = some true)]
def fac1 : List Fct := [
  fun K => decide (PySem.W.kitAny K (.ref (He.ga K "InvalidSaying")) [.ref (He.ga K "InvalidCrowds"), .ref (He.ga K "InvalidTalk")] = some false),
  fun K => decide (PySem.W.findIn K (.ref (He.ga K "InvalidSaying")) "__init__" = some (some (.ref (He.ma K (He.ga K "InvalidSaying") "__init__")))),
  fun K => decide (PySem.W.typeIn K (.ref (He.ma K (He.ga K "InvalidSaying") "__init__")) = some (.type "function")),
  fun K => decide (PySem.W.specialIn K (.builtin "object.__class__") "__get__" = some (some (.builtin "getset_descriptor.__get__"))),
  fun K => decide (PySem.W.takesIn K (.builtin "object.__class__") = some true),
  fun K => He.tupB K "KINDS" [.str "marked", .str "plain"],
  fun K => decide (PySem.W.nsIn K mainGlobals "AtLeast" = some (some (.ref (He.ga K "AtLeast")))),
  fun K => decide (PySem.W.plainGet K (He.ga K "AtLeast") Str.empty = true),
  fun K => decide (PySem.W.hasDictIn K (He.ga K "AtLeast") = true),
  fun K => decide (PySem.W.plainOver K (He.ga K "AtLeast") = true),
  fun K => decide (PySem.W.findIn K (.ref (He.ga K "AtLeast")) "__setattr__" = some (some (.builtin "object.__setattr__"))),
  fun K => decide (PySem.W.findIn K (.ref (He.ga K "AtLeast")) "__class__" = some (some (.builtin "object.__class__"))),
  fun K => decide (PySem.W.mroIn K (He.ga K "AtLeast") (.type "object") = some true),
  fun K => decide (PySem.W.findIn K (.ref (He.ga K "AtLeast")) "kind" = some none),
  fun K => decide (PySem.W.findIn K (.ref (He.ga K "AtLeast")) "number" = some none),
  fun K => decide (PySem.W.findIn K (.ref (He.ga K "AtLeast")) "depth" = some none),
  fun K => decide (PySem.W.findIn K (.ref (He.ga K "AtLeast")) "commons" = some none),
  fun K => decide (PySem.W.kitOne K (.ref (He.ga K "AtLeast")) (.type "str") = some false),
  fun K => decide (PySem.W.findIn K (.ref (He.ga K "AtLeast")) "pieces" = some (some (.ref (He.ma K (He.ga K "AtLeast") "pieces")))),
  fun K => decide (PySem.W.isFn K (.ref (He.ma K (He.ga K "AtLeast") "pieces")) = true)]
def fac2 : List Fct := [
  fun K => decide (PySem.W.findIn K (.ref (He.ga K "AtLeast")) "__str__" = some (some (.ref (He.ma K (He.ga K "AtLeast") "__str__")))),
  fun K => decide (PySem.W.isFn K (.ref (He.ma K (He.ga K "AtLeast") "__str__")) = true),
  fun K => decide (PySem.W.makesIn K (He.ga K "AtLeast") = true),
  fun K => decide (PySem.W.keepIn K (.ref (He.ga K "AtLeast")) = true),
  fun K => decide (PySem.W.findIn K (.ref (He.ga K "AtLeast")) "__init__" = some (some (.ref (He.ma K (He.ga K "AtLeast") "__init__")))),
  fun K => decide (PySem.W.isFn K (.ref (He.ma K (He.ga K "AtLeast") "__init__")) = true),
  fun K => decide (PySem.W.nsIn K mainGlobals "Rest" = some (some (.ref (He.ga K "Rest")))),
  fun K => decide (PySem.W.plainGet K (He.ga K "Rest") Str.empty = true),
  fun K => decide (PySem.W.hasDictIn K (He.ga K "Rest") = true),
  fun K => decide (PySem.W.plainOver K (He.ga K "Rest") = true),
  fun K => decide (PySem.W.findIn K (.ref (He.ga K "Rest")) "__setattr__" = some (some (.builtin "object.__setattr__"))),
  fun K => decide (PySem.W.findIn K (.ref (He.ga K "Rest")) "__class__" = some (some (.builtin "object.__class__"))),
  fun K => decide (PySem.W.mroIn K (He.ga K "Rest") (.type "object") = some true),
  fun K => decide (PySem.W.findIn K (.ref (He.ga K "Rest")) "kind" = some none),
  fun K => decide (PySem.W.findIn K (.ref (He.ga K "Rest")) "rest" = some none),
  fun K => decide (PySem.W.findIn K (.ref (He.ga K "Rest")) "period" = some none),
  fun K => decide (PySem.W.findIn K (.ref (He.ga K "Rest")) "depth" = some none),
  fun K => decide (PySem.W.findIn K (.ref (He.ga K "Rest")) "commons" = some none),
  fun K => decide (PySem.W.kitOne K (.ref (He.ga K "Rest")) (.type "str") = some false),
  fun K => decide (PySem.W.findIn K (.ref (He.ga K "Rest")) "pieces" = some (some (.ref (He.ma K (He.ga K "Rest") "pieces"))))]
def fac3 : List Fct := [
  fun K => decide (PySem.W.isFn K (.ref (He.ma K (He.ga K "Rest") "pieces")) = true),
  fun K => decide (PySem.W.findIn K (.ref (He.ga K "Rest")) "__str__" = some (some (.ref (He.ma K (He.ga K "Rest") "__str__")))),
  fun K => decide (PySem.W.isFn K (.ref (He.ma K (He.ga K "Rest") "__str__")) = true),
  fun K => decide (PySem.W.makesIn K (He.ga K "Rest") = true),
  fun K => decide (PySem.W.keepIn K (.ref (He.ga K "Rest")) = true),
  fun K => decide (PySem.W.findIn K (.ref (He.ga K "Rest")) "__init__" = some (some (.ref (He.ma K (He.ga K "Rest") "__init__")))),
  fun K => decide (PySem.W.isFn K (.ref (He.ma K (He.ga K "Rest") "__init__")) = true),
  fun K => decide (PySem.W.nsIn K mainGlobals "Fact" = some (some (.ref (He.ga K "Fact")))),
  fun K => decide (PySem.W.plainGet K (He.ga K "Fact") Str.empty = true),
  fun K => decide (PySem.W.hasDictIn K (He.ga K "Fact") = true),
  fun K => decide (PySem.W.plainOver K (He.ga K "Fact") = true),
  fun K => decide (PySem.W.findIn K (.ref (He.ga K "Fact")) "__setattr__" = some (some (.builtin "object.__setattr__"))),
  fun K => decide (PySem.W.findIn K (.ref (He.ga K "Fact")) "__class__" = some (some (.builtin "object.__class__"))),
  fun K => decide (PySem.W.mroIn K (He.ga K "Fact") (.type "object") = some true),
  fun K => decide (PySem.W.findIn K (.ref (He.ga K "Fact")) "crowds" = some none),
  fun K => decide (PySem.W.findIn K (.ref (He.ga K "Fact")) "depth" = some none),
  fun K => decide (PySem.W.findIn K (.ref (He.ga K "Fact")) "commons" = some none),
  fun K => decide (PySem.W.kitOne K (.ref (He.ga K "Fact")) (.type "str") = some false),
  fun K => decide (PySem.W.findIn K (.ref (He.ga K "Fact")) "pieces" = some (some (.ref (He.ma K (He.ga K "Fact") "pieces")))),
  fun K => decide (PySem.W.isFn K (.ref (He.ma K (He.ga K "Fact") "pieces")) = true)]
def fac4 : List Fct := [
  fun K => decide (PySem.W.findIn K (.ref (He.ga K "Fact")) "__str__" = some (some (.ref (He.ma K (He.ga K "Fact") "__str__")))),
  fun K => decide (PySem.W.isFn K (.ref (He.ma K (He.ga K "Fact") "__str__")) = true),
  fun K => decide (PySem.W.makesIn K (He.ga K "Fact") = true),
  fun K => decide (PySem.W.keepIn K (.ref (He.ga K "Fact")) = true),
  fun K => decide (PySem.W.findIn K (.ref (He.ga K "Fact")) "__init__" = some (some (.ref (He.ma K (He.ga K "Fact") "__init__")))),
  fun K => decide (PySem.W.isFn K (.ref (He.ma K (He.ga K "Fact") "__init__")) = true),
  fun K => decide (PySem.W.nsIn K mainGlobals "Sure" = some (some (.ref (He.ga K "Sure")))),
  fun K => decide (PySem.W.plainGet K (He.ga K "Sure") Str.empty = true),
  fun K => decide (PySem.W.hasDictIn K (He.ga K "Sure") = true),
  fun K => decide (PySem.W.plainOver K (He.ga K "Sure") = true),
  fun K => decide (PySem.W.findIn K (.ref (He.ga K "Sure")) "__setattr__" = some (some (.builtin "object.__setattr__"))),
  fun K => decide (PySem.W.findIn K (.ref (He.ga K "Sure")) "__class__" = some (some (.builtin "object.__class__"))),
  fun K => decide (PySem.W.mroIn K (He.ga K "Sure") (.type "object") = some true),
  fun K => decide (PySem.W.findIn K (.ref (He.ga K "Sure")) "kind" = some none),
  fun K => decide (PySem.W.findIn K (.ref (He.ga K "Sure")) "depth" = some none),
  fun K => decide (PySem.W.findIn K (.ref (He.ga K "Sure")) "commons" = some none),
  fun K => decide (PySem.W.kitOne K (.ref (He.ga K "Sure")) (.type "str") = some false),
  fun K => decide (PySem.W.findIn K (.ref (He.ga K "Sure")) "pieces" = some (some (.ref (He.ma K (He.ga K "Sure") "pieces")))),
  fun K => decide (PySem.W.isFn K (.ref (He.ma K (He.ga K "Sure") "pieces")) = true),
  fun K => decide (PySem.W.findIn K (.ref (He.ga K "Sure")) "__str__" = some (some (.ref (He.ma K (He.ga K "Sure") "__str__"))))]
def fac5 : List Fct := [
  fun K => decide (PySem.W.isFn K (.ref (He.ma K (He.ga K "Sure") "__str__")) = true),
  fun K => decide (PySem.W.makesIn K (He.ga K "Sure") = true),
  fun K => decide (PySem.W.keepIn K (.ref (He.ga K "Sure")) = true),
  fun K => decide (PySem.W.findIn K (.ref (He.ga K "Sure")) "__init__" = some (some (.ref (He.ma K (He.ga K "Sure") "__init__")))),
  fun K => decide (PySem.W.isFn K (.ref (He.ma K (He.ga K "Sure") "__init__")) = true),
  fun K => decide (PySem.W.nsIn K mainGlobals "Silent" = some (some (.ref (He.ga K "Silent")))),
  fun K => decide (PySem.W.plainGet K (He.ga K "Silent") Str.empty = true),
  fun K => decide (PySem.W.hasDictIn K (He.ga K "Silent") = true),
  fun K => decide (PySem.W.plainOver K (He.ga K "Silent") = true),
  fun K => decide (PySem.W.findIn K (.ref (He.ga K "Silent")) "__setattr__" = some (some (.builtin "object.__setattr__"))),
  fun K => decide (PySem.W.findIn K (.ref (He.ga K "Silent")) "__class__" = some (some (.builtin "object.__class__"))),
  fun K => decide (PySem.W.mroIn K (He.ga K "Silent") (.type "object") = some true),
  fun K => decide (PySem.W.findIn K (.ref (He.ga K "Silent")) "depth" = some none),
  fun K => decide (PySem.W.findIn K (.ref (He.ga K "Silent")) "commons" = some none),
  fun K => decide (PySem.W.kitOne K (.ref (He.ga K "Silent")) (.type "str") = some false),
  fun K => decide (PySem.W.findIn K (.ref (He.ga K "Silent")) "pieces" = some (some (.ref (He.ma K (He.ga K "Silent") "pieces")))),
  fun K => decide (PySem.W.isFn K (.ref (He.ma K (He.ga K "Silent") "pieces")) = true),
  fun K => decide (PySem.W.findIn K (.ref (He.ga K "Silent")) "__str__" = some (some (.ref (He.ma K (He.ga K "Silent") "__str__")))),
  fun K => decide (PySem.W.isFn K (.ref (He.ma K (He.ga K "Silent") "__str__")) = true),
  fun K => decide (PySem.W.makesIn K (He.ga K "Silent") = true)]
def fac6 : List Fct := [
  fun K => decide (PySem.W.keepIn K (.ref (He.ga K "Silent")) = true),
  fun K => decide (PySem.W.findIn K (.ref (He.ga K "Silent")) "__init__" = some (some (.ref (He.ma K (He.ga K "Silent") "__init__")))),
  fun K => decide (PySem.W.isFn K (.ref (He.ma K (He.ga K "Silent") "__init__")) = true),
  fun K => decide (PySem.W.nsIn K mainGlobals "Knows" = some (some (.ref (He.ga K "Knows")))),
  fun K => decide (PySem.W.plainGet K (He.ga K "Knows") Str.empty = true),
  fun K => decide (PySem.W.hasDictIn K (He.ga K "Knows") = true),
  fun K => decide (PySem.W.plainOver K (He.ga K "Knows") = true),
  fun K => decide (PySem.W.findIn K (.ref (He.ga K "Knows")) "__setattr__" = some (some (.builtin "object.__setattr__"))),
  fun K => decide (PySem.W.findIn K (.ref (He.ga K "Knows")) "__class__" = some (some (.builtin "object.__class__"))),
  fun K => decide (PySem.W.mroIn K (He.ga K "Knows") (.type "object") = some true),
  fun K => decide (PySem.W.findIn K (.ref (He.ga K "Knows")) "kind" = some none),
  fun K => decide (PySem.W.findIn K (.ref (He.ga K "Knows")) "saying" = some none),
  fun K => decide (PySem.W.findIn K (.ref (He.ga K "Knows")) "depth" = some none),
  fun K => decide (PySem.W.findIn K (.ref (He.ga K "Knows")) "commons" = some none),
  fun K => decide (PySem.W.kitOne K (.ref (He.ga K "Knows")) (.type "str") = some false),
  fun K => decide (PySem.W.findIn K (.ref (He.ga K "Knows")) "pieces" = some (some (.ref (He.ma K (He.ga K "Knows") "pieces")))),
  fun K => decide (PySem.W.isFn K (.ref (He.ma K (He.ga K "Knows") "pieces")) = true),
  fun K => decide (PySem.W.findIn K (.ref (He.ga K "Knows")) "__str__" = some (some (.ref (He.ma K (He.ga K "Knows") "__str__")))),
  fun K => decide (PySem.W.isFn K (.ref (He.ma K (He.ga K "Knows") "__str__")) = true),
  fun K => decide (PySem.W.makesIn K (He.ga K "Knows") = true)]
def fac7 : List Fct := [
  fun K => decide (PySem.W.keepIn K (.ref (He.ga K "Knows")) = true),
  fun K => decide (PySem.W.findIn K (.ref (He.ga K "Knows")) "__init__" = some (some (.ref (He.ma K (He.ga K "Knows") "__init__")))),
  fun K => decide (PySem.W.isFn K (.ref (He.ma K (He.ga K "Knows") "__init__")) = true),
  fun K => decide (PySem.W.nsIn K mainGlobals "Common" = some (some (.ref (He.ga K "Common")))),
  fun K => decide (PySem.W.plainGet K (He.ga K "Common") Str.empty = true),
  fun K => decide (PySem.W.hasDictIn K (He.ga K "Common") = true),
  fun K => decide (PySem.W.plainOver K (He.ga K "Common") = true),
  fun K => decide (PySem.W.findIn K (.ref (He.ga K "Common")) "__setattr__" = some (some (.builtin "object.__setattr__"))),
  fun K => decide (PySem.W.findIn K (.ref (He.ga K "Common")) "__class__" = some (some (.builtin "object.__class__"))),
  fun K => decide (PySem.W.mroIn K (He.ga K "Common") (.type "object") = some true),
  fun K => decide (PySem.W.findIn K (.ref (He.ga K "Common")) "saying" = some none),
  fun K => decide (PySem.W.findIn K (.ref (He.ga K "Common")) "depth" = some none),
  fun K => decide (PySem.W.findIn K (.ref (He.ga K "Common")) "commons" = some none),
  fun K => decide (PySem.W.kitOne K (.ref (He.ga K "Common")) (.type "str") = some false),
  fun K => decide (PySem.W.findIn K (.ref (He.ga K "Common")) "pieces" = some (some (.ref (He.ma K (He.ga K "Common") "pieces")))),
  fun K => decide (PySem.W.isFn K (.ref (He.ma K (He.ga K "Common") "pieces")) = true),
  fun K => decide (PySem.W.findIn K (.ref (He.ga K "Common")) "__str__" = some (some (.ref (He.ma K (He.ga K "Common") "__str__")))),
  fun K => decide (PySem.W.isFn K (.ref (He.ma K (He.ga K "Common") "__str__")) = true),
  fun K => decide (PySem.W.makesIn K (He.ga K "Common") = true),
  fun K => decide (PySem.W.keepIn K (.ref (He.ga K "Common")) = true)]
def fac8 : List Fct := [
  fun K => decide (PySem.W.findIn K (.ref (He.ga K "Common")) "__init__" = some (some (.ref (He.ma K (He.ga K "Common") "__init__")))),
  fun K => decide (PySem.W.isFn K (.ref (He.ma K (He.ga K "Common") "__init__")) = true),
  fun K => decide (PySem.W.nsIn K mainGlobals "Not" = some (some (.ref (He.ga K "Not")))),
  fun K => decide (PySem.W.plainGet K (He.ga K "Not") Str.empty = true),
  fun K => decide (PySem.W.hasDictIn K (He.ga K "Not") = true),
  fun K => decide (PySem.W.plainOver K (He.ga K "Not") = true),
  fun K => decide (PySem.W.findIn K (.ref (He.ga K "Not")) "__setattr__" = some (some (.builtin "object.__setattr__"))),
  fun K => decide (PySem.W.findIn K (.ref (He.ga K "Not")) "__class__" = some (some (.builtin "object.__class__"))),
  fun K => decide (PySem.W.mroIn K (He.ga K "Not") (.type "object") = some true),
  fun K => decide (PySem.W.findIn K (.ref (He.ga K "Not")) "saying" = some none),
  fun K => decide (PySem.W.findIn K (.ref (He.ga K "Not")) "depth" = some none),
  fun K => decide (PySem.W.findIn K (.ref (He.ga K "Not")) "commons" = some none),
  fun K => decide (PySem.W.kitOne K (.ref (He.ga K "Not")) (.type "str") = some false),
  fun K => decide (PySem.W.findIn K (.ref (He.ga K "Not")) "pieces" = some (some (.ref (He.ma K (He.ga K "Not") "pieces")))),
  fun K => decide (PySem.W.isFn K (.ref (He.ma K (He.ga K "Not") "pieces")) = true),
  fun K => decide (PySem.W.makesIn K (He.ga K "Not") = true),
  fun K => decide (PySem.W.keepIn K (.ref (He.ga K "Not")) = true),
  fun K => decide (PySem.W.findIn K (.ref (He.ga K "Not")) "__init__" = some (some (.ref (He.ma K (He.ga K "Not") "__init__")))),
  fun K => decide (PySem.W.isFn K (.ref (He.ma K (He.ga K "Not") "__init__")) = true),
  fun K => decide (PySem.W.nsIn K mainGlobals "Pair" = some (some (.ref (He.ga K "Pair"))))]
def fac9 : List Fct := [
  fun K => decide (PySem.W.plainGet K (He.ga K "Pair") Str.empty = true),
  fun K => decide (PySem.W.hasDictIn K (He.ga K "Pair") = true),
  fun K => decide (PySem.W.plainOver K (He.ga K "Pair") = true),
  fun K => decide (PySem.W.findIn K (.ref (He.ga K "Pair")) "__setattr__" = some (some (.builtin "object.__setattr__"))),
  fun K => decide (PySem.W.findIn K (.ref (He.ga K "Pair")) "__class__" = some (some (.builtin "object.__class__"))),
  fun K => decide (PySem.W.mroIn K (He.ga K "Pair") (.type "object") = some true),
  fun K => decide (PySem.W.findIn K (.ref (He.ga K "Pair")) "sign" = some none),
  fun K => decide (PySem.W.findIn K (.ref (He.ga K "Pair")) "first" = some none),
  fun K => decide (PySem.W.findIn K (.ref (He.ga K "Pair")) "second" = some none),
  fun K => decide (PySem.W.findIn K (.ref (He.ga K "Pair")) "depth" = some none),
  fun K => decide (PySem.W.findIn K (.ref (He.ga K "Pair")) "commons" = some none),
  fun K => decide (PySem.W.kitOne K (.ref (He.ga K "Pair")) (.type "str") = some false),
  fun K => decide (PySem.W.findIn K (.ref (He.ga K "Pair")) "pieces" = some (some (.ref (He.ma K (He.ga K "Pair") "pieces")))),
  fun K => decide (PySem.W.isFn K (.ref (He.ma K (He.ga K "Pair") "pieces")) = true),
  fun K => decide (PySem.W.findIn K (.ref (He.ga K "Not")) "__str__" = some (some (.ref (He.ma K (He.ga K "Not") "__str__")))),
  fun K => decide (PySem.W.isFn K (.ref (He.ma K (He.ga K "Not") "__str__")) = true),
  fun K => decide (PySem.W.findIn K (.ref (He.ga K "Pair")) "__str__" = some (some (.ref (He.ma K (He.ga K "Not") "__str__")))),
  fun K => decide (PySem.W.findIn K (.ref (He.ga K "Sure")) "__invert__" = some (some (.ref (He.ma K (He.ga K "Sure") "__invert__")))),
  fun K => decide (PySem.W.isFn K (.ref (He.ma K (He.ga K "Sure") "__invert__")) = true),
  fun K => decide (PySem.W.plainGet K (He.ga K "Crowds") Str.empty = true)]
def fac10 : List Fct := [
  fun K => decide (PySem.W.hasDictIn K (He.ga K "Crowds") = true),
  fun K => decide (PySem.W.plainOver K (He.ga K "Crowds") = true),
  fun K => decide (PySem.W.findIn K (.ref (He.ga K "Crowds")) "__setattr__" = some (some (.builtin "object.__setattr__"))),
  fun K => decide (PySem.W.findIn K (.ref (He.ga K "Crowds")) "__class__" = some (some (.builtin "object.__class__"))),
  fun K => decide (PySem.W.mroIn K (He.ga K "Crowds") (.type "object") = some true),
  fun K => decide (PySem.W.findIn K (.ref (He.ga K "Crowds")) "starts" = some none),
  fun K => decide (PySem.W.findIn K (.ref (He.ga K "Crowds")) "periods" = some none),
  fun K => decide (PySem.W.findIn K (.ref (He.ga K "Crowds")) "rows" = some none),
  fun K => decide (PySem.W.makesIn K (He.ga K "Crowds") = true),
  fun K => decide (PySem.W.keepIn K (.ref (He.ga K "Crowds")) = true),
  fun K => decide (PySem.W.findIn K (.ref (He.ga K "Crowds")) "__init__" = some (some (.ref (He.ma K (He.ga K "Crowds") "__init__")))),
  fun K => decide (PySem.W.isFn K (.ref (He.ma K (He.ga K "Crowds") "__init__")) = true),
  fun K => decide (PySem.W.findIn K (.ref (He.ga K "Crowds")) "__str__" = some (some (.ref (He.ma K (He.ga K "Crowds") "__str__")))),
  fun K => decide (PySem.W.isFn K (.ref (He.ma K (He.ga K "Crowds") "__str__")) = true),
  fun K => He5.wrapB K (He.ga K "Crowds") "classmethod" "classmethod.__get__" "nothing" && PySem.W.fnIn K (He5.wf K (He.ga K "Crowds") "classmethod" "nothing"),
  fun K => decide (PySem.W.readsIn K (He.ga K "Crowds") (.type "type") = true),
  fun K => decide (PySem.W.specialIn K (.ref (He.ga K "Crowds")) "__getattribute__" = some (some (.builtin "type.__getattribute__"))),
  fun K => decide (PySem.W.kitOne K (.ref (He.ga K "Crowds")) (.ref (He.ga K "Crowds")) = some true),
  fun K => decide (PySem.W.kitOne K (.ref (He.ga K "Crowds")) (.ref (He.ga K "Saying")) = some false),
  fun K => decide (PySem.W.kitOne K (.ref (He.ga K "Not")) (.ref (He.ga K "Crowds")) = some false)]
def fac11 : List Fct := [
  fun K => decide (PySem.W.kitOne K (.ref (He.ga K "Not")) (.ref (He.ga K "Saying")) = some true),
  fun K => decide (PySem.W.kitOne K (.type "NoneType") (.ref (He.ga K "Crowds")) = some false),
  fun K => decide (PySem.W.kitOne K (.type "NoneType") (.ref (He.ga K "Saying")) = some false),
  fun K => decide (PySem.W.kitOne K (.type "str") (.ref (He.ga K "Crowds")) = some false),
  fun K => decide (PySem.W.kitOne K (.type "str") (.ref (He.ga K "Saying")) = some false),
  fun K => decide (PySem.W.kitOne K (.type "int") (.ref (He.ga K "Crowds")) = some false),
  fun K => decide (PySem.W.kitOne K (.type "int") (.ref (He.ga K "Saying")) = some false),
  fun K => decide (PySem.W.kitOne K (.type "tuple") (.ref (He.ga K "Crowds")) = some false),
  fun K => decide (PySem.W.kitOne K (.type "tuple") (.ref (He.ga K "Saying")) = some false),
  fun K => decide (PySem.W.kitOne K (.type "list") (.ref (He.ga K "Crowds")) = some false),
  fun K => decide (PySem.W.kitOne K (.type "list") (.ref (He.ga K "Saying")) = some false),
  fun K => decide (PySem.W.nsIn K mainGlobals "int" = some none),
  fun K => decide (PySem.W.nsIn K mainGlobals "len" = some none),
  fun K => decide (PySem.W.nsIn K mainGlobals "range" = some none),
  fun K => decide (PySem.W.nsIn K mainGlobals "tuple" = some none),
  fun K => decide (PySem.W.nsIn K mainGlobals "isinstance" = some none),
  fun K => decide (PySem.W.nsIn K mainGlobals "list" = some none),
  fun K => decide (PySem.W.nsIn K mainGlobals "bool" = some none),
  fun K => decide (PySem.W.nsIn K mainGlobals "str" = some none),
  fun K => decide (PySem.W.nsIn K mainGlobals "all" = some none)]
def fac12 : List Fct := [
  fun K => decide (PySem.W.nsIn K mainGlobals "set" = some none),
  fun K => decide (PySem.W.nsIn K mainGlobals "sorted" = some none),
  fun K => decide (PySem.W.nsIn K mainGlobals "max" = some none),
  fun K => decide (PySem.W.nsIn K mainGlobals "min" = some none),
  fun K => decide (PySem.W.nsIn K mainGlobals "repr" = some none),
  fun K => decide (PySem.W.nsIn K mainGlobals "is_integer" = some (some (.ref (He.ga K "is_integer")))),
  fun K => decide (PySem.W.nsIn K mainGlobals "is_number" = some (some (.ref (He.ga K "is_number")))),
  fun K => decide (PySem.W.nsIn K mainGlobals "is_kind" = some (some (.ref (He.ga K "is_kind")))),
  fun K => decide (PySem.W.nsIn K mainGlobals "is_sequence" = some (some (.ref (He.ga K "is_sequence")))),
  fun K => decide (PySem.W.nsIn K mainGlobals "_check_table" = some (some (.ref (He.ga K "_check_table")))),
  fun K => decide (PySem.W.nsIn K mainGlobals "_are_two_from" = some (some (.ref (He.ga K "_are_two_from")))),
  fun K => decide (PySem.W.nsIn K mainGlobals "_are_rows" = some (some (.ref (He.ga K "_are_rows")))),
  fun K => decide (PySem.W.nsIn K mainGlobals "_spaced" = some (some (.ref (He.ga K "_spaced")))),
  fun K => decide (PySem.W.nsIn K mainGlobals "_check_kind" = some (some (.ref (He.ga K "_check_kind")))),
  fun K => decide (PySem.W.nsIn K mainGlobals "_check_saying" = some (some (.ref (He.ga K "_check_saying")))),
  fun K => decide (PySem.W.nsIn K mainGlobals "strings_of" = some (some (.ref (He.ga K "strings_of")))),
  fun K => decide (PySem.W.nsIn K mainGlobals "_law_feed" = some (some (.ref (He.ga K "_law_feed")))),
  fun K => decide (PySem.W.nsIn K mainGlobals "_law_take" = some (some (.ref (He.ga K "_law_take")))),
  fun K => decide (PySem.W.nsIn K mainGlobals "_law_pick" = some (some (.ref (He.ga K "_law_pick")))),
  fun K => decide (PySem.W.nsIn K mainGlobals "_law_heard" = some (some (.ref (He.ga K "_law_heard"))))]
def fac13 : List Fct := [
  fun K => decide (PySem.W.nsIn K mainGlobals "_law_number" = some (some (.ref (He.ga K "_law_number")))),
  fun K => decide (PySem.W.nsIn K mainGlobals "_law_due" = some (some (.ref (He.ga K "_law_due")))),
  fun K => decide (PySem.W.nsIn K mainGlobals "law" = some (some (.ref (He.ga K "law"))))]
def fac : List (List Fct) := [fac0, fac1, fac2, fac3, fac4, fac5, fac6, fac7, fac8, fac9, fac10, fac11, fac12, fac13]
def dfn0 : He5.DefA := ⟨fun K => He.ma K (He.ga K "InvalidSaying") "__init__", "__init__", "InvalidSaying.__init__", defArgs s_ie, defBody s_ie, defScope s_ie, [], []⟩
def dfn1 : He5.DefA := ⟨fun K => He.ma K (He.ga K "AtLeast") "pieces", "pieces", "AtLeast.pieces", defArgs s_pAtLeast, defBody s_pAtLeast, defScope s_pAtLeast, [], []⟩
def dfn2 : He5.DefA := ⟨fun K => He.ma K (He.ga K "AtLeast") "__str__", "__str__", "AtLeast.__str__", defArgs s_tAtLeast, defBody s_tAtLeast, defScope s_tAtLeast, [], []⟩
def dfn3 : He5.DefA := ⟨fun K => He.ma K (He.ga K "AtLeast") "__init__", "__init__", "AtLeast.__init__", defArgs s_iAtl, defBody s_iAtl, defScope s_iAtl, [], []⟩
def dfn4 : He5.DefA := ⟨fun K => He.ma K (He.ga K "Rest") "pieces", "pieces", "Rest.pieces", defArgs s_pRest, defBody s_pRest, defScope s_pRest, [], []⟩
def dfn5 : He5.DefA := ⟨fun K => He.ma K (He.ga K "Rest") "__str__", "__str__", "Rest.__str__", defArgs s_tRest, defBody s_tRest, defScope s_tRest, [], []⟩
def dfn6 : He5.DefA := ⟨fun K => He.ma K (He.ga K "Rest") "__init__", "__init__", "Rest.__init__", defArgs s_iRst, defBody s_iRst, defScope s_iRst, [], []⟩
def dfn7 : He5.DefA := ⟨fun K => He.ma K (He.ga K "Fact") "pieces", "pieces", "Fact.pieces", defArgs s_pFact, defBody s_pFact, defScope s_pFact, [], []⟩
def dfn8 : He5.DefA := ⟨fun K => He.ma K (He.ga K "Fact") "__str__", "__str__", "Fact.__str__", defArgs s_tFact, defBody s_tFact, defScope s_tFact, [], []⟩
def dfn9 : He5.DefA := ⟨fun K => He.ma K (He.ga K "Fact") "__init__", "__init__", "Fact.__init__", defArgs s_iFct, defBody s_iFct, defScope s_iFct, [], []⟩
def dfn10 : He5.DefA := ⟨fun K => He.ma K (He.ga K "Sure") "pieces", "pieces", "Sure.pieces", defArgs s_pSure, defBody s_pSure, defScope s_pSure, [], []⟩
def dfn11 : He5.DefA := ⟨fun K => He.ma K (He.ga K "Sure") "__str__", "__str__", "Sure.__str__", defArgs s_tSure, defBody s_tSure, defScope s_tSure, [], []⟩
def dfn12 : He5.DefA := ⟨fun K => He.ma K (He.ga K "Sure") "__init__", "__init__", "Sure.__init__", defArgs s_iSur, defBody s_iSur, defScope s_iSur, [], []⟩
def dfn13 : He5.DefA := ⟨fun K => He.ma K (He.ga K "Silent") "pieces", "pieces", "Silent.pieces", defArgs s_pSilent, defBody s_pSilent, defScope s_pSilent, [], []⟩
def dfn14 : He5.DefA := ⟨fun K => He.ma K (He.ga K "Silent") "__str__", "__str__", "Silent.__str__", defArgs s_tSilent, defBody s_tSilent, defScope s_tSilent, [], []⟩
def dfn15 : He5.DefA := ⟨fun K => He.ma K (He.ga K "Silent") "__init__", "__init__", "Silent.__init__", defArgs s_iSil, defBody s_iSil, defScope s_iSil, [], []⟩
def dfn16 : He5.DefA := ⟨fun K => He.ma K (He.ga K "Knows") "pieces", "pieces", "Knows.pieces", defArgs s_pKnows, defBody s_pKnows, defScope s_pKnows, [], []⟩
def dfn17 : He5.DefA := ⟨fun K => He.ma K (He.ga K "Knows") "__str__", "__str__", "Knows.__str__", defArgs s_tKnows, defBody s_tKnows, defScope s_tKnows, [], []⟩
def dfn18 : He5.DefA := ⟨fun K => He.ma K (He.ga K "Knows") "__init__", "__init__", "Knows.__init__", defArgs s_iKno, defBody s_iKno, defScope s_iKno, [], []⟩
def dfn19 : He5.DefA := ⟨fun K => He.ma K (He.ga K "Common") "pieces", "pieces", "Common.pieces", defArgs s_pCommon, defBody s_pCommon, defScope s_pCommon, [], []⟩
def dfn20 : He5.DefA := ⟨fun K => He.ma K (He.ga K "Common") "__str__", "__str__", "Common.__str__", defArgs s_tCommon, defBody s_tCommon, defScope s_tCommon, [], []⟩
def dfn21 : He5.DefA := ⟨fun K => He.ma K (He.ga K "Common") "__init__", "__init__", "Common.__init__", defArgs s_iCom, defBody s_iCom, defScope s_iCom, [], []⟩
def dfn22 : He5.DefA := ⟨fun K => He.ma K (He.ga K "Not") "pieces", "pieces", "Not.pieces", defArgs s_pNot, defBody s_pNot, defScope s_pNot, [], []⟩
def dfn23 : He5.DefA := ⟨fun K => He.ma K (He.ga K "Not") "__init__", "__init__", "Not.__init__", defArgs s_iNeg, defBody s_iNeg, defScope s_iNeg, [], []⟩
def dfn24 : He5.DefA := ⟨fun K => He.ma K (He.ga K "Pair") "pieces", "pieces", "Pair.pieces", defArgs s_pPair, defBody s_pPair, defScope s_pPair, [], []⟩
def dfn25 : He5.DefA := ⟨fun K => He.ma K (He.ga K "Not") "__str__", "__str__", "Saying.__str__", defArgs s_tSaying, defBody s_tSaying, defScope s_tSaying, [], []⟩
def dfn26 : He5.DefA := ⟨fun K => He.ma K (He.ga K "Sure") "__invert__", "__invert__", "Sure.__invert__", defArgs s_vSure, defBody s_vSure, defScope s_vSure, [], []⟩
def dfn27 : He5.DefA := ⟨fun K => He.ma K (He.ga K "Crowds") "__init__", "__init__", "Crowds.__init__", defArgs s_cini, defBody s_cini, defScope s_cini, [], []⟩
def dfn28 : He5.DefA := ⟨fun K => He.ma K (He.ga K "Crowds") "__str__", "__str__", "Crowds.__str__", defArgs s_cstr, defBody s_cstr, defScope s_cstr, [], []⟩
def dfn29 : He5.DefA := ⟨fun K => He5.wf K (He.ga K "Crowds") "classmethod" "nothing", "nothing", "Crowds.nothing", defArgs s_cno, defBody s_cno, defScope s_cno, [], []⟩
def dfn30 : He5.DefA := ⟨fun K => He.ga K "is_integer", "is_integer", "is_integer", defArgs s_isint, defBody s_isint, defScope s_isint, [], []⟩
def dfn31 : He5.DefA := ⟨fun K => He.ga K "is_number", "is_number", "is_number", defArgs s_isnum, defBody s_isnum, defScope s_isnum, [], []⟩
def dfn32 : He5.DefA := ⟨fun K => He.ga K "is_kind", "is_kind", "is_kind", defArgs s_iskind, defBody s_iskind, defScope s_iskind, [], []⟩
def dfn33 : He5.DefA := ⟨fun K => He.ga K "is_sequence", "is_sequence", "is_sequence", defArgs s_isseq, defBody s_isseq, defScope s_isseq, [], []⟩
def dfn34 : He5.DefA := ⟨fun K => He.ga K "_check_table", "_check_table", "_check_table", defArgs s_ckt, defBody s_ckt, defScope s_ckt, [], []⟩
def dfn35 : He5.DefA := ⟨fun K => He.ga K "_are_two_from", "_are_two_from", "_are_two_from", defArgs s_two, defBody s_two, defScope s_two, [], []⟩
def dfn36 : He5.DefA := ⟨fun K => He.ga K "_are_rows", "_are_rows", "_are_rows", defArgs s_rws, defBody s_rws, defScope s_rws, [], []⟩
def dfn37 : He5.DefA := ⟨fun K => He.ga K "_spaced", "_spaced", "_spaced", defArgs s_spc, defBody s_spc, defScope s_spc, [], []⟩
def dfn38 : He5.DefA := ⟨fun K => He.ga K "_check_kind", "_check_kind", "_check_kind", defArgs s_ckk, defBody s_ckk, defScope s_ckk, [], []⟩
def dfn39 : He5.DefA := ⟨fun K => He.ga K "_check_saying", "_check_saying", "_check_saying", defArgs s_cks, defBody s_cks, defScope s_cks, [], []⟩
def dfn40 : He5.DefA := ⟨fun K => He.ga K "strings_of", "strings_of", "strings_of", defArgs s_strs, defBody s_strs, defScope s_strs, [], []⟩
def dfn41 : He5.DefA := ⟨fun K => He.ga K "_law_feed", "_law_feed", "_law_feed", defArgs s_feed, defBody s_feed, defScope s_feed, [], []⟩
def dfn42 : He5.DefA := ⟨fun K => He.ga K "_law_take", "_law_take", "_law_take", defArgs s_take, defBody s_take, defScope s_take, [], []⟩
def dfn43 : He5.DefA := ⟨fun K => He.ga K "_law_pick", "_law_pick", "_law_pick", defArgs s_pick, defBody s_pick, defScope s_pick, [], []⟩
def dfn44 : He5.DefA := ⟨fun K => He.ga K "_law_heard", "_law_heard", "_law_heard", defArgs s_hrd, defBody s_hrd, defScope s_hrd, [], []⟩
def dfn45 : He5.DefA := ⟨fun K => He.ga K "_law_number", "_law_number", "_law_number", defArgs s_nmb, defBody s_nmb, defScope s_nmb, [], []⟩
def dfn46 : He5.DefA := ⟨fun K => He.ga K "_law_due", "_law_due", "_law_due", defArgs s_du, defBody s_du, defScope s_du, [], []⟩
def dfn47 : He5.DefA := ⟨fun K => He.ga K "law", "law", "law", defArgs s_law, defBody s_law, defScope s_law, [], []⟩
def fns : List He5.DefA := [dfn0, dfn1, dfn2, dfn3, dfn4, dfn5, dfn6, dfn7, dfn8, dfn9, dfn10, dfn11, dfn12, dfn13, dfn14, dfn15, dfn16, dfn17, dfn18, dfn19, dfn20, dfn21, dfn22, dfn23, dfn24, dfn25, dfn26, dfn27, dfn28, dfn29, dfn30, dfn31, dfn32, dfn33, dfn34, dfn35, dfn36, dfn37, dfn38, dfn39, dfn40, dfn41, dfn42, dfn43, dfn44, dfn45, dfn46, dfn47]
def vals : List He5.FnW := [dfn0.val, dfn1.val, dfn2.val, dfn3.val, dfn4.val, dfn5.val, dfn6.val, dfn7.val, dfn8.val, dfn9.val, dfn10.val, dfn11.val, dfn12.val, dfn13.val, dfn14.val, dfn15.val, dfn16.val, dfn17.val, dfn18.val, dfn19.val, dfn20.val, dfn21.val, dfn22.val, dfn23.val, dfn24.val, dfn25.val, dfn26.val, dfn27.val, dfn28.val, dfn29.val, dfn30.val, dfn31.val, dfn32.val, dfn33.val, dfn34.val, dfn35.val, dfn36.val, dfn37.val, dfn38.val, dfn39.val, dfn40.val, dfn41.val, dfn42.val, dfn43.val, dfn44.val, dfn45.val, dfn46.val, dfn47.val]
theorem vals_eq : vals = valL fns := rfl
theorem mk_all {P : Program} {w : World} {K : PySem.W.Frag} {h : Heap} {mg : Str → Option Value} {fa : Addr} (X : K.In h) (c : SaysM fac fns vals K) (G : h.Ns mainGlobals mg) (hfa : mg "law" = some (.ref fa)) :
    ∃ fd : FuncData, (∀ (s : Shared) (u : Value), BindsTo s fd ⟨[u], []⟩ [("_law_script", u)]) ∧ ∀ base : Heap, K.In base → base.Ns mainGlobals mg → FnG P w K mg base 11 fa fd p_law (spLaw K) := by
  obtain ⟨fd_I, F_I⟩ := c.fun_ vals_eq 0 (at_ := fun K => He.ma K (He.ga K "InvalidSaying") "__init__") (x := "__init__") (q := "InvalidSaying.__init__") (st := s_ie)
  obtain ⟨fd_patl, F_patl⟩ := c.fun_ vals_eq 1 (at_ := fun K => He.ma K (He.ga K "AtLeast") "pieces") (x := "pieces") (q := "AtLeast.pieces") (st := s_pAtLeast)
  obtain ⟨fd_tatl, F_tatl⟩ := c.fun_ vals_eq 2 (at_ := fun K => He.ma K (He.ga K "AtLeast") "__str__") (x := "__str__") (q := "AtLeast.__str__") (st := s_tAtLeast)
  obtain ⟨fd_natl, F_natl⟩ := c.fun_ vals_eq 3 (at_ := fun K => He.ma K (He.ga K "AtLeast") "__init__") (x := "__init__") (q := "AtLeast.__init__") (st := s_iAtl)
  obtain ⟨fd_prst, F_prst⟩ := c.fun_ vals_eq 4 (at_ := fun K => He.ma K (He.ga K "Rest") "pieces") (x := "pieces") (q := "Rest.pieces") (st := s_pRest)
  obtain ⟨fd_trst, F_trst⟩ := c.fun_ vals_eq 5 (at_ := fun K => He.ma K (He.ga K "Rest") "__str__") (x := "__str__") (q := "Rest.__str__") (st := s_tRest)
  obtain ⟨fd_nrst, F_nrst⟩ := c.fun_ vals_eq 6 (at_ := fun K => He.ma K (He.ga K "Rest") "__init__") (x := "__init__") (q := "Rest.__init__") (st := s_iRst)
  obtain ⟨fd_pfct, F_pfct⟩ := c.fun_ vals_eq 7 (at_ := fun K => He.ma K (He.ga K "Fact") "pieces") (x := "pieces") (q := "Fact.pieces") (st := s_pFact)
  obtain ⟨fd_tfct, F_tfct⟩ := c.fun_ vals_eq 8 (at_ := fun K => He.ma K (He.ga K "Fact") "__str__") (x := "__str__") (q := "Fact.__str__") (st := s_tFact)
  obtain ⟨fd_nfct, F_nfct⟩ := c.fun_ vals_eq 9 (at_ := fun K => He.ma K (He.ga K "Fact") "__init__") (x := "__init__") (q := "Fact.__init__") (st := s_iFct)
  obtain ⟨fd_psur, F_psur⟩ := c.fun_ vals_eq 10 (at_ := fun K => He.ma K (He.ga K "Sure") "pieces") (x := "pieces") (q := "Sure.pieces") (st := s_pSure)
  obtain ⟨fd_tsur, F_tsur⟩ := c.fun_ vals_eq 11 (at_ := fun K => He.ma K (He.ga K "Sure") "__str__") (x := "__str__") (q := "Sure.__str__") (st := s_tSure)
  obtain ⟨fd_nsur, F_nsur⟩ := c.fun_ vals_eq 12 (at_ := fun K => He.ma K (He.ga K "Sure") "__init__") (x := "__init__") (q := "Sure.__init__") (st := s_iSur)
  obtain ⟨fd_psil, F_psil⟩ := c.fun_ vals_eq 13 (at_ := fun K => He.ma K (He.ga K "Silent") "pieces") (x := "pieces") (q := "Silent.pieces") (st := s_pSilent)
  obtain ⟨fd_tsil, F_tsil⟩ := c.fun_ vals_eq 14 (at_ := fun K => He.ma K (He.ga K "Silent") "__str__") (x := "__str__") (q := "Silent.__str__") (st := s_tSilent)
  obtain ⟨fd_nsil, F_nsil⟩ := c.fun_ vals_eq 15 (at_ := fun K => He.ma K (He.ga K "Silent") "__init__") (x := "__init__") (q := "Silent.__init__") (st := s_iSil)
  obtain ⟨fd_pkno, F_pkno⟩ := c.fun_ vals_eq 16 (at_ := fun K => He.ma K (He.ga K "Knows") "pieces") (x := "pieces") (q := "Knows.pieces") (st := s_pKnows)
  obtain ⟨fd_tkno, F_tkno⟩ := c.fun_ vals_eq 17 (at_ := fun K => He.ma K (He.ga K "Knows") "__str__") (x := "__str__") (q := "Knows.__str__") (st := s_tKnows)
  obtain ⟨fd_nkno, F_nkno⟩ := c.fun_ vals_eq 18 (at_ := fun K => He.ma K (He.ga K "Knows") "__init__") (x := "__init__") (q := "Knows.__init__") (st := s_iKno)
  obtain ⟨fd_pcom, F_pcom⟩ := c.fun_ vals_eq 19 (at_ := fun K => He.ma K (He.ga K "Common") "pieces") (x := "pieces") (q := "Common.pieces") (st := s_pCommon)
  obtain ⟨fd_tcom, F_tcom⟩ := c.fun_ vals_eq 20 (at_ := fun K => He.ma K (He.ga K "Common") "__str__") (x := "__str__") (q := "Common.__str__") (st := s_tCommon)
  obtain ⟨fd_ncom, F_ncom⟩ := c.fun_ vals_eq 21 (at_ := fun K => He.ma K (He.ga K "Common") "__init__") (x := "__init__") (q := "Common.__init__") (st := s_iCom)
  obtain ⟨fd_pneg, F_pneg⟩ := c.fun_ vals_eq 22 (at_ := fun K => He.ma K (He.ga K "Not") "pieces") (x := "pieces") (q := "Not.pieces") (st := s_pNot)
  obtain ⟨fd_nneg, F_nneg⟩ := c.fun_ vals_eq 23 (at_ := fun K => He.ma K (He.ga K "Not") "__init__") (x := "__init__") (q := "Not.__init__") (st := s_iNeg)
  obtain ⟨fd_ppar, F_ppar⟩ := c.fun_ vals_eq 24 (at_ := fun K => He.ma K (He.ga K "Pair") "pieces") (x := "pieces") (q := "Pair.pieces") (st := s_pPair)
  obtain ⟨fd_tneg, F_tneg⟩ := c.fun_ vals_eq 25 (at_ := fun K => He.ma K (He.ga K "Not") "__str__") (x := "__str__") (q := "Saying.__str__") (st := s_tSaying)
  obtain ⟨fd_vsur, F_vsur⟩ := c.fun_ vals_eq 26 (at_ := fun K => He.ma K (He.ga K "Sure") "__invert__") (x := "__invert__") (q := "Sure.__invert__") (st := s_vSure)
  obtain ⟨fd_ncr, F_ncr⟩ := c.fun_ vals_eq 27 (at_ := fun K => He.ma K (He.ga K "Crowds") "__init__") (x := "__init__") (q := "Crowds.__init__") (st := s_cini)
  obtain ⟨fd_tcr, F_tcr⟩ := c.fun_ vals_eq 28 (at_ := fun K => He.ma K (He.ga K "Crowds") "__str__") (x := "__str__") (q := "Crowds.__str__") (st := s_cstr)
  obtain ⟨fd_cno, F_cno⟩ := c.fun_ vals_eq 29 (at_ := fun K => He5.wf K (He.ga K "Crowds") "classmethod" "nothing") (x := "nothing") (q := "Crowds.nothing") (st := s_cno)
  obtain ⟨fd_isint, F_isint⟩ := c.fun_ vals_eq 30 (at_ := fun K => He.ga K "is_integer") (x := "is_integer") (q := "is_integer") (st := s_isint)
  obtain ⟨fd_isnum, F_isnum⟩ := c.fun_ vals_eq 31 (at_ := fun K => He.ga K "is_number") (x := "is_number") (q := "is_number") (st := s_isnum)
  obtain ⟨fd_iskind, F_iskind⟩ := c.fun_ vals_eq 32 (at_ := fun K => He.ga K "is_kind") (x := "is_kind") (q := "is_kind") (st := s_iskind)
  obtain ⟨fd_isseq, F_isseq⟩ := c.fun_ vals_eq 33 (at_ := fun K => He.ga K "is_sequence") (x := "is_sequence") (q := "is_sequence") (st := s_isseq)
  obtain ⟨fd_ckt, F_ckt⟩ := c.fun_ vals_eq 34 (at_ := fun K => He.ga K "_check_table") (x := "_check_table") (q := "_check_table") (st := s_ckt)
  obtain ⟨fd_two, F_two⟩ := c.fun_ vals_eq 35 (at_ := fun K => He.ga K "_are_two_from") (x := "_are_two_from") (q := "_are_two_from") (st := s_two)
  obtain ⟨fd_rws, F_rws⟩ := c.fun_ vals_eq 36 (at_ := fun K => He.ga K "_are_rows") (x := "_are_rows") (q := "_are_rows") (st := s_rws)
  obtain ⟨fd_spc, F_spc⟩ := c.fun_ vals_eq 37 (at_ := fun K => He.ga K "_spaced") (x := "_spaced") (q := "_spaced") (st := s_spc)
  obtain ⟨fd_ckk, F_ckk⟩ := c.fun_ vals_eq 38 (at_ := fun K => He.ga K "_check_kind") (x := "_check_kind") (q := "_check_kind") (st := s_ckk)
  obtain ⟨fd_cks, F_cks⟩ := c.fun_ vals_eq 39 (at_ := fun K => He.ga K "_check_saying") (x := "_check_saying") (q := "_check_saying") (st := s_cks)
  obtain ⟨fd_strs, F_strs⟩ := c.fun_ vals_eq 40 (at_ := fun K => He.ga K "strings_of") (x := "strings_of") (q := "strings_of") (st := s_strs)
  obtain ⟨fd_feed, F_feed⟩ := c.fun_ vals_eq 41 (at_ := fun K => He.ga K "_law_feed") (x := "_law_feed") (q := "_law_feed") (st := s_feed)
  obtain ⟨fd_take, F_take⟩ := c.fun_ vals_eq 42 (at_ := fun K => He.ga K "_law_take") (x := "_law_take") (q := "_law_take") (st := s_take)
  obtain ⟨fd_pick, F_pick⟩ := c.fun_ vals_eq 43 (at_ := fun K => He.ga K "_law_pick") (x := "_law_pick") (q := "_law_pick") (st := s_pick)
  obtain ⟨fd_hrd, F_hrd⟩ := c.fun_ vals_eq 44 (at_ := fun K => He.ga K "_law_heard") (x := "_law_heard") (q := "_law_heard") (st := s_hrd)
  obtain ⟨fd_nmb, F_nmb⟩ := c.fun_ vals_eq 45 (at_ := fun K => He.ga K "_law_number") (x := "_law_number") (q := "_law_number") (st := s_nmb)
  obtain ⟨fd_du, F_du⟩ := c.fun_ vals_eq 46 (at_ := fun K => He.ga K "_law_due") (x := "_law_due") (q := "_law_due") (st := s_du)
  obtain ⟨fd_law, F_law⟩ := c.fun_ vals_eq 47 (at_ := fun K => He.ga K "law") (x := "law") (q := "law") (st := s_law)
  have cm := c.fact 10 14 (f := fun K => He5.wrapB K (He.ga K "Crowds") "classmethod" "classmethod.__get__" "nothing" && PySem.W.fnIn K (He5.wf K (He.ga K "Crowds") "classmethod" "nothing"))
  rw [Bool.and_eq_true] at cm
  exact all_mk (KE := He.ga K "KnowError") (CI := He.ga K "InvalidSaying") (CR := He.ga K "InvalidCrowds") (CT := He.ga K "InvalidTalk") (CS := He.ga K "Saying") (CC := He.ga K "Crowds") (TK := He.ga K "KINDS") (A_atl := He.ga K "AtLeast") (A_rst := He.ga K "Rest") (A_fct := He.ga K "Fact") (A_sur := He.ga K "Sure") (A_sil := He.ga K "Silent") (A_kno := He.ga K "Knows") (A_com := He.ga K "Common") (A_neg := He.ga K "Not") (A_par := He.ga K "Pair") (f_I := He.ma K (He.ga K "InvalidSaying") "__init__") (f_patl := He.ma K (He.ga K "AtLeast") "pieces") (f_tatl := He.ma K (He.ga K "AtLeast") "__str__") (f_natl := He.ma K (He.ga K "AtLeast") "__init__") (f_prst := He.ma K (He.ga K "Rest") "pieces") (f_trst := He.ma K (He.ga K "Rest") "__str__") (f_nrst := He.ma K (He.ga K "Rest") "__init__") (f_pfct := He.ma K (He.ga K "Fact") "pieces") (f_tfct := He.ma K (He.ga K "Fact") "__str__") (f_nfct := He.ma K (He.ga K "Fact") "__init__") (f_psur := He.ma K (He.ga K "Sure") "pieces") (f_tsur := He.ma K (He.ga K "Sure") "__str__") (f_nsur := He.ma K (He.ga K "Sure") "__init__") (f_psil := He.ma K (He.ga K "Silent") "pieces") (f_tsil := He.ma K (He.ga K "Silent") "__str__") (f_nsil := He.ma K (He.ga K "Silent") "__init__") (f_pkno := He.ma K (He.ga K "Knows") "pieces") (f_tkno := He.ma K (He.ga K "Knows") "__str__") (f_nkno := He.ma K (He.ga K "Knows") "__init__") (f_pcom := He.ma K (He.ga K "Common") "pieces") (f_tcom := He.ma K (He.ga K "Common") "__str__") (f_ncom := He.ma K (He.ga K "Common") "__init__") (f_pneg := He.ma K (He.ga K "Not") "pieces") (f_nneg := He.ma K (He.ga K "Not") "__init__") (f_ppar := He.ma K (He.ga K "Pair") "pieces") (f_tneg := He.ma K (He.ga K "Not") "__str__") (f_vsur := He.ma K (He.ga K "Sure") "__invert__") (f_ncr := He.ma K (He.ga K "Crowds") "__init__") (f_tcr := He.ma K (He.ga K "Crowds") "__str__") (pN := He.ma K (He.ga K "Crowds") "nothing") (f_cno := He5.wf K (He.ga K "Crowds") "classmethod" "nothing") (f_isint := He.ga K "is_integer") (f_isnum := He.ga K "is_number") (f_iskind := He.ga K "is_kind") (f_isseq := He.ga K "is_sequence") (f_ckt := He.ga K "_check_table") (f_two := He.ga K "_are_two_from") (f_rws := He.ga K "_are_rows") (f_spc := He.ga K "_spaced") (f_ckk := He.ga K "_check_kind") (f_cks := He.ga K "_check_saying") (f_strs := He.ga K "strings_of") (f_feed := He.ga K "_law_feed") (f_take := He.ga K "_law_take") (f_pick := He.ga K "_law_pick") (f_hrd := He.ga K "_law_heard") (f_nmb := He.ga K "_law_number") (f_du := He.ga K "_law_due") (f_law := He.ga K "law") X G hfa
    (c.is 0 0)
    (c.is 0 1)
    (c.is 0 2)
    (c.is 0 3)
    (c.is 0 4)
    (c.is 0 5)
    (c.is 0 6)
    (c.fact 0 7 (f := fun K => excB K (He.ga K "InvalidSaying") (He.ga K "KnowError")))
    (c.is 0 8)
    (c.is 0 9)
    (c.is 0 10)
    (c.is 0 11)
    (c.is 0 12)
    (c.is 0 13)
    (c.is 0 14)
    (c.is 0 15)
    (c.is 0 16)
    (c.is 0 17)
    (c.is 0 18)
    (c.is 0 19)
    (c.is 1 0)
    (c.is 1 1)
    (c.is 1 2)
    F_I
    (c.is 1 3)
    (c.is 1 4)
    (He.tupB_ok (c.fact 1 5 (f := fun K => He.tupB K "KINDS" [.str "marked", .str "plain"])))
    (c.is 1 6)
    (c.is 1 7)
    (c.is 1 8)
    (c.is 1 9)
    (c.is 1 10)
    (c.is 1 11)
    (c.is 1 12)
    (c.is 1 13)
    (c.is 1 14)
    (c.is 1 15)
    (c.is 1 16)
    (c.is 1 17)
    (c.is 1 18)
    F_patl
    (c.is 1 19)
    (c.is 2 0)
    F_tatl
    (c.is 2 1)
    (c.is 2 2)
    (c.is 2 3)
    (c.is 2 4)
    F_natl
    (c.is 2 5)
    (c.is 2 6)
    (c.is 2 7)
    (c.is 2 8)
    (c.is 2 9)
    (c.is 2 10)
    (c.is 2 11)
    (c.is 2 12)
    (c.is 2 13)
    (c.is 2 14)
    (c.is 2 15)
    (c.is 2 16)
    (c.is 2 17)
    (c.is 2 18)
    (c.is 2 19)
    F_prst
    (c.is 3 0)
    (c.is 3 1)
    F_trst
    (c.is 3 2)
    (c.is 3 3)
    (c.is 3 4)
    (c.is 3 5)
    F_nrst
    (c.is 3 6)
    (c.is 3 7)
    (c.is 3 8)
    (c.is 3 9)
    (c.is 3 10)
    (c.is 3 11)
    (c.is 3 12)
    (c.is 3 13)
    (c.is 3 14)
    (c.is 3 15)
    (c.is 3 16)
    (c.is 3 17)
    (c.is 3 18)
    F_pfct
    (c.is 3 19)
    (c.is 4 0)
    F_tfct
    (c.is 4 1)
    (c.is 4 2)
    (c.is 4 3)
    (c.is 4 4)
    F_nfct
    (c.is 4 5)
    (c.is 4 6)
    (c.is 4 7)
    (c.is 4 8)
    (c.is 4 9)
    (c.is 4 10)
    (c.is 4 11)
    (c.is 4 12)
    (c.is 4 13)
    (c.is 4 14)
    (c.is 4 15)
    (c.is 4 16)
    (c.is 4 17)
    F_psur
    (c.is 4 18)
    (c.is 4 19)
    F_tsur
    (c.is 5 0)
    (c.is 5 1)
    (c.is 5 2)
    (c.is 5 3)
    F_nsur
    (c.is 5 4)
    (c.is 5 5)
    (c.is 5 6)
    (c.is 5 7)
    (c.is 5 8)
    (c.is 5 9)
    (c.is 5 10)
    (c.is 5 11)
    (c.is 5 12)
    (c.is 5 13)
    (c.is 5 14)
    (c.is 5 15)
    F_psil
    (c.is 5 16)
    (c.is 5 17)
    F_tsil
    (c.is 5 18)
    (c.is 5 19)
    (c.is 6 0)
    (c.is 6 1)
    F_nsil
    (c.is 6 2)
    (c.is 6 3)
    (c.is 6 4)
    (c.is 6 5)
    (c.is 6 6)
    (c.is 6 7)
    (c.is 6 8)
    (c.is 6 9)
    (c.is 6 10)
    (c.is 6 11)
    (c.is 6 12)
    (c.is 6 13)
    (c.is 6 14)
    (c.is 6 15)
    F_pkno
    (c.is 6 16)
    (c.is 6 17)
    F_tkno
    (c.is 6 18)
    (c.is 6 19)
    (c.is 7 0)
    (c.is 7 1)
    F_nkno
    (c.is 7 2)
    (c.is 7 3)
    (c.is 7 4)
    (c.is 7 5)
    (c.is 7 6)
    (c.is 7 7)
    (c.is 7 8)
    (c.is 7 9)
    (c.is 7 10)
    (c.is 7 11)
    (c.is 7 12)
    (c.is 7 13)
    (c.is 7 14)
    F_pcom
    (c.is 7 15)
    (c.is 7 16)
    F_tcom
    (c.is 7 17)
    (c.is 7 18)
    (c.is 7 19)
    (c.is 8 0)
    F_ncom
    (c.is 8 1)
    (c.is 8 2)
    (c.is 8 3)
    (c.is 8 4)
    (c.is 8 5)
    (c.is 8 6)
    (c.is 8 7)
    (c.is 8 8)
    (c.is 8 9)
    (c.is 8 10)
    (c.is 8 11)
    (c.is 8 12)
    (c.is 8 13)
    F_pneg
    (c.is 8 14)
    (c.is 8 15)
    (c.is 8 16)
    (c.is 8 17)
    F_nneg
    (c.is 8 18)
    (c.is 8 19)
    (c.is 9 0)
    (c.is 9 1)
    (c.is 9 2)
    (c.is 9 3)
    (c.is 9 4)
    (c.is 9 5)
    (c.is 9 6)
    (c.is 9 7)
    (c.is 9 8)
    (c.is 9 9)
    (c.is 9 10)
    (c.is 9 11)
    (c.is 9 12)
    F_ppar
    (c.is 9 13)
    (c.is 9 14)
    F_tneg
    (c.is 9 15)
    (c.is 9 16)
    (c.is 9 17)
    F_vsur
    (c.is 9 18)
    (c.is 9 19)
    (c.is 10 0)
    (c.is 10 1)
    (c.is 10 2)
    (c.is 10 3)
    (c.is 10 4)
    (c.is 10 5)
    (c.is 10 6)
    (c.is 10 7)
    (c.is 10 8)
    (c.is 10 9)
    (c.is 10 10)
    F_ncr
    (c.is 10 11)
    (c.is 10 12)
    F_tcr
    (c.is 10 13)
    (He5.cmet_of cm.1 cm.2)
    F_cno
    (c.is 10 15)
    (c.is 10 16)
    (c.is 10 17)
    (c.is 10 18)
    (c.is 10 19)
    (c.is 11 0)
    (c.is 11 1)
    (c.is 11 2)
    (c.is 11 3)
    (c.is 11 4)
    (c.is 11 5)
    (c.is 11 6)
    (c.is 11 7)
    (c.is 11 8)
    (c.is 11 9)
    (c.is 11 10)
    (c.is 11 11)
    (c.is 11 12)
    (c.is 11 13)
    (c.is 11 14)
    (c.is 11 15)
    (c.is 11 16)
    (c.is 11 17)
    (c.is 11 18)
    (c.is 11 19)
    (c.is 12 0)
    (c.is 12 1)
    (c.is 12 2)
    (c.is 12 3)
    (c.is 12 4)
    (c.is 12 5)
    F_isint
    (c.is 12 6)
    F_isnum
    (c.is 12 7)
    F_iskind
    (c.is 12 8)
    F_isseq
    (c.is 12 9)
    F_ckt
    (c.is 12 10)
    F_two
    (c.is 12 11)
    F_rws
    (c.is 12 12)
    F_spc
    (c.is 12 13)
    F_ckk
    (c.is 12 14)
    F_cks
    (c.is 12 15)
    F_strs
    (c.is 12 16)
    F_feed
    (c.is 12 17)
    F_take
    (c.is 12 18)
    F_pick
    (c.is 12 19)
    F_hrd
    (c.is 13 0)
    F_nmb
    (c.is 13 1)
    F_du
    (c.is 13 2)
    F_law
end Z
set_option Elab.async false
set_option linter.all false
set_option maxRecDepth 100000
set_option maxHeartbeats 0
namespace Z
open PySem PySem.Spec PyProof.Rows L2
abbrev rowH : PySem.W.OpenRow := PySem.W.OpenLaw.row PySem.Challenge.rw_foreheads_k14_sayings_refused
abbrev viewH : Program := PySem.W.view rowH.prog [53]
def lookH : Look := ⟨["KnowError", "InvalidSaying", "InvalidCrowds", "InvalidTalk", "Saying", "Crowds", "AtLeast", "Rest", "Fact", "Sure", "Silent", "Knows", "Common", "Not", "Pair"], ["KINDS", "is_integer", "is_number", "is_kind", "is_sequence", "_check_table", "_are_two_from", "_are_rows", "_spaced", "_check_kind", "_check_saying", "strings_of", "_law_feed", "_law_take", "_law_pick", "_law_heard", "_law_number", "_law_due", "law"], [("InvalidSaying", ["__init__"]), ("AtLeast", ["pieces", "__str__", "__init__"]), ("Rest", ["pieces", "__str__", "__init__"]), ("Fact", ["pieces", "__str__", "__init__"]), ("Sure", ["pieces", "__str__", "__init__", "__invert__"]), ("Silent", ["pieces", "__str__", "__init__"]), ("Knows", ["pieces", "__str__", "__init__"]), ("Common", ["pieces", "__str__", "__init__"]), ("Not", ["pieces", "__init__", "__str__"]), ("Pair", ["pieces"]), ("Crowds", ["__init__", "__str__"])], [("Crowds", ["nothing"])]⟩
def looseH : List Str := (["lcm", "_wall", "KINDS", "is_integer", "is_number", "is_kind", "is_sequence", "is_crowd", "KnowError", "InvalidCrowds", "InvalidSaying", "InvalidTalk", "Crowds", "Overlay", "joined_bits", "_joined", "_is_within", "_bits", "_signs", "_longer", "_least_table", "_told_by", "_check_table", "_are_two_from", "_are_rows", "_least_round", "place_of", "_spaced", "Saying", "AtLeast"] : List Str) ++ (["Rest", "Fact", "Sure", "Silent", "Knows", "Common", "Not", "Pair", "_check_kind", "_check_saying", "_are_alike", "strings_of", "_law_feed", "_law_take", "_law_pick", "_law_heard", "_law_number", "_law_due"] : List Str)
theorem runH (w : World) : HandSHeadRun.RunEqI rowH viewH (hookM lookH fac fns vals) (fun s => obsMG lookH fac fns (HandSHeadRun.getT s)) 20000 looseH w := by
  unfold HandSHeadRun.RunEqI
  kernel_rfl
end Z
open PySem PySem.W PyProof.Rows
theorem PySem.Challenge.cw_foreheads_k14_sayings_refused_holds : PySem.Challenge.rw_foreheads_k14_sayings_refused.Holds := by
  w_on; o_law
  refine HandSHeadRun.head_imp (r := Z.rowH) (q := Z.viewH) (H := Z.hookM Z.lookH Z.fac Z.fns Z.vals) (ob := fun s => Z.obsMG Z.lookH Z.fac Z.fns (HandSHeadRun.getT s)) (M := 20000) (loose := Z.looseH) (d := HandSHeadRun.topDef Z.rowH.prog 53) (kwd := [])
    Z.obsM_eq Z.runH ?g1 ?g2 ?g3 ?g4 ?g5 ?g6 ?g7 ?hw ?hc
  case g1 => kernel_rfl
  case g2 => kernel_rfl
  case g3 => kernel_rfl
  case g4 => rfl
  case g5 => first | assumption | decide +kernel
  case g6 => decide +kernel
  case g7 => exact ⟨rfl, rfl, rfl, rfl, rfl, by decide +kernel⟩
  case hw => w_witness2
  case hc =>
    refine Z.walk_ofGE (l := PySem.Challenge.rw_foreheads_k14_sayings_refused) (n := 63) (k := 11) (x := "_law_script") (sp := fun K => Z.spLaw K) rfl (by decide) (by kernel_rfl) ⟨rfl, by decide, by decide⟩ ?F (fun _ _ a ns hl _ hS => ⟨a, ns, rfl, hS, hl, fun _ => rfl⟩)
    intro w mg fa h Y G hmg
    obtain ⟨K, KX, c⟩ := Y
    have e : (HandSHeadRun.topDef Z.rowH.prog 53).name = ("law" : PySem.Str) := by kernel_rfl
    have hmg' : mg ("law" : PySem.Str) = some (.ref fa) := by rw [← e]; exact hmg
    obtain ⟨fd, hb, hF⟩ := Z.mk_all (P := (PySem.Challenge.rw_foreheads_k14_sayings_refused).prog) (w := w) KX c G hmg'
    exact ⟨K, fd, KX, hb, hF⟩
