import PyProof.Rows.All
import Wide.All
import OpenK.AllK
import Wide.FinOn
import HandS.ForMost
import HandS.Walk
import HandS.Zip
import HandS.Gcd
import HandS.Wide
import HandS.WideMore
import HandS.Defaults
import HandS.Property
import HandS.Style
import HandS.Star
import HandS.TupAny
import HandS.IsInst
import HandS.Flow
import HandS.EndBits
import HandS.SetFor
import HandS.Strs
import HandS.TryOnly
import HandS.ForExc
import HandS.ExcInit
import HandS.RaiseMore
import KE.SortKeyHeap
import KE.DatumOrd
import KE.DataMinMax
import PyProof.CollectIter
import PyProof.WalksMore
import HandS.OwnEq
import KE.KEqDeep
import PyProof.InstNe
import HandS.List
import PyProof.EqKinds
import PyProof.P3In
import PyProof.FactsAll.dict_1
import PyProof.Rows.SortStr
import PyProof.Rows.IntBool
import PyProof.StrOps2
import HandS.Text
import HandS.TupLe
import HandS.Deep
import PyProof.SeqIndex
import KE.SortCalls
import HandS.DictComp
import KE.GoesEnum
import HandS.Iter
import PyProof.Draws
import KE.GoesMore
import HandS.NoneIn
import HandS.WordsDict
import PySem.Challenge.RW_frugaltape_k25_free_runs_step_by_step
set_option Elab.async false
set_option linter.all false
set_option maxRecDepth 100000
namespace Sp1
open PySem PySem.Spec PyProof.Rows L2
/-- a def of the top: where it stands -/
structure Dn (K : PySem.W.Frag) (mg : Str → Option Value) (name : Str) (st : Stmt) (ps : List Str) (f : Addr) (fd : FuncData) : Prop where
  F : Fun K name name st f fd
  g : mg name = some (.ref f)
  b : Binds K fd ps []
theorem Dn.kp {K : PySem.W.Frag} {mg : Str → Option Value} {name : Str} {st : Stmt} {ps : List Str} {f : Addr} {fd : FuncData} (D : Dn K mg name st ps f fd) : PySem.W.keepIn K (.ref f) = true := D.F.kp
/-! heaps -/
theorem Same.sqt {K : PySem.W.Frag} {H H' : Hp} {a : Addr} {xs : List V} (e : Same H H') (h : SqT K H a xs) : SqT K H' a xs := by
  rcases h with (h | ⟨o, h⟩) | h
  · exact .inl (.inl (e _ _ h))
  · exact .inl (.inr ⟨o, e _ _ h⟩)
  · exact .inr h
theorem same_new {H : Hp} {p : Addr} {o : HO} (h : H p = none) : Same H (upd H p o) := fun b x e => by
  rw [upd_ne (ne_of_none e h)]
  exact e
theorem same_at {H0 H : Hp} {p : Addr} {o : HO} (h0 : H0 p = none) (s : Same H0 H) : Same H0 (upd H p o) := fun b x e => by
  rw [upd_ne (ne_of_none e h0)]
  exact s b x e
theorem pe_ty {X : Cx} {x : Str} {n : String} {pos : Pos} (hg : Gl X x) (hm : X.mg x = none) (hb : bootBuiltins x = some (.type n)) (hn : x ≠ "__name__" := by decide) (hd : (x == ("__debug__" : Str)) = false := by decide) : PE X (.Name x pos) (tC (.ty n)) := pe_bltn hg hm hb rfl hn hd
/-! tuples stay -/
def TK (H H' : Hp) : Prop := (∀ b xs, H b = some (.tup xs) → H' b = some (.tup xs)) ∧ ∀ b o u, H b = some (.frz o u) → H' b = some (.frz o u)
theorem TK.refl (H : Hp) : TK H H := ⟨fun _ _ h => h, fun _ _ _ h => h⟩
theorem TK.trans {H H1 H2 : Hp} (a : TK H H1) (b : TK H1 H2) : TK H H2 := ⟨fun c xs h => b.1 c xs (a.1 c xs h), fun c o u h => b.2 c o u (a.2 c o u h)⟩
theorem Same.tk {H H' : Hp} (s : Same H H') : TK H H' := ⟨fun b xs h => s b _ h, fun b o u h => s b _ h⟩
theorem tk_lst {H : Hp} {D : Addr} {xs : List V} {o : HO} (h : H D = some (.lst xs)) : TK H (upd H D o) := ⟨fun b ys e => by rw [upd_ne (ne_of e h (by intro z; cases z))]; exact e, fun b ob u e => by rw [upd_ne (ne_of e h (by intro z; cases z))]; exact e⟩
theorem TK.sqt {K : PySem.W.Frag} {H H' : Hp} {a : Addr} {xs : List V} (e : TK H H') (h : SqT K H a xs) : SqT K H' a xs := by
  rcases h with (h | ⟨o, h⟩) | h
  · exact .inl (.inl (e.1 _ _ h))
  · exact .inl (.inr ⟨o, e.2 _ _ _ h⟩)
  · exact .inr h
/-- all but p stands as it stood -/
def SX (p : Addr) (H H' : Hp) : Prop := ∀ b o, b ≠ p → H b = some o → H' b = some o
theorem SX.refl (p : Addr) (H : Hp) : SX p H H := fun _ _ _ h => h
theorem SX.trans {p : Addr} {H H1 H2 : Hp} (a : SX p H H1) (b : SX p H1 H2) : SX p H H2 := fun c o hc h => b c o hc (a c o hc h)
theorem Same.sx {p : Addr} {H H' : Hp} (s : Same H H') : SX p H H' := fun b o _ h => s b o h
theorem SX.new {p q : Addr} {H H' : Hp} {o : HO} (a : SX p H H') (n : H q = none) : SX p H (upd H' q o) := fun b u hb e => by
  rw [upd_ne (ne_of_none e n)]
  exact a b u hb e
theorem sx_put {r : Addr} {H : Hp} {o : HO} : SX r H (upd H r o) := fun b u hb e => by rw [upd_ne hb]; exact e
theorem Same.free {H H' : Hp} {p : Addr} (s : Same H H') (n : H' p = none) : H p = none := by
  cases e : H p with
  | none => rfl
  | some o =>
    rw [s _ _ e] at n
    cases n
theorem SX.free {p q : Addr} {H H' : Hp} (s : SX p H H') (hq : q ≠ p) (n : H' q = none) : H q = none := by
  cases e : H q with
  | none => rfl
  | some o =>
    rw [s _ _ hq e] at n
    cases n
/-- a place of two ints, the second below a bound -/
def PoolAt (H : Hp) (p : Addr) : Prop := ∃ a b : Int, H p = some (.lst [.int a, .int b]) ∧ 0 ≤ a ∧ 0 ≤ b ∧ b < 2147483647
theorem PoolAt.lst {H : Hp} {p : Addr} (h : PoolAt H p) : ∃ xs, H p = some (.lst xs) := by
  obtain ⟨a, b, h, _⟩ := h
  exact ⟨_, h⟩
theorem PoolAt.new {H : Hp} {p q : Addr} {o : HO} (h : PoolAt H p) (n : H q = none) : PoolAt (upd H q o) p := by
  obtain ⟨a, b, e, r⟩ := h
  exact ⟨a, b, by rw [upd_ne (ne_of_none e n)]; exact e, r⟩
theorem PoolAt.put {H : Hp} {p q : Addr} {o : HO} (h : PoolAt H p) (n : p ≠ q) : PoolAt (upd H q o) p := by
  obtain ⟨a, b, e, r⟩ := h
  exact ⟨a, b, by rw [upd_ne n]; exact e, r⟩
theorem PoolAt.ne {H : Hp} {p q : Addr} (h : PoolAt H p) (n : H q = none) : p ≠ q := by
  obtain ⟨xs, e⟩ := h.lst
  exact ne_of_none e n
theorem PoolAt.same {H H' : Hp} {p : Addr} (h : PoolAt H p) (s : Same H H') : PoolAt H' p := by
  obtain ⟨a, b, e, r⟩ := h
  exact ⟨a, b, s _ _ e, r⟩
theorem small1000 {n : Nat} (h : n ≤ 1000) : n < sizeLine := by rw [sizeLine_eq]; omega
/-! a comprehension's new list: its items known -/
def Acc (H1 : Hp) (D : Addr) (f : Nat → V) (i : Nat) (H : Hp) : Prop := Same H1 H ∧ H D = some (.lst ((List.range i).map f))
theorem Acc.start {H1 : Hp} {D : Addr} {f : Nat → V} (nD : H1 D = none) : Acc H1 D f 0 (upd H1 D (.lst [])) := ⟨same_new nD, upd_same⟩
theorem Acc.turn {H1 H H4 : Hp} {D : Addr} {f : Nat → V} {i : Nat} {y : V} (h : Acc H1 D f i H) (nD : H1 D = none) (s : Same H H4) (hi : i ≤ 1000) (hy : y = f i) :
    ∃ acc, H4 D = some (.lst acc) ∧ acc.length < sizeLine ∧ Acc H1 D f (i + 1) (upd H4 D (.lst (acc ++ [y]))) := by
  refine ⟨_, s _ _ h.2, ?_, same_at nD (h.1.trans s), ?_⟩
  · rw [List.length_map, List.length_range]
    exact small1000 hi
  · rw [upd_same, List.range_succ, List.map_append, hy]
    rfl
theorem int_at {u : List Int} {i : Nat} (h : i < u.length) : (u.map V.int)[i]? = some (.int u[i]) := by
  rw [List.getElem?_map, List.getElem?_eq_getElem h]
  rfl
theorem int_of {u : List Int} {i : Nat} {x : V} (h : (u.map V.int)[i]? = some x) : ∃ hi : i < u.length, x = .int u[i] := by
  have h1 := (List.getElem?_eq_some_iff.mp h).1
  rw [List.length_map] at h1
  rw [int_at h1] at h
  exact ⟨h1, (Option.some.inj h).symm⟩
theorem ixn {n j : Nat} (h : j < n) : ixN n (j : Int) = some j := by
  unfold ixN
  rw [if_pos (Int.natCast_nonneg j), if_pos (by omega)]
  rfl
abbrev rListOf (K : PySem.W.Frag) : List V → Hp → VK → Prop := fun xs H Q => ∃ p ys, xs = [V.ref p] ∧ (SqL K H p ys ∨ SqT K H p ys) ∧ ∀ l, H l = none → Q (V.ref l) (upd H l (.lst ys))
abbrev rLenSq (K : PySem.W.Frag) : List V → Hp → VK → Prop := fun xs H Q => ∃ p ys, xs = [V.ref p] ∧ (SqL K H p ys ∨ SqT K H p ys) ∧ Q (V.int ys.length) H
theorem dp_ints {K : PySem.W.Frag} {H : Hp} : ∀ u : List Int, DpAll K H (u.map V.int) (u.map PyData.int)
  | [] => .nil
  | x :: r => .cons (.int x) (dp_ints r)
theorem lay_ints : ∀ u : List Int, PyData.canLayAll0 (u.map PyData.int) = true ∧ PyData.depthAll (u.map PyData.int) = 0
  | [] => ⟨rfl, rfl⟩
  | x :: r => by
    obtain ⟨h1, h2⟩ := lay_ints r
    constructor
    · show (PyData.canLay0 (.int x) && PyData.canLayAll0 (r.map PyData.int)) = true
      rw [h1]
      rfl
    · show max (PyData.depth (.int x)) (PyData.depthAll (r.map PyData.int)) = 0
      rw [h2]
      rfl
theorem shaped_i (u : List Int) : SeqAt.shaped (.list (u.map PyData.int)) = true := by
  obtain ⟨h1, h2⟩ := lay_ints u
  exact Bool.and_eq_true_iff.mpr ⟨h1, decide_eq_true (by show PyData.depthAll _ + 1 ≤ 64; omega)⟩
theorem eqv_same {d : PyData} (h : SeqAt.shaped d = true) : PyData.eqv d d = true := PySem.SeqAt.eqv_refl _ (Bool.and_eq_true_iff.mp h).1
theorem ne_same {d : PyData} (h : SeqAt.shaped d = true) : (!PyData.eqv d d) = false := by rw [eqv_same h]; rfl
end Sp1

set_option Elab.async false
set_option linter.all false
set_option maxRecDepth 100000
set_option maxHeartbeats 4000000
namespace Sp1
open PySem PySem.Spec PyProof.Rows L2
theorem tyx_lst {K : PySem.W.Frag} {H : Hp} {l : Addr} {xs : List V} (h : H l = some (.lst xs)) : TyX K H (.ref l) (.type "list") := .base (.lst h)
theorem tyx_tup {K : PySem.W.Frag} {H : Hp} {a : Addr} {xs : List V} (h : H a = some (.tup xs)) : TyX K H (.ref a) (.type "tuple") := .base (.tup h)
/-! repr of data: how long its text is -/
mutual
theorem leaves_of_show : ∀ d : PyData, d.showable = true → d.canLay0 = true → d.hasDict = false → d.leavesShort 1921 = true
  | .none, _, _, _ => rfl
  | .bool _, _, _, _ => rfl
  | .int i, h, _, _ => by
    have h1 : i.natAbs.log2 < 1920 := by simpa only [PyData.showable, decide_eq_true_eq] using h
    have h2 := PyProof.Rows.int_text_len_1921 h1
    simp only [PyData.leavesShort, decide_eq_true_eq]
    exact h2
  | .str x, _, h, _ => PyData.leavesShort_of_canLay0 1921 (.str x) h (by simp [PyData.intsShort])
  | .list xs, h, h2, h3 => by
    simp only [PyData.leavesShort]
    exact leaves_all xs (by simpa only [PyData.showable] using h) (by simpa only [PyData.canLay0] using h2) (by simpa only [PyData.hasDict] using h3)
  | .tuple xs, h, h2, h3 => by
    simp only [PyData.leavesShort]
    exact leaves_all xs (by simpa only [PyData.showable] using h) (by simpa only [PyData.canLay0] using h2) (by simpa only [PyData.hasDict] using h3)
  | .dict kvs, _, _, h3 => by simp [PyData.hasDict] at h3
theorem leaves_all : ∀ ds : List PyData, PyData.showableAll ds = true → PyData.canLayAll0 ds = true → PyData.hasDictAll ds = false → PyData.leavesShortAll 1921 ds = true
  | [], _, _, _ => rfl
  | d :: ds, h, h2, h3 => by
    simp only [PyData.showableAll, Bool.and_eq_true] at h
    simp only [PyData.canLayAll0, Bool.and_eq_true] at h2
    simp only [PyData.hasDictAll, Bool.or_eq_false_iff] at h3
    simp only [PyData.leavesShortAll, Bool.and_eq_true]
    exact ⟨leaves_of_show d h.1 h2.1 h3.1, leaves_all ds h.2 h2.2 h3.2⟩
end
/-- what can be shown: its numbers below 2 ^ 1920, no dict, not too heavy -/
structure Shows (d : PyData) : Prop where
  sh : d.showable = true
  ly : d.canLay0 = true
  nd : d.hasDict = false
  dp : d.depth ≤ 60
  wt : d.weight ≤ 8000
theorem Shows.fits {d : PyData} (S : Shows d) : d.shown.length ≤ sizeLine := by
  have h := PyData.shown_le 1921 (by decide) d (leaves_of_show d S.sh S.ly S.nd)
  have h2 : (1921 + 2) * d.weight ≤ (1921 + 2) * 8000 := Nat.mul_le_mul_left _ S.wt
  rw [sizeLine_eq]
  omega
theorem Shows.shaped {d : PyData} (S : Shows d) : SeqAt.shaped d = true := Bool.and_eq_true_iff.mpr ⟨S.ly, decide_eq_true (by have := S.dp; omega)⟩
section
variable {X : Cx}
/-- repr(x) of a list or a tuple -/
def rRepr (K : PySem.W.Frag) : List V → Hp → VK → Prop := fun xs H Q => ∃ a d, xs = [V.ref a] ∧ Dp K H (.ref a) d ∧ Shows d ∧ Q (.str d.shown) H
theorem cr_repr (hg : X.A.guards = some []) (hu : X.A.units + 64 < cLine) : CallR X (.builtin "repr") (rRepr X.K) := by
  intro pins s σ H xs us Q I r h
  obtain ⟨a, d, rfl, hd, S, q⟩ := h
  rw [Vals.ref1 r]
  obtain ⟨as, rd⟩ := Dp.reads I d (.ref a) (.ref a) hd rfl
  have := S.dp
  refine repr_of_reads' rd S.sh (fun e => by rw [S.nd] at e; cases e) hg (by omega) (fun _ _ e => e) (fun h' u tk hk => ?_) S.fits
  exact ⟨.str d.shown, H, I.kept hk, ⟨u, rfl⟩, q⟩
end
end Sp1

set_option Elab.async false
set_option linter.all false
set_option maxRecDepth 100000
set_option maxHeartbeats 4000000
namespace Sp1
open PySem PySem.W PySem.Spec PyProof.Rows L2
section
variable {prog : Program} {w : World} {A : Around} {E : Value → Shared → Prop} {s : Shared}
/-- min(a, b) of two alike data -/
theorem min_pair_data {a b : Value} {d e : PyData} {as bs : List Addr} {Q : Value → Shared → Prop} (hh : A.handled = none) (ra : Reads s.heap a d as) (rb : Reads s.heap b e bs) (al : AlikeAll [d, e])
    (hu : A.units + 1 + PyData.depthAll [d, e] < cLine) (q : ∀ h' tk, (∀ c o, s.heap.get? c = some o → h'.get? c = some o) → Q (if dataLt e d = true then b else a) { s with heap := h', toks := tk }) :
    wpAny (model prog w) A (call (.builtin "min") [a, b]) Q E s := by
  have nm : (toString "min" ++ toString ".loop" : String) = "min.loop" := by decide
  refine call_function_tree PySem.F.kind_min PySem.F.plain_min PySem.F.entry_min (PySem.F.args_min2 _ _) (wpAny_bind (m := Builtin.Builtins.bindParams "min" ["key", "default"] 0 ⟨[], []⟩) (wpAny_of_eq (a := [none, none]) rfl ?_))
  refine wpAny_bind (m := newTuple [a, b]) (wpAny_newObj_type ?_)
  have hk1 : ∀ c o, s.heap.get? c = some o → (s.heap.push { cls := .type "tuple", data := .seq #[a, b] }).get? c = some o := fun c o x => Heap.get?_push_of_some _ x
  have hT : (s.heap.push { cls := .type "tuple", data := .seq #[a, b] }).IsTuple s.heap.objs.size #[a, b] := ⟨_, Heap.get?_push_size _ rfl, rfl, 0, rfl⟩
  have hr : ReadsAll (s.heap.push { cls := .type "tuple", data := .seq #[a, b] }) (#[a, b] : Array Value).toList [d, e] (as ++ (bs ++ [])) := .cons (Reads.keeps hk1 ra) (.cons (Reads.keeps hk1 rb) .nil)
  generalize s.heap.push { cls := .type "tuple", data := .seq #[a, b] } = h1 at hk1 hT hr ⊢
  refine wpAny_bind (iter_tupleW (A := A.in1) (s := { s with heap := h1, toks := s.toks }) hh hT fun s₂ e2 W st hfp hw hk => wpAny_bind (wpAny_newObj_type ?_))
  rw [nm]
  have nS : s₂.heap.objs.size ∉ [h1.objs.size, s.heap.objs.size] := fun hm => Nat.lt_irrefl _ (hfp _ hm)
  have W0 := W.frame 0 s₂ (s₂.heap.push { cls := .type "list", data := .seq #[] 0 }) s₂.toks st (Nat.le_refl _) fun c _ o x => Heap.get?_push_of_some _ x
  refine wpAny_pure ⟨plainId_quiet PySem.F.plain_min_loop _, codeAny_min_loop_firstH (n := (#[a, b] : Array Value).size) W h1 hw _ (cmpIn_lt (A := A.in1) (s := { s with heap := h1, toks := s.toks }) hr al (by show A.units + 1 + _ < _; exact hu)) s₂.heap.objs.size nS (fresh_in hk) _ (Nat.succ_pos 1)
    (fun c o x => Heap.get?_push_of_some _ (hk c o x)) W0 (Heap.get?_push_size _ rfl) fun v s' hP hm => ?_⟩
  obtain ⟨h', tk, rfl, hk'⟩ := moved_old (s := { s with heap := h1, toks := s.toks }) e2 rfl (Moved.drop_new (tk := s₂.toks) hm (Nat.le_refl _))
  have hv : v = if dataLt e d = true then b else a := by
    have hP' : (#[a, b] : Array Value)[argBest (fun i j => dataLt ([d, e].getD i PyData.none) ([d, e].getD j PyData.none)) 1]? = some v := hP
    have e1 : argBest (fun i j => dataLt ([d, e].getD i PyData.none) ([d, e].getD j PyData.none)) 1 = if dataLt e d = true then 1 else 0 := rfl
    rw [e1] at hP'
    cases hb : dataLt e d
    · rw [hb] at hP'
      exact (Option.some.inj hP').symm
    · rw [hb] at hP'
      exact (Option.some.inj hP').symm
  rw [hv]
  exact q h' tk fun c o x => hk' c o (hk1 c o x)
end
end Sp1

set_option Elab.async false
set_option linter.all false
set_option maxRecDepth 100000
set_option maxHeartbeats 4000000
namespace Sp1
open PySem PySem.W PySem.Spec PyProof.Rows L2
/-- a new, empty set -/
abbrev set0 (w : World) : Obj := { cls := .type "set", dict := none, data := .set #[] 0 (.fresh 0 0 (!w.params.followText "set-order")) }
section
variable {P : Program} {w : World} {A : Around} {E : Value → Shared → Prop} {s : Shared}
/-- filling a new set from a list of ints -/
theorem fill_list {l S : Addr} {vs : Array Value} {h : Heap} (ns : List Int) {R : Result → Shared → Prop} (hh : A.handled = none) (hl : h.IsList l vs) (hS : h.get? S = some (set0 w)) (hlS : l ≠ S) (hv : IntsAre vs.toList ns) (hb : ns.length + 1 < scanBound)
    (h1 : ∀ (h' : Heap) (tk c : Nat), SetR w h' S (fun j => decide (j ∈ ns)) c → c ≤ ns.length → (∀ b o, b ≠ S → h.get? b = some o → h'.get? b = some o) → R (.ok (.ret .none)) { s with heap := h', toks := tk }) :
    codeAny (model P w) A (.builtin "set.update.loop" ⟨[.ref S, .ref h.objs.size], []⟩) R { s with heap := h.push { cls := .type "list_iterator", data := .fields #[.ref l, .int 0 0] }, toks := s.toks } := by
  have lh : l < h.objs.size := by obtain ⟨_, e, _⟩ := hl; exact Heap.lt_size e
  have Sh : S < h.objs.size := Heap.lt_size hS
  have size : vs.size = ns.length := (Array.length_toList.symm).trans (IntsAre.length hv)
  have nS : S ∉ [h.objs.size, l] := fun z => by
    rcases List.mem_cons.mp z with z | z
    · exact absurd z (Nat.ne_of_lt Sh)
    · exact hlS (List.mem_singleton.mp z).symm
  refine set_update_ints (P := P) (A := A) (Walks.list (A := A.in1) hh h.objs.size l (Nat.ne_of_lt lh) vs).toS S nS ns size hb (fun i v e => ?_) vs.size 0 _ rfl (Nat.zero_le _)
    ⟨⟨_, Heap.get?_push_size _ rfl, rfl, rfl⟩, hl.push _⟩ ⟨0, Nat.le_refl 0, setR_new_at (Heap.get?_push_of_some _ hS)⟩ fun s' c m hc r => ?_
  · have hi : i < ns.length := by
      have := (Array.getElem?_eq_some_iff.mp e).1
      omega
    obtain ⟨t, x⟩ := IntsAre.int_at hv i v (by rw [Array.getElem?_toList]; exact e)
    rw [List.getD_eq_getElem?_getD, List.getElem?_eq_getElem hi] at x
    exact ⟨_, t, List.getElem?_eq_getElem hi, x⟩
  · obtain ⟨hp, g, d, tk, os⟩ := s'
    obtain ⟨mh, mg, md, mo, _⟩ := m
    dsimp only at mg md mo mh r
    subst mg md mo
    refine h1 hp tk c r (by omega) fun b o hb e => mh b o (fun z => ?_) (Heap.get?_push_of_some _ e)
    rcases List.mem_cons.mp z with z | z
    · exact hb z
    · exact absurd (List.mem_singleton.mp z) (Nat.ne_of_lt (Heap.lt_size e))
set_option maxHeartbeats 3200000 in
/-- set(l), however l is walked: Φ is what the filling of the new set leaves -/
theorem set_of_walk {l : Addr} {T : String} {od : Option Addr} {dt : Data} {sl : Array (Option Value)} {Φ : Heap → Prop} {Q : Value → Shared → Prop} (hh : A.handled = none) (e1 : s.heap.get? l = some ⟨.type T, od, dt, sl⟩)
    (f8 : isSubtype (.type T) (.type "set") = pure false) (f9 : isSubtype (.type T) (.type "frozenset") = pure false) (ne : (Value.type T == Value.type "dict") = false)
    (walk : ∀ (A' : Around) (R : Result → Shared → Prop) (E' : Value → Shared → Prop), A'.handled = none → (∀ (h' : Heap) (tk : Nat), Φ h' → (∀ b o, s.heap.get? b = some o → h'.get? b = some o) → R (.ok (.ret .none)) { s with heap := h', toks := tk }) →
      wpAny (model P w) A' (pyIter (.ref l)) (fun it z => codeAny (model P w) A' (.builtin "set.update.loop" ⟨[.ref s.heap.objs.size, it], []⟩) R z) E' { s with heap := s.heap.push (set0 w) })
    (q : ∀ (h' : Heap) (tk : Nat), Φ h' → (∀ b o, s.heap.get? b = some o → h'.get? b = some o) → Q (.ref s.heap.objs.size) { s with heap := h', toks := tk }) :
    wpAny (model P w) A (call (.type "set") [.ref l]) Q E s := by
  obtain ⟨c, tl, mro⟩ := PySem.F.called_set.mro
  have f1 := PySem.F.called_set.made
  have f2 := PySem.F.called_set.sub
  have f3 := PySem.F.called_set.notType
  have f4 := PySem.F.called_set.canCreate
  have f5 := PySem.F.typeCall_set_1 (.ref l)
  refine wpAny_call (codeAny_of_tree (wpAny_pure ⟨Code.quiet_builtin _ (by decide +kernel), codeAny_builtin PySem.F.entry_type_call ?_⟩))
  rw [Around.under_plain (weight_type_call_type "set" [.ref l] []) rfl]
  repeat (any_goals (first | assumption | wp_step))
  have hS : (s.heap.push (set0 w)).get? s.heap.objs.size = some (set0 w) := Heap.get?_push_size _ rfl
  have hk : ∀ b o, s.heap.get? b = some o → (s.heap.push (set0 w)).get? b = some o := fun b o e => Heap.get?_push_of_some _ e
  refine codeAny_mono (code_set_led1 (w := w) (.ref l) (E := E) (Q₁ := fun x z => x = .ref s.heap.objs.size ∧ z = { s with heap := s.heap.push (set0 w) }) ⟨rfl, rfl⟩) fun r z hr => ?_
  cases r with
  | error e => exact hr
  | ok fl =>
    cases fl with
    | next => exact hr.elim
    | brk => exact hr.elim
    | cont => exact hr.elim
    | ret x =>
      obtain ⟨rfl, rfl⟩ := hr
      have ty : Shared.TypeIs { s with heap := s.heap.push (set0 w) } (.ref s.heap.objs.size) "set" := ⟨_, hS, rfl⟩
      have f6 := PySem.F.called_set.init.lookup
      have f7 := PySem.F.called_set.init.bind (.ref s.heap.objs.size)
      repeat (any_goals (first | assumption | wp_step))
      refine codeAny_mono (codeAny_call_builtin (R := wants (fun r z => r = .none ∧ ∃ h' tk, z = { s with heap := h', toks := tk } ∧ Φ h' ∧ ∀ b o, s.heap.get? b = some o → h'.get? b = some o) E)
        PySem.F.called_set.init.plain PySem.F.entry_set_init (check_set_init_1 ty ?fill)) fun r z hr => ?back
      case back =>
        cases r with
        | error e => exact hr
        | ok fl =>
          cases fl with
          | next => exact hr.elim
          | brk => exact hr.elim
          | cont => exact hr.elim
          | ret x =>
            obtain ⟨rfl, h', tk, rfl, r1, r2⟩ := hr
            repeat (any_goals (first | assumption | wp_step))
            exact q h' tk r1 r2
      case fill =>
        have e4 := hk _ _ e1
        unfold Builtin.«set.__init__» noKeywords Builtin.Frozenset.updateFrom
        generalize hp : pyIter = PI
        wp_walk
        subst hp
        refine wpAny_mono (walk _ (fun r z => ∃ h' tk, r = .ok (.ret .none) ∧ z = { s with heap := h', toks := tk } ∧ Φ h' ∧ ∀ b o, s.heap.get? b = some o → h'.get? b = some o) _ (by simp [hh]) fun h' tk f k => ⟨h', tk, rfl, rfl, f, k⟩) (fun it z h => wpAny_bind (wpAny_runValue (codeAny_mono h fun r z hz => ?_))) fun _ _ e => e
        obtain ⟨h', tk, rfl, rfl, f, k⟩ := hz
        show wpAny _ _ _ _ _ _
        refine wpAny_pure ?_
        show wpAny _ _ (ret Value.none) _ _ _
        exact wpAny_pure ⟨rfl, h', tk, rfl, f, k⟩
end
end Sp1

set_option Elab.async false
set_option linter.all false
set_option maxRecDepth 100000
set_option maxHeartbeats 4000000
namespace Sp1
open PySem PySem.Spec PyProof.Rows L2
section
variable {X : Cx}
/-- set(l) of a list of ints -/
def rSetI (K : PySem.W.Frag) (w : World) : List V → Hp → VK → Prop := fun xs H Q => ∃ (l : Addr) (ns : List Int), xs = [V.ref l] ∧ SqL K H l (ns.map V.int) ∧ ns.length ≤ 1000 ∧
  ∀ (a : Addr) (n : Nat), H a = none → n ≤ ns.length → Q (.ref a) (upd H a (SetO w a (fun j => decide (j ∈ ns)) n))
theorem cr_setI (hc : X.calm = true) : CallR X (.type "set") (rSetI X.K X.w) := by
  intro pins s σ H xs us Q I r h
  obtain ⟨l, ns, rfl, hl, h1000, q⟩ := h
  rw [Vals.ref1 r]
  obtain ⟨its, rv, pl, hz⟩ := I.list hl
  obtain ⟨⟨oc, od, dt, os⟩, e1, e2, n, e3⟩ := id pl.isList
  dsimp only at e2 e3
  subst e2 e3
  have hlt : ∀ b o, s.heap.get? b = some o → b ≠ s.heap.objs.size := fun b o e => Nat.ne_of_lt (Heap.lt_size e)
  refine set_of_walk (Φ := fun h' => ∃ c, c ≤ ns.length ∧ SetR X.w h' s.heap.objs.size (fun j => decide (j ∈ ns)) c) (I.ok.hd hc) e1 PySem.F.sub_list_set PySem.F.sub_list_frozenset (by decide) (fun A' R E' hh hR => ?_) fun h' tk ⟨c, hcn, S⟩ k => ?_
  · have hl1 : (s.heap.push (set0 X.w)).IsList l its.toArray := ⟨_, Heap.get?_push_of_some _ e1, rfl, n, rfl⟩
    refine wpAny_pyIter_list hl1 ?_
    exact fill_list (s := { s with heap := s.heap.push (set0 X.w) }) (h := s.heap.push (set0 X.w)) ns hh hl1 (Heap.get?_push_size _ rfl) (hlt _ _ e1) (by simpa using RZ.intsAre_vals rv) (by unfold scanBound; omega) fun h' tk c r hc k =>
      hR h' tk ⟨c, hc, r⟩ fun b o e => k b o (hlt b o e) (Heap.get?_push_of_some _ e)
  · exact ⟨.ref _, upd H s.heap.objs.size (SetO X.w s.heap.objs.size (fun j => decide (j ∈ ns)) c), I.laid (t' := tk) k (Nat.le_refl _) (setO_new S), rfl, q _ _ (I.hok.fresh (Nat.le_refl _)) hcn⟩
/-- min(x, y) of two alike data -/
def rMin2D (K : PySem.W.Frag) : List V → Hp → VK → Prop := fun xs H Q => ∃ (x y : V) (d e : PyData), xs = [x, y] ∧ Dp K H x d ∧ Dp K H y e ∧ PySem.W.AlikeAll [d, e] ∧ PyData.depthAll [d, e] ≤ 60 ∧ Q (if PySem.W.dataLt e d = true then y else x) H
theorem cr_min2D (hc : X.calm = true) (hu : X.A.units + 64 < cLine) : CallR X (.builtin "min") (rMin2D X.K) := by
  intro pins s σ H xs us Q I r h
  obtain ⟨x, y, d, e, rfl, hx, hy, al, hd, q⟩ := h
  match us, r with
  | [u, v], .cons r1 (.cons r2 .nil) =>
    obtain ⟨as, ra⟩ := Dp.reads I d x u hx r1
    obtain ⟨bs, rb⟩ := Dp.reads I e y v hy r2
    refine min_pair_data (I.ok.hd hc) ra rb al (by omega) fun h' tk k => ?_
    refine ⟨_, H, I.kept k, ?_, q⟩
    split
    · exact r2
    · exact r1
end
end Sp1

set_option Elab.async false
set_option linter.all false
set_option maxRecDepth 100000
set_option maxHeartbeats 4000000
namespace Sp1
open PySem PySem.Spec PyProof.Rows L2
/-! a def that asks which lists and tuples are being shown: its promise where none is -/
structure FnOkG (P : Program) (w : World) (K : PySem.W.Frag) (mg : Str → Option Value) (base : Heap) (CX : CXT) (k : Nat) (f : Addr) (fd : FuncData) (ps : List Str) (sp : Sp) : Prop where
  len : ∀ vs H Q E, sp vs H Q E → vs.length = ps.length
  run : ∀ (A : Around) (outer : List Env) (s : Shared) (H : Hp) (args : Args) (us : List Value) (vs : List V) (Q : VK) (E : XK), A.guards = some [] → Room k A → Env0 P w K mg base A outer s H → BindsTo s fd args (ps.zip us) → Vals vs us →
    sp vs H Q E → codeAny (model P w) A (.call (.ref f) args) (CR CX outer P w H s Q E) s
theorem FnOk.toG {P : Program} {w : World} {K : PySem.W.Frag} {mg : Str → Option Value} {base : Heap} {CX : CXT} {k : Nat} {f : Addr} {fd : FuncData} {ps : List Str} {sp : Sp} (F : FnOk P w K mg base CX k f fd ps sp) : FnOkG P w K mg base CX k f fd ps sp :=
  ⟨F.len, fun A outer s H args us vs Q E _ => F.run A outer s H args us vs Q E⟩
theorem FnOkG.mono {P : Program} {w : World} {K : PySem.W.Frag} {mg : Str → Option Value} {base : Heap} {CX : CXT} {j k : Nat} {f : Addr} {fd : FuncData} {ps : List Str} {sp : Sp} (F : FnOkG P w K mg base CX j f fd ps sp) (h : j ≤ k) : FnOkG P w K mg base CX k f fd ps sp :=
  ⟨F.len, fun A outer s H args us vs Q E g hr => F.run A outer s H args us vs Q E g (hr.mono h)⟩
theorem fnG_of {CX : CXT} {P : Program} {w : World} {K : PySem.W.Frag} {mg : Str → Option Value} {base : Heap} {k : Nat} {f : Addr} {name qual : Str} {params : Arguments} {body : List Stmt} {scope : Scope} {dV kV doc pm cdv ct oc : Value} {an od : Option Addr} {osl : Array (Option Value)} {N ps : List Str} {sp : Sp}
    (lk : K.lookup f = some ⟨oc, od, .func (PySem.W.fnOf name qual params body scope dV kV doc pm an cdv ct), osl⟩) (hcd : PySem.W.codeIn K cdv qual = true) (S : FnScope N ps scope) (len : ∀ vs H Q E, sp vs H Q E → vs.length = ps.length)
    (hbody : ∀ (A : Around) (outer : List Env) (s : Shared) (H : Hp) (vs : List V) (Q : VK) (E : XK), A.guards = some [] → Room k (A.deeper (envOfC qual scope s.heap.objs.size f cdv)) → sp vs H Q E →
      ∃ t, PSs (cxOf CX P w K mg base N qual scope f cdv A outer s H E) body t ∧ t { nx := fun _ H' => Q .non H', rt := Q } (start N vs) H) :
    FnOkG P w K mg base CX (k + 1) f (PySem.W.fnOf name qual params body scope dV kV doc pm an cdv ct) ps sp := by
  refine ⟨len, fun A outer s H args us vs Q E hg hr e0 hb r hsp => ?_⟩
  have keep : ∀ b o, base.get? b = some o → s.heap.get? b = some o := fun b o e => (e0.bs b o e).1
  have hkind : ∀ y ∈ ps.zip us, scope.names.lookup y.1 = some .local ∨ (scope.names.lookup y.1 = some .cell ∧ ((cellsFrom (s.heap.objs.size + 1) scope.names []).lookup y.1).isSome = true) := fun y hy =>
    (S.par y.1 (List.of_mem_zip hy).1).imp id fun q => ⟨q, PySem.W.cellsFrom_some _ _ _ (.inl q)⟩
  refine codeAny_call_function hr.depth ((e0.mod.kin.keeps keep) _ _ lk) rfl S.co S.gen rfl (PySem.W.codeRec_of (e0.mod.kin.keeps keep) hcd) (hb _ _ _ _ (wpAny_newFunctionEnv_cells S.kind hkind fun env he s1 x => ?_))
  subst he
  refine ⟨(e0.mod.nolimit.keeps keep).keeps x.toInCall.keep, codeAny_func ?_⟩
  obtain ⟨t, ht, hq⟩ := hbody A outer s H vs Q E hg (hr.deeper _) hsp
  refine wpAny_mono (ht.run [] s1 (start N vs) H _ (inv_start S hr.hd e0 (len _ _ _ _ hsp) r x) hq) (fun fl s' hs => ?_) fun e s' hs => hs
  match fl, hs with
  | .ret u, ⟨v, σ', H', J, rv, q⟩ => exact ⟨v, H', J.os, J.bare, J.base, J.hok, rv, q⟩
  | .next, ⟨σ', H', J, q⟩ => exact ⟨V.non, H', J.os, J.bare, J.base, J.hok, rfl, q⟩
  | .brk, ⟨_, _, _, q⟩ => exact False.elim q
  | .cont, ⟨_, _, _, q⟩ => exact False.elim q
section
variable {P : Program} {w : World} {K : PySem.W.Frag} {mg : Str → Option Value} {base : Heap}
theorem Fun.okG {x qual : Str} {st : Stmt} {f : Addr} {fd : FuncData} {N ps : List Str} {k : Nat} {sp : Sp} (F : Fun K x qual st f fd) (S : FnScope N ps (defScope st)) (len : ∀ vs H Q E, sp vs H Q E → vs.length = ps.length)
    (hbody : ∀ (cdv : Value) (A : Around) (outer : List Env) (s : Shared) (H : Hp) (vs : List V) (Q : VK) (E : XK), A.guards = some [] → Room k (A.deeper (envOfC qual (defScope st) s.heap.objs.size f cdv)) → sp vs H Q E →
      ∃ t, PSs (cxOf CX0 P w K mg base N qual (defScope st) f cdv A outer s H E).nox (defBody st) t ∧ t { nx := fun _ H' => Q .non H', rt := Q } (start N vs) H) : FnOkG P w K mg base CX0 (k + 1) f fd ps sp := by
  obtain ⟨oc, od, kV, doc, pm, an, cdv, ct, osl, rfl, lk, hcd⟩ := F.ex
  exact fnG_of lk hcd S len fun A outer s H vs Q E hg hr hsp => (hbody cdv A outer s H vs Q E hg hr hsp).imp fun t h => ⟨h.1.nox, h.2⟩
end
section
variable {X : Cx} {CX : CXT} {k : Nat} {f C : Addr} {fd : FuncData} {ps : List Str} {sp : Sp} {dvs : List V} {ds : List Value} {E : XK} {x m : Str} {p pos apos : Pos} {e o : Expr} {es : List Expr} {ta : TE} {t : TA}
theorem run_fnG {pins : List (Addr × Obj)} {σ : L2.St} {H : Hp} {s : Shared} {Q : VK} {us : List Value} {vs : List V} (F : FnOkG X.prog X.w X.K X.mg X.base CX k f fd ps sp) (g : X.A.guards = some []) (hr : Room k X.A) (hb : Binds X.K fd ps ds) (hd : Vals dvs ds) (hx : Passes CX X E)
    (I : Inv X pins σ H s) (r : Vals vs us) (h : sp (vs ++ dvs) H Q E) : wpAny (model X.prog X.w) X.A (call (.ref f) us) (EP X pins σ Q) X.xe s := by
  have r2 := r.append hd
  refine wpAny_call (codeAny_mono (F.run X.A X.stack s H ⟨us, []⟩ (us ++ ds) (vs ++ dvs) Q E g hr I.env0 (hb s us I.kIn (by rw [← r2.length]; exact F.len _ _ _ _ h)) r2 h) fun r s' hq => ?_)
  match r, hq with
  | .error e, hq => exact hx pins σ H s e s' I hq
  | .ok (.ret u), hq => exact I.after hq
theorem pe_callG (F : FnOkG X.prog X.w X.K X.mg X.base CX k f fd ps sp) (g : X.A.guards = some []) (hr : Room k X.A) (hg : Gl X x) (hm : X.mg x = some (.ref f)) (hk : PySem.W.keepIn X.K (.ref f) = true) (hb : Binds X.K fd ps ds) (hd : Vals dvs ds) (hx : Passes CX X E)
    (ha : PA X (e :: es) t) (hdb : (x == ("__debug__" : Str)) = false := by decide) (he : starEach (e :: es) X.env = (false, eval e X.env) :: starEach es X.env := by rfl) (hpl : (backTo pos (starEach es X.env)).any (·.1) = false := by rfl) :
    PE X (.Call (.Name x p) (e :: es) [] pos) (tCall sp dvs E t) := ⟨fun pins s σ H Q I h => wpAny_Call_Name_kw (ld_glob I hg hm (PySem.W.callWith_K (h₀ := X.base) I.ok.mod.kin hk
    (thn (ha.run pos pins s σ H _ I h) fun us s1 ⟨vs, H1, I1, r, q⟩ => ⟨I1.kIn, run_fnG F g hr hb hd hx I1 r q⟩) he hpl) hdb)⟩
end
/-! the head -/
section
variable {P : Program} {w : World} {K : PySem.W.Frag} {mg mb : Str → Option Value}
/-- the state behind the top, the script alone told -/
theorem env_top {a : Addr} {vs : List Value} {z : Shared} {H : Hp} (KX : K.In z.heap) (hn : z.heap.Ns mainGlobals mg) (hb : z.heap.Ns builtinsNs mb) (hbb : ∀ x : Str, x ≠ "__name__" → mb x = bootBuiltins x) (hm : z.heap.NoLimit) (hg : z.gens = #[])
    (ha : z.heap.get? a = some { cls := .type "list", data := .seq vs.toArray }) (ok : HOk P w H z.heap) (hA : ∀ b, H b ≠ none → b = a) (hK : H a ≠ none → K.lookup a = none) : K.In (hidT z.heap H) ∧ (hidT z.heap H).Ns mainGlobals mg ∧ Env0 P w K mg (hidT z.heap H) callerA [] z H := by
  have off : ∀ {b : Addr} {o : Obj} {es : Array DictEntry} {n : Nat}, z.heap.get? b = some o → o.data = .dict es n → H b = none := fun {b o es n} e d => by
    rcases Option.eq_none_or_eq_some (H b) with q | ⟨u, q⟩
    · exact q
    · obtain rfl := hA b (by rw [q]; exact fun z => nomatch z)
      rw [ha] at e
      cases e
      cases d
  have ns : ∀ {b : Addr} {m : Str → Option Value}, z.heap.Ns b m → (hidT z.heap H).Ns b m := fun {b m} ⟨o, es, n, e, d, r⟩ => ⟨o, es, n, hidT_get e (off e d), d, r⟩
  have kin : K.In (hidT z.heap H) := fun b o e => by
    refine hidT_get (KX b o e) ?_
    rcases Option.eq_none_or_eq_some (H b) with q | ⟨u, q⟩
    · exact q
    · obtain rfl := hA b (by rw [q]; exact fun z => nomatch z)
      rw [hK (by rw [q]; exact fun z => nomatch z)] at e
      cases e
  obtain ⟨mc, l1, l2⟩ := hm
  exact ⟨kin, ns hn, rfl, ⟨kin, ns hn, ⟨mb, ns hb, hbb⟩, mc, ns l1, l2⟩, fun b o e => of_hidT e, Nat.le_of_eq (hidT_size _ _), trivial, (fun b hb => by cases hb), ok, .of_eq hg⟩
theorem law_callG {CX : CXT} {k : Nat} {fa a : Addr} {fd : FuncData} {x : Str} {sp : Sp} {z : Shared} {vs : List Value} {ns : List Int}
    (KX : K.In z.heap) (hn : z.heap.Ns mainGlobals mg) (hb : z.heap.Ns builtinsNs mb) (hbb : ∀ x : Str, x ≠ "__name__" → mb x = bootBuiltins x) (hm : z.heap.NoLimit) (hg : z.gens = #[])
    (ha : z.heap.get? a = some { cls := .type "list", data := .seq vs.toArray }) (hi : IntsAre vs ns) (hl : ns.length ≤ sizeLine) (hr : Room k callerA)
    (F : ∀ base : Heap, K.In base → base.Ns mainGlobals mg → FnOkG P w K mg base CX k fa fd [x] sp) (bind : ∀ (s : Shared) (u : Value), BindsTo s fd ⟨[u], []⟩ [(x, u)])
    (hsp : ∀ H : Hp, Only H → SqL K H a (ns.map V.int) → sp [.ref a] H (fun v _ => v = .bl true) fun _ _ _ => False) (hCX : ∀ H e s', CX [] H z (fun _ _ _ => False) e s' → False) :
    codeAny (model P w) callerA (.call (.ref fa) ⟨[.ref a], []⟩) (fun r s' => r = .ok (.ret (.bool true)) ∧ OldK z.heap s'.heap ∧ s'.os = z.os ∧ AllBare s'.gens) z := by
  have rv := vals_ints hi
  have from_ : ∀ H : Hp, Only H → SqL K H a (ns.map V.int) → HOk P w H z.heap → (∀ b, H b ≠ none → b = a) → (H a ≠ none → K.lookup a = none) →
      codeAny (model P w) callerA (.call (.ref fa) ⟨[.ref a], []⟩) (fun r s' => r = .ok (.ret (.bool true)) ∧ OldK z.heap s'.heap ∧ s'.os = z.os ∧ AllBare s'.gens) z := by
    intro H hO hS ok hA hK
    obtain ⟨k1, k2, e0⟩ := env_top KX hn hb hbb hm hg ha ok hA hK
    refine codeAny_mono ((F _ k1 k2).run callerA [] z H _ [.ref a] [.ref a] _ _ rfl hr e0 (bind z (.ref a)) (.cons rfl .nil) (hsp H hO hS)) fun r s' h => ?_
    match r, h with
    | .error e, h => exact (hCX H e s' h).elim
    | .ok (.ret u), ⟨v, H', os, bare, un, ok', r', (q : v = V.bl true)⟩ =>
      subst q
      refine ⟨congrArg (fun t => Except.ok (Flow.ret t)) (show u = Value.bool true from r'), OldK.of_keep fun b o e => ?_, os, bare⟩
      rcases hO b with q | ⟨ob, xs, q⟩
      · exact un.keep b o e q (fun y => nomatch y) (fun y => nomatch y)
      · obtain ⟨e1, _⟩ := ok b _ q
        obtain ⟨e2, _⟩ := ok' b _ (un.frzs b ob _ q)
        rw [← Option.some.inj (e.symm.trans e1)] at e2
        exact e2
  rcases Option.eq_none_or_eq_some (K.lookup a) with hk | ⟨o, hk⟩
  · refine from_ (fun b => if b = a then some (.frz { cls := .type "list", data := .seq vs.toArray } (.lst (ns.map V.int))) else none) (fun b => ?_) (.inl (.inr ⟨_, if_pos rfl⟩)) (fun b u y => ?_) (fun b y => ?_) fun _ => hk
    · rcases Decidable.em (b = a) with e | e
      · exact .inr ⟨_, _, if_pos e⟩
      · exact .inl (if_neg e)
    · rcases Decidable.em (b = a) with e | e
      · have y' := (if_pos e).symm.trans y
        cases y'
        subst e
        exact ⟨ha, by rw [List.length_map]; exact hl, vs, _, rv, ha⟩
      · have y' := (if_neg e).symm.trans y
        cases y'
    · rcases Decidable.em (b = a) with e | e
      · exact e
      · exact absurd (if_neg e) y
  · have e := Option.some.inj ((KX a o hk).symm.trans ha)
    subst e
    exact from_ (fun _ => none) (fun _ => .inl rfl) (.inr ⟨_, vs.toArray, _, hk, rfl, rfl, rfl, by rw [List.size_toArray, hi.length]; exact hl, by simpa using rv⟩) (fun b u y => by cases y) (fun b y => absurd rfl y) fun y => absurd rfl y
end
theorem walk_ofG {l : PySem.W.OpenLaw} {n k : Nat} {q : Program} {loose : List Str} {XP : (Str → Option Value) → Heap → Prop} {YP : World → Heap → Prop} {d : DefRec} {K : Params → PySem.W.Frag} {CX : World → CXT} {sp : World → Sp} {x : Str}
    (hn : l.most = some n) (hn2 : n ≤ sizeLine) (hdf : d.params.defaults = []) (hr : Room k callerA) (hY : ∀ (w : World) (h : Heap), YP w h → (K w.params).In h)
    (F : ∀ (w : World) (mg : Str → Option Value) (fa : Addr) (h : Heap), (K w.params).In h → h.Ns mainGlobals mg → mg d.name = some (.ref fa) →
      ∃ fd : FuncData, (∀ (s : Shared) (u : Value), BindsTo s fd ⟨[u], []⟩ [(x, u)]) ∧ ∀ base : Heap, (K w.params).In base → base.Ns mainGlobals mg → FnOkG l.prog w (K w.params) mg base (CX w) k fa fd [x] (sp w))
    (hsp : ∀ (w : World) (H : Hp) (a : Addr) (ns : List Int), ns.length ≤ n → (∀ z ∈ ns, Builtin.Int.intBits z ≤ 1048576) → Only H → SqL (K w.params) H a (ns.map V.int) → sp w [.ref a] H (fun v _ => v = .bl true) fun _ _ _ => False)
    (hCX : ∀ (w : World) (H : Hp) (s : Shared) (e : Value) (s' : Shared), CX w [] H s (fun _ _ _ => False) e s' → False) : PySem.W.WalkO q loose XP YP l.row.toRowW d [] (fun f vs => PySem.call f vs) :=
  Att.attach_callB hn hdf fun w s₀ s₁ mg mb fa o pm cd doc a vs ns G Y ho hd hcd hmg hobj hints hlen hbits hg =>
    have ⟨fd, hb, hF⟩ := F w mg fa _ (hY w _ Y) G.T.g hmg
    law_callG (hY w _ Y) G.T.g G.T.b G.T.builtins G.T.nolimit hg hobj hints (Nat.le_trans hlen hn2) hr hF hb (fun H hO hS => hsp w H a ns hlen hbits hO hS) fun H e s' => hCX w H s₁ e s'
end Sp1

set_option Elab.async false
set_option linter.all false
set_option maxRecDepth 100000
set_option maxHeartbeats 4000000
namespace Pg
open PySem
/-! sums, expressions, statements, as data -/
structure Sm where
  c : Int
  ts : List (Int × Str)
  d : Int
inductive Ex where
  | sum (s : Sm)
  | read
  | two (w : Str) (a b : Sm)
inductive St where
  | set (x : Str) (e : Ex)
  | swap (x y : Str)
  | print (e : Ex)
  | call (p : Str)
  | ite (e : Ex) (a b : List St)
  | whl (e : Ex) (b : List St)
  | rep (e : Ex) (b : List St)
abbrev sD (x : Str) : PyData := .str x
def tD (t : Int × Str) : PyData := .tuple [.int t.1, .str t.2]
def Sm.D (s : Sm) : PyData := .tuple [.str "sum", .int s.c, .tuple (s.ts.map tD), .int s.d]
def Ex.D : Ex → PyData
  | .sum s => s.D
  | .read => .tuple [.str "read"]
  | .two w a b => .tuple [.str w, a.D, b.D]
mutual
def St.D : St → PyData
  | .set x e => .tuple [.str "set", .str x, e.D]
  | .swap x y => .tuple [.str "swap", .str x, .str y]
  | .print e => .tuple [.str "print", e.D]
  | .call p => .tuple [.str "call", .str p]
  | .ite e a b => .tuple [.str "if", e.D, .tuple (blD a), .tuple (blD b)]
  | .whl e b => .tuple [.str "while", e.D, .tuple (blD b)]
  | .rep e b => .tuple [.str "repeat", e.D, .tuple (blD b)]
def blD : List St → List PyData
  | [] => []
  | s :: r => s.D :: blD r
end
theorem blD_map : ∀ b : List St, blD b = b.map St.D
  | [] => rfl
  | s :: r => by rw [blD, blD_map r]; rfl
def bD (b : List St) : PyData := .tuple (b.map St.D)
/-! data of tuples, texts, numbers and None alone -/
mutual
def tupD : PyData → Bool
  | .none | .bool _ | .int _ => true
  | .str x => PyData.canLay0 (.str x)
  | .list _ | .dict _ => false
  | .tuple ds => tupAll ds
def tupAll : List PyData → Bool
  | [] => true
  | d :: ds => tupD d && tupAll ds
end
theorem tupAll_iff {ds : List PyData} : tupAll ds = true ↔ ∀ d ∈ ds, tupD d = true := by
  induction ds with
  | nil => simp [tupAll]
  | cons d r ih => simp [tupAll, ih]
mutual
theorem tupD_lay : ∀ d : PyData, tupD d = true → d.canLay0 = true
  | .none, _ => rfl
  | .bool _, _ => rfl
  | .int _, _ => rfl
  | .str x, h => by simpa [tupD] using h
  | .list _, h => by simp [tupD] at h
  | .dict _, h => by simp [tupD] at h
  | .tuple ds, h => by
    simp only [PyData.canLay0]
    exact tupAll_lay ds (by simpa [tupD] using h)
theorem tupAll_lay : ∀ ds : List PyData, tupAll ds = true → PyData.canLayAll0 ds = true
  | [], _ => rfl
  | d :: r, h => by
    simp only [tupAll, Bool.and_eq_true] at h
    simp only [PyData.canLayAll0, Bool.and_eq_true]
    exact ⟨tupD_lay d h.1, tupAll_lay r h.2⟩
end
theorem depthAll_le {ds : List PyData} {n : Nat} (h : ∀ d ∈ ds, d.depth ≤ n) : PyData.depthAll ds ≤ n := by
  induction ds with
  | nil => exact Nat.zero_le _
  | cons d r ih =>
    simp only [PyData.depthAll]
    exact Nat.max_le.mpr ⟨h d List.mem_cons_self, ih fun x hx => h x (List.mem_cons_of_mem _ hx)⟩
theorem depthAll_mem {ds : List PyData} {d : PyData} (h : d ∈ ds) : d.depth ≤ PyData.depthAll ds := by
  induction ds with
  | nil => cases h
  | cons x r ih =>
    simp only [PyData.depthAll]
    rcases List.mem_cons.mp h with rfl | h
    · exact Nat.le_max_left _ _
    · exact Nat.le_trans (ih h) (Nat.le_max_right _ _)
theorem shaped_of {d : PyData} (h : tupD d = true) (n : d.depth ≤ 64) : SeqAt.shaped d = true := Bool.and_eq_true_iff.mpr ⟨tupD_lay d h, decide_eq_true n⟩
theorem shaped_list {ds : List PyData} (h : ∀ d ∈ ds, tupD d = true) (n : ∀ d ∈ ds, d.depth ≤ 63) : SeqAt.shaped (.list ds) = true := by
  have h1 : PyData.canLayAll0 ds = true := tupAll_lay ds (tupAll_iff.mpr h)
  have h2 := depthAll_le n
  exact Bool.and_eq_true_iff.mpr ⟨by simp only [PyData.canLay0]; exact h1, decide_eq_true (by simp only [PyData.depth]; omega)⟩
/-! names -/
/-- one to eight letters, no word of the language -/
def words : List Str := ["given", "var", "proc", "main", "end", "set", "swap", "print", "if", "else", "while", "repeat", "call", "read", "product", "quotient", "remainder", "less", "same"]
def pairWords : List Str := ["product", "quotient", "remainder", "less", "same"]
structure Nm (x : Str) : Prop where
  l1 : 1 ≤ x.length
  l8 : x.length ≤ 8
  ch : ∀ c ∈ x.cps.toList, 97 ≤ c ∧ c ≤ 122
  nw : x ∉ words
theorem str_lay {x : Str} (h : ∀ c ∈ x.cps.toList, c < 0x110000) : tupD (.str x) = true := by
  simp only [tupD, PyData.canLay0, PyData.strOk]
  rw [Array.all_eq_true_iff_forall_mem]
  intro c hc
  exact decide_eq_true (h c (Array.mem_toList_iff.mpr hc))
theorem Nm.tup {x : Str} (h : Nm x) : tupD (.str x) = true := str_lay fun c hc => by have := h.ch c hc; omega
def sLt (a b : Str) : Prop := a.cps.toList < b.cps.toList
/-! what a program may hold -/
def great : Int := 10 ^ 300
structure Sm.Ok (names : List Str) (s : Sm) : Prop where
  nz : ∀ t ∈ s.ts, t.1 ≠ 0 ∧ t.2 ∈ names
  asc : (s.ts.map (·.2)).Pairwise sLt
  dp : 1 ≤ s.d
  len : s.ts.length ≤ 60
  gcd : ((s.ts.map (·.1)).foldl (fun (a : Nat) x => Nat.gcd a x.natAbs) (Nat.gcd (Nat.gcd 0 s.c.natAbs) s.d.natAbs)) = 1
  sh : ∀ x ∈ s.c :: s.d :: s.ts.map (·.1), -great < x ∧ x < great
def Ex.Ok (names : List Str) : Ex → Prop
  | .sum s => s.Ok names
  | .read => True
  | .two w a b => w ∈ pairWords ∧ a.Ok names ∧ b.Ok names
mutual
/-- a statement in at most n further blocks -/
def St.Ok (names procs : List Str) : Nat → St → Prop
  | _, .set x e => x ∈ names ∧ e.Ok names
  | _, .swap x y => x ∈ names ∧ y ∈ names ∧ y ≠ x
  | _, .print e => e.Ok names
  | _, .call p => p ∈ procs
  | n, .ite e a b => e.Ok names ∧ ∃ m, n = m + 1 ∧ blOk names procs m a ∧ blOk names procs m b
  | n, .whl e b => e.Ok names ∧ ∃ m, n = m + 1 ∧ blOk names procs m b
  | n, .rep e b => e.Ok names ∧ ∃ m, n = m + 1 ∧ blOk names procs m b
def blOk (names procs : List Str) : Nat → List St → Prop
  | _, [] => True
  | n, s :: r => St.Ok names procs n s ∧ blOk names procs n r
end
theorem blOk_iff {names procs : List Str} {n : Nat} : ∀ {b : List St}, blOk names procs n b ↔ ∀ s ∈ b, St.Ok names procs n s
  | [] => by simp [blOk]
  | s :: r => by simp [blOk, blOk_iff (b := r)]
/-! code -/
def goD (n w : Int) : PyData := .tuple [.str "go", .int n, .int w]
mutual
def St.code : St → Int → List PyData
  | .ite e a b, n => .tuple [.str "test", e.D, .int (n + 1 + (blCode a (n + 1)).length + 1)] :: (blCode a (n + 1) ++ (goD (n + 1 + (blCode a (n + 1)).length + 1 + (blCode b (n + 1 + (blCode a (n + 1)).length + 1)).length + 1) 1 :: (blCode b (n + 1 + (blCode a (n + 1)).length + 1) ++ [goD (n + 1 + (blCode a (n + 1)).length + 1 + (blCode b (n + 1 + (blCode a (n + 1)).length + 1)).length + 1) 0])))
  | .whl e b, n => goD (n + 1) 0 :: .tuple [.str "test", e.D, .int (n + 1 + 1 + (blCode b (n + 1 + 1)).length + 1)] :: (blCode b (n + 1 + 1) ++ [goD (n + 1) 1])
  | .rep e b, n => .tuple [.str "begin", e.D] :: .tuple [.str "turn", .int (n + 1 + 1 + (blCode b (n + 1 + 1)).length + 1)] :: (blCode b (n + 1 + 1) ++ [.tuple [.str "again", .int (n + 1)]])
  | .set x e, _ => [St.D (.set x e)]
  | .swap x y, _ => [St.D (.swap x y)]
  | .print e, _ => [St.D (.print e)]
  | .call p, _ => [St.D (.call p)]
def blCode : List St → Int → List PyData
  | [], _ => []
  | s :: r, n => s.code n ++ blCode r (n + (s.code n).length)
end
end Pg

set_option Elab.async false
set_option linter.all false
set_option maxRecDepth 100000
set_option maxHeartbeats 4000000
namespace Sp1
open PySem PySem.W PySem.Spec PyProof.Rows L2
/-! sets of texts: made from texts that differ, counted, sorted -/
def skey (e : Int × Value) : Str := match e.2 with
  | .str x _ => x
  | _ => Str.empty
def GoodT (w : World) (e : Int × Value) : Prop := ∃ x tk, e.2 = Value.str x tk ∧ e.1 = hashStr w x
/-- the set of the texts xs (in some order) at a -/
structure SetS (w : World) (h : Heap) (a : Addr) (xs : List Str) : Prop where
  nd : xs.Nodup
  at_ : ∃ o es ep t, h.get? a = some o ∧ o.ExactSet ∧ o.data = .set es ep t ∧ (∀ e ∈ es.toList, GoodT w e) ∧ (es.toList.map skey).Perm xs ∧ es.size < scanBound ∧ t.fits es.size = true ∧ Ris t.place.toList ∧ (w.params.followText "set-order" = true ∨ t.led = true)
theorem SetS.keeps {w : World} {h h' : Heap} {a : Addr} {xs : List Str} (S : SetS w h a xs) (k : ∀ o, h.get? a = some o → h'.get? a = some o) : SetS w h' a xs := by
  obtain ⟨nd, o, es, ep, t, ho, r⟩ := S
  exact ⟨nd, o, es, ep, t, k o ho, r⟩
section
variable {P : Program} {w : World} {A : Around} {E : Value → Shared → Prop} {s : Shared}
theorem good_elemsT {l : List (Int × Value)} (g : ∀ e ∈ l, GoodT w e) : ElemsOf (strKind P w) l := fun e he => by
  obtain ⟨x, tk, h1, h2⟩ := g e he
  refine ⟨⟨x, ?_, h2⟩, ?_⟩
  · rw [h1]
    exact strKind_is P w x tk
  · rw [h1]
    rfl
theorem isStr_iff {x k : Str} {tk : Tok} : (strKind P w).is k (.str x tk) = true ↔ x = k := by
  constructor
  · intro h
    obtain ⟨u, hu⟩ := Value.isStrOf_shape (show Value.isStrOf k (.str x tk) = true from h)
    injection hu
  · rintro rfl
    exact strKind_is P w _ tk
/-- the tail of an add: stored, the table laid anew where it is too full -/
theorem addT_tail {a : Addr} {g : Bool → Sem Unit} (hg : ∀ (b : Bool) (s₁ : Shared) (Q' : Unit → Shared → Prop), Q' () s₁ → wpAny (model P w) A (g b) Q' E s₁) {o : Obj} {es : Array (Int × Value)} {ep : Nat} {t : SetTable} (ho : s.heap.get? a = some o) (hex : o.ExactSet) (hd : o.data = .set es ep t)
    {es1 : Array (Int × Value)} {t2 : SetTable} {xs : List Str} (nd : xs.Nodup) (g1 : ∀ e ∈ es1.toList, GoodT w e) (p1 : (es1.toList.map skey).Perm xs) (hb : es1.size < scanBound) (hf : t2.fits es1.size = true) (hr : Ris t2.place.toList) (hl : w.params.followText "set-order" = true ∨ t2.led = true) {b0 : Bool} {R : Option Bool → Shared → Prop}
    (hR : ∀ h', Heap.SameBut a s.heap h' → SetS w h' a xs → R (some true) { s with heap := h' }) :
    wpAny (model P w) A (do storeSet a es1 t2; if (!b0 && t2.tooFull) = true then do g (relayAll t2 es1 (SetTable.grown es1.size)).2.2; storeSet a (relayAll t2 es1 (SetTable.grown es1.size)).1 (relayAll t2 es1 (SetTable.grown es1.size)).2.1; pure (some true) else pure (some true)) R E s := by
  refine wpAny_bind (wpAny_storeSet_of ho hd ?_ (fits_of_scanBound hb))
  have o1 := store_at (es' := es1) (t' := t2) ho hd
  have b1 := Heap.SameBut.update s.heap a (Obj.putSet es1 t2)
  rcases Bool.eq_false_or_eq_true (!b0 && t2.tooFull) with c | c
  · rw [if_pos c]
    have q1 := relayAll_perm t2 es1 (SetTable.grown es1.size)
    have q2 := relayAll_fits t2 es1 (SetTable.grown es1.size)
    have q3 := relayAll_ris t2 es1 (SetTable.grown es1.size)
    have q4 := relayAll_led t2 es1 (SetTable.grown es1.size)
    generalize relayAll t2 es1 (SetTable.grown es1.size) = Z at q1 q2 q3 q4 ⊢
    obtain ⟨es2, t3, gave⟩ := Z
    have sz : es2.size = es1.size := (Array.length_toList.symm.trans q1.length_eq).trans Array.length_toList
    refine wpAny_bind (hg _ _ _ (wpAny_bind (wpAny_storeSet_of o1 rfl ?_ (fits_of_scanBound (by rw [sz]; exact hb)))))
    exact wpAny_pure (hR _ (b1.trans (Heap.SameBut.update _ a _)) ⟨nd, _, es2, _, t3, store_at (es' := es2) (t' := t3) o1 rfl, hex, rfl, fun e he => g1 e (q1.mem_iff.mp he), (q1.map skey).trans p1, by rw [sz]; exact hb, q2, q3, hl.imp id fun z => by rw [q4]; exact z⟩)
  · rw [if_neg (by rw [c]; exact Bool.false_ne_true)]
    exact wpAny_pure (hR _ b1 ⟨nd, _, es1, _, t2, o1, hex, rfl, g1, p1, hb, hf, hr, hl⟩)
/-- a text that is not in it is added -/
theorem addT_new {a : Addr} {k : Str} {tk : Tok} {xs : List Str} {Q : Bool → Shared → Prop} (S : SetS w s.heap a xs) (new : k ∉ xs) (room : xs.length + 1 < scanBound) (q : ∀ h', Heap.SameBut a s.heap h' → SetS w h' a (k :: xs) → Q true { s with heap := h' }) :
    wpAny (model P w) A (setAddHashed a (.str k tk) ((strKind P w).hash k)) Q E s := by
  obtain ⟨nd, o, es, ep, t, ho, hex, hd, g, hp, hb, hf, hr, hl⟩ := S
  have sc : (Value.str k tk).scannable = true := rfl
  have el : ElemsOf (strKind P w) es.toList := good_elemsT g
  have no : List.findIdx? (fun e => (strKind P w).is k e.2) es.toList = none := by
    refine List.findIdx?_eq_none_iff.mpr fun e he => ?_
    obtain ⟨x, tk', h1, _⟩ := g e he
    rw [h1]
    refine Bool.eq_false_iff.mpr fun z => new ?_
    have hx : skey e = k := by
      unfold skey
      rw [h1]
      exact isStr_iff.mp z
    exact hp.mem_iff.mp (List.mem_map.mpr ⟨e, he, hx⟩)
  unfold setAddHashed setAddHashedIn
  refine wpAny_holding (wpAny_bind (wpAny_setState_of ho hd hf ?_))
  dsimp only
  rw [byScan_of sc hb el]
  simp only [↓reduceIte]
  unfold setAddByScan
  refine wpAny_bind (wpAny_bind (wpAny_rule (wpAny_bind (wpAny_setScan_of (strKind_is P w k tk) ho hd hf el ?_))))
  rw [no]
  dsimp only
  have q1 := layNew_perm t es ((strKind P w).hash k) (.str k tk)
  have q2 := layNew_fits t es ((strKind P w).hash k) (.str k tk)
  have q3 := layNew_ris t es ((strKind P w).hash k) (.str k tk) hr
  have q4 := layNew_led t es ((strKind P w).hash k) (.str k tk)
  generalize layNew t es ((strKind P w).hash k) (.str k tk) = Z at q1 q2 q3 q4 ⊢
  obtain ⟨es1, t1, b0, gave⟩ := Z
  dsimp only at q1 q2 q3 q4 ⊢
  rw [Array.toList_push] at q1
  have pc := q1.trans (List.perm_append_singleton _ _)
  have pk : (es1.toList.map skey).Perm (k :: xs) := (pc.map skey).trans (hp.cons k)
  have g1 : ∀ e ∈ es1.toList, GoodT w e := fun e he => (List.mem_cons.mp (pc.mem_iff.mp he)).elim (fun z => ⟨k, tk, by rw [z], by rw [z]; rfl⟩) (g e)
  have nd1 : (k :: xs).Nodup := List.nodup_cons.mpr ⟨new, nd⟩
  have sz : es1.size = xs.length + 1 := by
    have := pk.length_eq
    rw [List.length_map, Array.length_toList] at this
    exact this
  have hb1 : es1.size < scanBound := by rw [sz]; exact room
  have hl1 : w.params.followText "set-order" = true ∨ t1.led = true := hl.imp id fun z => by rw [q4]; exact z
  have free : ∀ (b : Bool) (s₁ : Shared) (Q' : Unit → Shared → Prop), Q' () s₁ → wpAny (model P w) A (match b with | true => rule "set.scan.the-table-gave-way" | false => pure ()) Q' E s₁ := fun b s₁ Q' z => by
    cases b
    · exact wpAny_pure z
    · exact wpAny_rule z
  refine wpAny_bind (free _ _ _ ?_)
  split
  · refine wpAny_bind ?_
    rw [hashByValue_scannable 8 sc]
    refine wpAny_pure ?_
    refine addT_tail (xs := k :: xs) ?_ ho hex hd nd1 g1 pk hb1 ?_ ?_ ?_ ?_
    · intro b s₁ Q' z
      cases b <;> first | exact wpAny_pure z | exact wpAny_rule z
    · first | (split <;> first | exact q2 | exact SetTable.fits_plain_off q2) | exact q2
    · first | (split <;> exact q3) | exact q3
    · first | (split <;> exact hl1) | exact hl1
    · intro h' sb r
      exact wpAny_pure (q h' sb r)
  · refine wpAny_bind (wpAny_pure ?_)
    simp only [↓reduceIte]
    refine addT_tail (xs := k :: xs) ?_ ho hex hd nd1 g1 pk hb1 q2 q3 hl1 ?_
    · intro b s₁ Q' z
      cases b <;> first | exact wpAny_pure z | exact wpAny_rule z
    · intro h' sb r
      exact wpAny_pure (q h' sb r)
/-- one after another -/
theorem updT {I : Addr} {fp wr : List Addr} {G : Array GenState → Array GenState → Prop} {n : Nat} {Pv : Nat → Value → Prop} {St : Nat → Shared → Prop} {R : Result → Shared → Prop} (W : WalksS P w A.in1 I fp wr G n Pv St) (S : Addr) (hS : S ∉ fp) (xs : List Str) (nd : xs.Nodup) (hn : n = xs.length)
    (hb : xs.length + 1 < scanBound) (val : ∀ i v, Pv i v → ∃ k t, xs[i]? = some k ∧ v = .str k t) : ∀ (m i : Nat) (z : Shared) (ys : List Str), n - i = m → i ≤ n → St i z → SetS w z.heap S ys → ys.Perm (xs.take i) →
      (∀ z' ys, Moved (S :: wr) G z z' → SetS w z'.heap S ys → ys.Perm xs → R (.ok (.ret .none)) z') → codeAny (model P w) A (.builtin "set.update.loop" ⟨[.ref S, .ref I], []⟩) R z := by
  have hSw : S ∉ wr := fun h => hS (W.sub _ h)
  have sub : ∀ b ∈ wr, b ∈ S :: wr := fun b => List.mem_cons_of_mem _
  intro m
  induction m with
  | zero =>
    intro i z ys hm hi hst hSet hp hR
    obtain rfl : i = n := by omega
    refine codeAny_builtin PyProof.Rows.F.entry_set_update_loop ?_
    rw [Around.under_plainId PyProof.Rows.F.plain_set_update_loop _]
    refine wpAny_bind (m := pyNext (.ref I)) (W.done z _ _ hst fun z' hm => ?_)
    rw [List.take_of_length_le (by omega)] at hp
    exact wpAny_pure (hR z' ys (hm.mono sub) (hSet.keeps fun o e => hm.heap S o hSw e) hp)
  | succ m ih =>
    intro i z ys hm hi hst hSet hp hR
    have lt : i < n := by omega
    refine codeAny_builtin PyProof.Rows.F.entry_set_update_loop ?_
    rw [Around.under_plainId PyProof.Rows.F.plain_set_update_loop _]
    refine wpAny_bind (m := pyNext (.ref I)) (W.item i z _ _ lt hst fun v z' hv hst' hm => ?_)
    obtain ⟨k, t, hk, rfl⟩ := val i v hv
    have S' := hSet.keeps (h' := z'.heap) fun o e => hm.heap S o hSw e
    have new : k ∉ ys := fun c => by
      obtain ⟨j, hj, e⟩ := List.mem_iff_getElem.mp (hp.mem_iff.mp c)
      rw [List.length_take] at hj
      rw [List.getElem_take] at e
      obtain ⟨hi', e2⟩ := List.getElem?_eq_some_iff.mp hk
      exact absurd (e.trans e2.symm) (List.pairwise_iff_getElem.mp nd j i (by omega) hi' (by omega))
    have yl : ys.length ≤ i := by rw [hp.length_eq, List.length_take]; omega
    refine wpAny_bind (m := holding [Value.str k t] (setAdd S (.str k t))) (wpAny_holding ?_)
    unfold setAdd
    refine wpAny_holding (wpAny_bind ((strKind P w).pyHash (strKind_is P w k t) ?_))
    refine addT_new (s := { z' with toks := z'.toks + 1 }) S' new (by omega) fun h' sb r => ?_
    refine wpAny_pure ⟨plainId_quiet PyProof.Rows.F.plain_set_update_loop _, ih (i + 1) _ (k :: ys) (by omega) lt (W.frame _ z' _ _ hst' (Nat.le_succ _) fun b hb o e => ?_) r ?_ fun z'' ys' hm'' r' p' => ?_⟩
    · rw [sb.2 b (fun h : b = S => hS (by rw [← h]; exact hb))]
      exact e
    · rw [List.take_add_one, hk]
      exact (hp.cons k).trans (List.perm_append_singleton _ _).symm
    · refine hR z'' ys' (Moved.trans W.gtrans ((hm.mono sub).then_heap (Nat.le_succ _) fun b o hb e => ?_) hm'') r' p'
      rw [sb.2 b (fun h : b = S => hb (by rw [h]; exact List.mem_cons_self))]
      exact e
end
end Sp1

set_option Elab.async false
set_option linter.all false
set_option maxRecDepth 100000
set_option maxHeartbeats 4000000
namespace Sp1
open PySem PySem.W PySem.Spec PyProof.Rows L2
def SetSO (w : World) (a : Addr) (xs : List Str) : HO := .ext fun h => SetS w h a xs
section
variable {P : Program} {w : World} {A : Around} {s : Shared}
/-- filling a new set from texts that differ, by any walk over them -/
theorem fillT {S I : Addr} {h0 : Heap} {vs : Array Value} {xs : List Str} {it : Obj} {St : Nat → Shared → Prop} {R : Result → Shared → Prop} (hS : h0.get? S = some (set0 w)) (hI : I = h0.objs.size) {l : Addr} (W : WalksS P w A.in1 I [I, l] [I] (fun a b => b = a) vs.size (fun i v => vs[i]? = some v) St) (hl : l < h0.objs.size) (hlS : l ≠ S)
    (hv : StrsAre vs.toList xs) (nd : xs.Nodup) (hb : xs.length + 1 < scanBound) (st : St 0 { s with heap := h0.push it })
    (h1 : ∀ (h' : Heap) (tk : Nat) ys, SetS w h' S ys → ys.Perm xs → (∀ b o, b ≠ S → h0.get? b = some o → h'.get? b = some o) → R (.ok (.ret .none)) { s with heap := h', toks := tk }) :
    codeAny (model P w) A (.builtin "set.update.loop" ⟨[.ref S, .ref I], []⟩) R { s with heap := h0.push it } := by
  have Sh : S < h0.objs.size := Heap.lt_size hS
  have size : vs.size = xs.length := (Array.length_toList.symm).trans hv.length
  have nS : S ∉ [I, l] := fun z => by
    rcases List.mem_cons.mp z with z | z
    · rw [hI] at z
      exact absurd z (Nat.ne_of_lt Sh)
    · exact hlS (List.mem_singleton.mp z).symm
  have empty : SetS w (h0.push it) S [] := ⟨List.nodup_nil, _, #[], 0, _, Heap.get?_push_of_some _ hS, ⟨rfl, rfl, rfl⟩, rfl, (fun e he => by simp at he), (List.Perm.refl _), by decide, rfl, List.Pairwise.nil, by
    cases h : w.params.followText "set-order"
    · exact .inr rfl
    · exact .inl rfl⟩
  refine updT (P := P) (A := A) W S nS xs nd size hb (fun i v e => ?_) vs.size 0 _ [] rfl (Nat.zero_le _) st empty (List.Perm.refl _) fun s' ys m r p => ?_
  · have hi : i < xs.length := by
      have := (Array.getElem?_eq_some_iff.mp e).1
      omega
    obtain ⟨y, t, x, z⟩ := hv.item i v (by rw [Array.getElem?_toList]; exact e)
    exact ⟨y, t, z, x⟩
  · obtain ⟨hp, g, d, tk, os⟩ := s'
    obtain ⟨mh, mg, md, mo, _⟩ := m
    dsimp only at mg md mo mh r
    subst mg md mo
    refine h1 hp tk ys r p fun b o hb e => mh b o (fun z => ?_) (Heap.get?_push_of_some _ e)
    rcases List.mem_cons.mp z with z | z
    · exact hb z
    · have z := List.mem_singleton.mp z
      rw [hI] at z
      exact absurd z (Nat.ne_of_lt (Heap.lt_size e))
end
section
variable {X : Cx}
theorem setSO_new {w : World} {P : Program} {H : Hp} {h : Heap} {a : Addr} {xs : List Str} (R : SetS w h a xs) : ObjOk P w H h a (SetSO w a xs) := by
  have ⟨_, o, _, _, _, ho, _⟩ := R
  exact ⟨R, ⟨o, ho⟩, fun h1 h2 p k => SetS.keeps p k⟩
theorem setSO_get {pins : List (Addr × Obj)} {σ : L2.St} {H : Hp} {s : Shared} {a : Addr} {xs : List Str} (I : Inv X pins σ H s) (ha : H a = some (SetSO X.w a xs)) : SetS X.w s.heap a xs := (I.hok a _ ha).1
/-- set(l) of a list or a tuple of texts that differ -/
def rSetT (K : PySem.W.Frag) (w : World) : List V → Hp → VK → Prop := fun vs H Q => ∃ (l : Addr) (xs : List Str), vs = [V.ref l] ∧ (SqL K H l (xs.map V.str) ∨ SqT K H l (xs.map V.str)) ∧ xs.Nodup ∧ xs.length ≤ 1000 ∧
  ∀ (a : Addr) (ys : List Str), H a = none → ys.Perm xs → Q (.ref a) (upd H a (SetSO w a ys))
theorem cr_setT (hc : X.calm = true) : CallR X (.type "set") (rSetT X.K X.w) := by
  intro pins s σ H vs us Q I r h
  obtain ⟨l, xs, rfl, hq, nd, h1000, q⟩ := h
  rw [Vals.ref1 r]
  have hlt : ∀ b o, s.heap.get? b = some o → b ≠ s.heap.objs.size := fun b o e => Nat.ne_of_lt (Heap.lt_size e)
  have fin : ∀ (h' : Heap) (tk : Nat), (∃ ys, SetS X.w h' s.heap.objs.size ys ∧ ys.Perm xs) → (∀ b o, s.heap.get? b = some o → h'.get? b = some o) → EP X pins σ Q (.ref s.heap.objs.size) { s with heap := h', toks := tk } :=
    fun h' tk ⟨ys, S, p⟩ k => ⟨.ref _, upd H s.heap.objs.size (SetSO X.w s.heap.objs.size ys), I.laid (t' := tk) k (Nat.le_refl _) (setSO_new S), rfl, q _ _ (I.hok.fresh (Nat.le_refl _)) p⟩
  have push : ∀ b o, s.heap.get? b = some o → (s.heap.push (set0 X.w)).get? b = some o := fun b o e => Heap.get?_push_of_some _ e
  rcases hq with hl | hl
  · obtain ⟨its, rv, pl, hz⟩ := I.list hl
    obtain ⟨⟨oc, od, dt, os⟩, e1, e2, n, e3⟩ := id pl.isList
    dsimp only at e2 e3
    subst e2 e3
    refine set_of_walk (Φ := fun h' => ∃ ys, SetS X.w h' s.heap.objs.size ys ∧ ys.Perm xs) (I.ok.hd hc) e1 PySem.F.sub_list_set PySem.F.sub_list_frozenset (by decide) (fun A' R E' hh hR => ?_) fin
    have hl1 : (s.heap.push (set0 X.w)).IsList l its.toArray := ⟨_, push _ _ e1, rfl, n, rfl⟩
    have lt1 := Heap.lt_size (push _ _ e1)
    refine wpAny_pyIter_list hl1 ?_
    exact fillT (s := s) (h0 := s.heap.push (set0 X.w)) (Heap.get?_push_size _ rfl) rfl (Walks.list (A := A'.in1) hh _ l (Nat.ne_of_lt lt1) its.toArray).toS lt1 (hlt _ _ e1) (by simpa using rv.strs) nd (by unfold scanBound; omega)
      ⟨⟨_, Heap.get?_push_size _ rfl, rfl, rfl⟩, hl1.push _⟩ fun h' tk ys S p k => hR h' tk ⟨ys, S, p⟩ fun b o e => k b o (hlt b o e) (push b o e)
  · obtain ⟨its, rv, pl, hz⟩ := I.tuple hl
    obtain ⟨⟨oc, od, dt, os⟩, e1, e2, n, e3⟩ := id pl
    dsimp only at e2 e3
    subst e2 e3
    refine set_of_walk (Φ := fun h' => ∃ ys, SetS X.w h' s.heap.objs.size ys ∧ ys.Perm xs) (I.ok.hd hc) e1 PySem.F.sub_tuple_set PySem.F.sub_tuple_frozenset (by decide) (fun A' R E' hh hR => ?_) fin
    have hl1 : (s.heap.push (set0 X.w)).IsTuple l its.toArray := ⟨_, push _ _ e1, rfl, n, rfl⟩
    have lt1 := Heap.lt_size (push _ _ e1)
    refine wpAny_pyIter_tuple hl1 ?_
    exact fillT (s := s) (h0 := s.heap.push (set0 X.w)) (Heap.get?_push_size _ rfl) rfl (Walks.tuple (A := A'.in1) hh _ l (Nat.ne_of_lt lt1) its.toArray).toS lt1 (hlt _ _ e1) (by simpa using rv.strs) nd (by unfold scanBound; omega)
      ⟨⟨_, Heap.get?_push_size _ rfl, rfl, rfl⟩, hl1.push _⟩ fun h' tk ys S p k => hR h' tk ⟨ys, S, p⟩ fun b o e => k b o (hlt b o e) (push b o e)
/-- len of such a set -/
theorem cr_lenT : CallR X (.builtin "len") (fun vs H Q => ∃ a xs, vs = [V.ref a] ∧ H a = some (SetSO X.w a xs) ∧ Q (.int (xs.length : Nat)) H) := by
  intro pins s σ H vs us Q I r h
  obtain ⟨a, xs, rfl, ha, q⟩ := h
  rw [Vals.ref1 r]
  obtain ⟨nd, o, es, ep, t, ho, hex, hd, g, hp, hb, hf, _⟩ := setSO_get I ha
  have sz : es.size = xs.length := by
    have := hp.length_eq
    rw [List.length_map, Array.length_toList] at this
    exact this
  exact call_len_set ho hex hd hf (by have : scanBound = 4096 := rfl; omega) ⟨.int (xs.length : Nat), H, I.tok _, ⟨_, by rw [sz]⟩, q⟩
/-- sorted of such a set, fewer than 64 texts -/
theorem cr_sortedT2 (hc : X.calm = true) : CallR X (.builtin "sorted") (fun vs H Q => ∃ a xs, vs = [V.ref a] ∧ H a = some (SetSO X.w a xs) ∧ xs.length < 64 ∧ ∀ ys p, ys.Perm xs → sortedS ys = true → H p = none → Q (.ref p) (upd H p (.lst (ys.map V.str)))) := by
  intro pins s σ H vs us Q I r h
  obtain ⟨a, xs, rfl, ha, h64, q⟩ := h
  rw [Vals.ref1 r]
  obtain ⟨nd, o, es, ep, t, ho, hex, hd, g, hp, hb, hf, hr, hl⟩ := setSO_get I ha
  refine Calls.call_function_entry kind_sorted plain_sorted entry_sorted (args_sorted1 _) ?_
  unfold Builtin.«sorted»
  refine wpAny_bind (m := checkCount "sorted" 1 1 _) (wpAny_pure ?_)
  refine wpAny_bind (collect_set (A := X.A.in1) (I.ok.hd hc) ⟨o, ho, hex.1, hd⟩ hf hb hr hl fun s1 vs k1 hz g1 o1 pm => ?_)
  have vl : vs.length = xs.length := by rw [pm.length_eq, List.length_map, ← hp.length_eq, List.length_map]
  have hS : StrsAre vs (vs.map PyProof.Rows.strOf) := by
    have q1 := strsAre_map vs fun v hv => by
      obtain ⟨e, he, rfl⟩ := List.mem_map.mp (pm.mem_iff.mp hv)
      obtain ⟨x, tk, h1, _⟩ := g e he
      exact ⟨x, tk, h1⟩
    exact q1
  have pv : (vs.map PyProof.Rows.strOf).Perm xs := by
    refine (pm.map PyProof.Rows.strOf).trans ?_
    rw [List.map_map]
    have e1 : es.toList.map (PyProof.Rows.strOf ∘ (·.2)) = es.toList.map skey := List.map_congr_left fun e he => by
      obtain ⟨x, tk, h1, _⟩ := g e he
      show PyProof.Rows.strOf e.2 = skey e
      unfold skey
      rw [h1]
      rfl
    rw [e1]
    exact hp
  refine wpAny_bind (wpAny_newList ?_ (by rw [vl, sizeLine_eq]; omega))
  have hL : (s1.heap.push (seqObj "list" vs.toArray 0)).get? s1.heap.objs.size = some (seqObj "list" vs.toArray 0) := Heap.get?_push_size _ rfl
  refine wpAny_bind (wpAny_holding (wpAny_call_entry PyProof.Rows.slot_list_sort ⟨_, hL, rfl⟩ PyProof.Rows.entry_list_sort (PyProof.Rows.list_sort_treeK PyProof.Rows.strKind_oneLt hL hS.keysOf (fun v₁ v₂ rest e => PyProof.Rows.keyKind_strs (by rw [← e]; exact hS)) (by rw [vl]; exact h64) fun st' hp' hs' => ⟨_, rfl, ?_⟩) (PyProof.Rows.args_list_sort _)))
  obtain ⟨ys, y1, y2, y3⟩ := PyProof.Rows.sorted_out_str hS hp' hs'
  obtain ⟨c, hc'⟩ := PyProof.Rows.sortedHeap_at (vs := vs) (out := (arrOf st').map (·.2)) hL
  have yl : (ys.map V.str).length ≤ sizeLine := by rw [List.length_map, y2.length_eq, pv.length_eq, sizeLine_eq]; omega
  have old : ∀ b u, s.heap.get? b = some u → (sortedHeap (s1.heap.push (seqObj "list" vs.toArray 0)) s1.heap.objs.size vs ((arrOf st').map (·.2))).get? b = some u := fun b u e => by
    have e1 := k1 b u e
    have lt := Heap.lt_size e1
    rw [PyProof.Rows.sortedHeap_old (Nat.ne_of_lt lt) (by rw [size_push']; exact Nat.lt_succ_of_lt lt)]
    exact Heap.get?_push_of_some _ e1
  have hn : H s1.heap.objs.size = none := I.hok.fresh hz
  generalize hU : sortedHeap (s1.heap.push (seqObj "list" vs.toArray 0)) s1.heap.objs.size vs ((arrOf st').map (·.2)) = h2 at hc' old
  have J : Inv X pins σ (upd H s1.heap.objs.size (.lst (ys.map V.str))) { s with heap := h2, gens := s1.gens, drawn := s1.drawn, toks := s1.toks } :=
    I.call (ch := []) (Un.laid old hz hn) (I.hok.laid old hz ⟨yl, _, c, vals_of_strs y1, hc'⟩) (by rw [g1]; exact I.bare) (fun _ z => nomatch z)
  refine wpAny_pure ⟨.ref s1.heap.objs.size, rfl, .ref _, upd H s1.heap.objs.size (.lst (ys.map V.str)), ?_, rfl, q ys _ (y2.trans pv) y3 hn⟩
  cases s1
  cases s
  cases o1
  exact J
end
end Sp1

set_option Elab.async false
set_option linter.all false
set_option maxRecDepth 100000
set_option maxHeartbeats 4000000
namespace Sp1
open PySem PySem.Spec PyProof.Rows L2 Pg
section
variable {K : PySem.W.Frag} {H H' : Hp}
mutual
theorem dp_keep (s : TK H H') : ∀ {d : PyData} {v : V}, Dp K H v d → tupD d = true → Dp K H' v d
  | .none, _, h, _ => by cases h; exact .non
  | .bool b, _, h, _ => by cases h; exact .bl b
  | .int i, _, h, _ => by cases h; exact .int i
  | .str x, _, h, _ => by cases h; exact .str x
  | .list _, _, _, t => by simp [tupD] at t
  | .dict _, _, _, t => by simp [tupD] at t
  | .tuple ds, _, h, t => by
    cases h with
    | tup hs ha => exact .tup (s.sqt hs) (dpAll_keep s ha (by simpa [tupD] using t))
theorem dpAll_keep (s : TK H H') : ∀ {ds : List PyData} {vs : List V}, DpAll K H vs ds → tupAll ds = true → DpAll K H' vs ds
  | [], _, h, _ => by cases h; exact .nil
  | d :: ds, _, h, t => by
    simp only [tupAll, Bool.and_eq_true] at t
    cases h with
    | cons h1 h2 => exact .cons (dp_keep s h1 t.1) (dpAll_keep s h2 t.2)
end
theorem dp_tup {v : V} {ds : List PyData} (h : Dp K H v (.tuple ds)) : ∃ a xs, v = .ref a ∧ SqT K H a xs ∧ DpAll K H xs ds := by
  cases h with
  | tup hs ha => exact ⟨_, _, rfl, hs, ha⟩
theorem dp_str {v : V} {x : Str} (h : Dp K H v (.str x)) : v = .str x := by cases h; rfl
theorem dp_int {v : V} {i : Int} (h : Dp K H v (.int i)) : v = .int i := by cases h; rfl
theorem dpAll_len : ∀ {ds : List PyData} {vs : List V}, DpAll K H vs ds → vs.length = ds.length
  | [], _, h => by cases h; rfl
  | d :: ds, _, h => by
    cases h with
    | cons _ h2 => rw [List.length_cons, List.length_cons, dpAll_len h2]
theorem dpAll_at : ∀ {ds : List PyData} {vs : List V}, DpAll K H vs ds → ∀ {i : Nat} {v : V}, vs[i]? = some v → ∃ d, ds[i]? = some d ∧ Dp K H v d
  | [], _, h, i, v, e => by cases h; simp at e
  | d :: ds, _, h, i, v, e => by
    cases h with
    | cons h1 h2 =>
      cases i with
      | zero => cases e; exact ⟨d, rfl, h1⟩
      | succ i => exact dpAll_at h2 e
theorem dpAll_get {ds : List PyData} {vs : List V} (h : DpAll K H vs ds) {i : Nat} {d : PyData} (e : ds[i]? = some d) : ∃ v, vs[i]? = some v ∧ Dp K H v d := by
  have hi := (List.getElem?_eq_some_iff.mp e).1
  have hv : i < vs.length := by rw [dpAll_len h]; exact hi
  obtain ⟨d', e', q⟩ := dpAll_at h (List.getElem?_eq_getElem hv)
  rw [e] at e'
  cases e'
  exact ⟨_, List.getElem?_eq_getElem hv, q⟩
theorem dpAll_app {ds es : List PyData} {vs ws : List V} (h : DpAll K H vs ds) (h' : DpAll K H ws es) : DpAll K H (vs ++ ws) (ds ++ es) := by
  induction h using DpAll.rec (motive_1 := fun _ _ _ => True) with
  | nil => exact h'
  | cons h1 _ _ ih => exact .cons h1 ih
  | _ => trivial
theorem dpAll_snoc {ds : List PyData} {vs : List V} {d : PyData} {v : V} (h : DpAll K H vs ds) (h' : Dp K H v d) : DpAll K H (vs ++ [v]) (ds ++ [d]) := dpAll_app h (.cons h' .nil)
theorem dpAll_strs : ∀ xs : List Str, DpAll K H (xs.map V.str) (xs.map sD)
  | [] => .nil
  | x :: r => .cons (.str x) (dpAll_strs r)
theorem dpAll_strs_inv : ∀ {xs : List Str} {vs : List V}, DpAll K H vs (xs.map sD) → vs = xs.map V.str
  | [], _, h => by cases h; rfl
  | x :: r, _, h => by
    cases h with
    | cons h1 h2 =>
      rw [dp_str h1, dpAll_strs_inv h2]
      rfl
/-- a tuple of texts -/
def Ts (K : PySem.W.Frag) (H : Hp) (v : V) (xs : List Str) : Prop := ∃ a, v = .ref a ∧ SqT K H a (xs.map V.str)
theorem Ts.tk {v : V} {xs : List Str} (h : Ts K H v xs) (s : TK H H') : Ts K H' v xs := by
  obtain ⟨a, e, h⟩ := h
  exact ⟨a, e, s.sqt h⟩
theorem Ts.dp {v : V} {xs : List Str} (h : Ts K H v xs) : Dp K H v (.tuple (xs.map sD)) := by
  obtain ⟨a, rfl, h⟩ := h
  exact .tup h (dpAll_strs xs)
theorem ts_of_dp {v : V} {xs : List Str} (h : Dp K H v (.tuple (xs.map sD))) : Ts K H v xs := by
  obtain ⟨a, vs, rfl, hs, ha⟩ := dp_tup h
  rw [dpAll_strs_inv ha] at hs
  exact ⟨a, rfl, hs⟩
/-- a list or a tuple of texts -/
def Tl (K : PySem.W.Frag) (H : Hp) (v : V) (xs : List Str) : Prop := ∃ a, v = .ref a ∧ (SqL K H a (xs.map V.str) ∨ SqT K H a (xs.map V.str))
theorem Ts.tl {v : V} {xs : List Str} (h : Ts K H v xs) : Tl K H v xs := by
  obtain ⟨a, e, h⟩ := h
  exact ⟨a, e, .inr h⟩
theorem Tl.same {v : V} {xs : List Str} (h : Tl K H v xs) (s : Same H H') : Tl K H' v xs := by
  obtain ⟨a, e, h⟩ := h
  exact ⟨a, e, h.imp (fun h => s.seq h) fun h => Same.sqt s h⟩
theorem flat_strs (xs : List Str) : (xs.map V.str).all flatV = true := by
  rw [List.all_eq_true]
  intro x hx
  obtain ⟨_, _, rfl⟩ := List.mem_map.mp hx
  rfl
theorem inV_strs (x : Str) (xs : List Str) : inV (.str x) (xs.map V.str) = decide (x ∈ xs) := by
  unfold inV
  rw [Bool.eq_iff_iff, List.any_eq_true, decide_eq_true_eq]
  constructor
  · rintro ⟨v, hv, e⟩
    obtain ⟨y, hy, rfl⟩ := List.mem_map.mp hv
    have : y = x := beq_iff_eq.mp e
    rw [← this]
    exact hy
  · intro h
    exact ⟨.str x, List.mem_map.mpr ⟨x, h, rfl⟩, beq_self_eq_true x⟩
theorem tyx_tupS {a : Addr} {xs : List V} (h : SqT K H a xs) : TyX K H (.ref a) (.type "tuple") := by
  rcases h with (h | ⟨o, h⟩) | ⟨o, its, n, e, c, _⟩
  · exact .base (.tup h)
  · exact .fTuple h
  · exact .kTuple e c
theorem tyx_dp {v : V} {ds : List PyData} (h : Dp K H v (.tuple ds)) : TyX K H v (.type "tuple") := by
  obtain ⟨a, xs, rfl, hs, _⟩ := dp_tup h
  exact tyx_tupS hs
/-! all(..) of a list of truths -/
theorem all_true (n : Nat) : ((List.range n).map fun _ => true).all id = true := by
  rw [List.all_eq_true]
  intro x hx
  obtain ⟨_, _, rfl⟩ := List.mem_map.mp hx
  rfl
theorem acc_true {D : Addr} {n : Nat} (h : Acc H D (fun _ => V.bl true) n H') : H' D = some (.lst (((List.range n).map fun _ => true).map V.bl)) := by
  rw [h.2, List.map_map]
  rfl
end
end Sp1

set_option Elab.async false
set_option linter.all false
set_option maxRecDepth 100000
set_option maxHeartbeats 4000000
namespace Pg
open PySem
def compound : List Str := ["if", "while", "repeat"]
end Pg
namespace Sp1
open PySem PySem.Spec PyProof.Rows L2 Pg
def top (i : Nat) : Stmt := PySem.Challenge.pw_frugaltape_k25_free_runs_step_by_step.main.body.getD i (.Pass ⟨0, 0, 0, 0⟩)
abbrev s_is_integer : Stmt := top 11
abbrev N_is_integer : List Str := ["value"]
theorem sc_is_integer : FnScope N_is_integer ["value"] (defScope s_is_integer) := ⟨rfl, rfl, rfl, by decide +kernel, rfl, by decide +kernel, by decide +kernel⟩
abbrev s_is_short : Stmt := top 12
abbrev N_is_short : List Str := ["value"]
theorem sc_is_short : FnScope N_is_short ["value"] (defScope s_is_short) := ⟨rfl, rfl, rfl, by decide +kernel, rfl, by decide +kernel, by decide +kernel⟩
abbrev s_common_divisor : Stmt := top 13
abbrev N_common_divisor : List Str := ["numbers", "divisor", "number"]
theorem sc_common_divisor : FnScope N_common_divisor ["numbers"] (defScope s_common_divisor) := ⟨rfl, rfl, rfl, by decide +kernel, rfl, by decide +kernel, by decide +kernel⟩
abbrev s_is_name : Stmt := top 18
abbrev N_is_name : List Str := ["candidate", "letter"]
theorem sc_is_name : FnScope N_is_name ["candidate"] (defScope s_is_name) := ⟨rfl, rfl, rfl, by decide +kernel, rfl, by decide +kernel, by decide +kernel⟩
abbrev s_are_names : Stmt := top 19
abbrev N_are_names : List Str := ["candidate", "name"]
theorem sc_are_names : FnScope N_are_names ["candidate"] (defScope s_are_names) := ⟨rfl, rfl, rfl, by decide +kernel, rfl, by decide +kernel, by decide +kernel⟩
abbrev s_is_term : Stmt := top 20
abbrev N_is_term : List Str := ["candidate", "names", "factor", "name"]
theorem sc_is_term : FnScope N_is_term ["candidate", "names"] (defScope s_is_term) := ⟨rfl, rfl, rfl, by decide +kernel, rfl, by decide +kernel, by decide +kernel⟩
abbrev s_are_terms : Stmt := top 21
abbrev N_are_terms : List Str := ["candidate", "names", "written", "term", "_", "name"]
theorem sc_are_terms : FnScope N_are_terms ["candidate", "names"] (defScope s_are_terms) := ⟨rfl, rfl, rfl, by decide +kernel, rfl, by decide +kernel, by decide +kernel⟩
abbrev s_sum_numbers : Stmt := top 22
abbrev N_sum_numbers : List Str := ["value", "_", "constant", "terms", "divisor", "factor"]
theorem sc_sum_numbers : FnScope N_sum_numbers ["value"] (defScope s_sum_numbers) := ⟨rfl, rfl, rfl, by decide +kernel, rfl, by decide +kernel, by decide +kernel⟩
abbrev s_is_long_sum : Stmt := top 23
abbrev N_is_long_sum : List Str := ["candidate", "names", "_", "constant", "terms", "divisor"]
theorem sc_is_long_sum : FnScope N_is_long_sum ["candidate", "names"] (defScope s_is_long_sum) := ⟨rfl, rfl, rfl, by decide +kernel, rfl, by decide +kernel, by decide +kernel⟩
abbrev s_is_sum : Stmt := top 24
abbrev N_is_sum : List Str := ["candidate", "names", "number"]
theorem sc_is_sum : FnScope N_is_sum ["candidate", "names"] (defScope s_is_sum) := ⟨rfl, rfl, rfl, by decide +kernel, rfl, by decide +kernel, by decide +kernel⟩
abbrev s_is_expression : Stmt := top 25
abbrev N_is_expression : List Str := ["candidate", "names"]
theorem sc_is_expression : FnScope N_is_expression ["candidate", "names"] (defScope s_is_expression) := ⟨rfl, rfl, rfl, by decide +kernel, rfl, by decide +kernel, by decide +kernel⟩
abbrev s_is_block : Stmt := top 30
abbrev N_is_block : List Str := ["candidate", "names", "procedures", "depth", "statement"]
theorem sc_is_block : FnScope N_is_block ["candidate", "names", "procedures", "depth"] (defScope s_is_block) := ⟨rfl, rfl, rfl, by decide +kernel, rfl, by decide +kernel, by decide +kernel⟩
abbrev s_is_statement : Stmt := top 31
abbrev N_is_statement : List Str := ["candidate", "names", "procedures", "depth", "word"]
theorem sc_is_statement : FnScope N_is_statement ["candidate", "names", "procedures", "depth"] (defScope s_is_statement) := ⟨rfl, rfl, rfl, by decide +kernel, rfl, by decide +kernel, by decide +kernel⟩
abbrev s_is_writing : Stmt := top 32
abbrev N_is_writing : List Str := ["candidate", "names", "word", "name", "other"]
theorem sc_is_writing : FnScope N_is_writing ["candidate", "names"] (defScope s_is_writing) := ⟨rfl, rfl, rfl, by decide +kernel, rfl, by decide +kernel, by decide +kernel⟩
abbrev s_is_compound : Stmt := top 33
abbrev N_is_compound : List Str := ["candidate", "names", "procedures", "depth", "word", "parts", "part"]
theorem sc_is_compound : FnScope N_is_compound ["candidate", "names", "procedures", "depth"] (defScope s_is_compound) := ⟨rfl, rfl, rfl, by decide +kernel, rfl, by decide +kernel, by decide +kernel⟩
abbrev s_are_procedures : Stmt := top 34
abbrev N_are_procedures : List Str := ["candidate", "names", "called", "procedure", "name", "_", "block"]
theorem sc_are_procedures : FnScope N_are_procedures ["candidate", "names"] (defScope s_are_procedures) := ⟨rfl, rfl, rfl, by decide +kernel, rfl, by decide +kernel, by decide +kernel⟩
abbrev s_block_code : Stmt := top 36
abbrev N_block_code : List Str := ["block", "start", "code", "statement"]
theorem sc_block_code : FnScope N_block_code ["block", "start"] (defScope s_block_code) := ⟨rfl, rfl, rfl, by decide +kernel, rfl, by decide +kernel, by decide +kernel⟩
abbrev s_statement_code : Stmt := top 37
abbrev N_statement_code : List Str := ["statement", "start", "word"]
theorem sc_statement_code : FnScope N_statement_code ["statement", "start"] (defScope s_statement_code) := ⟨rfl, rfl, rfl, by decide +kernel, rfl, by decide +kernel, by decide +kernel⟩
abbrev s_if_code : Stmt := top 38
abbrev N_if_code : List Str := ["statement", "start", "_", "expression", "first", "second", "first_code", "second_start", "second_code", "behind", "test"]
theorem sc_if_code : FnScope N_if_code ["statement", "start"] (defScope s_if_code) := ⟨rfl, rfl, rfl, by decide +kernel, rfl, by decide +kernel, by decide +kernel⟩
abbrev s_while_code : Stmt := top 39
abbrev N_while_code : List Str := ["statement", "start", "_", "expression", "block", "head", "code", "behind"]
theorem sc_while_code : FnScope N_while_code ["statement", "start"] (defScope s_while_code) := ⟨rfl, rfl, rfl, by decide +kernel, rfl, by decide +kernel, by decide +kernel⟩
abbrev s_repeat_code : Stmt := top 40
abbrev N_repeat_code : List Str := ["statement", "start", "_", "expression", "block", "turn", "code", "behind"]
theorem sc_repeat_code : FnScope N_repeat_code ["statement", "start"] (defScope s_repeat_code) := ⟨rfl, rfl, rfl, by decide +kernel, rfl, by decide +kernel, by decide +kernel⟩
abbrev s_program_code : Stmt := top 41
abbrev N_program_code : List Str := ["procedures", "main", "code", "entries", "name", "block"]
theorem sc_program_code : FnScope N_program_code ["procedures", "main"] (defScope s_program_code) := ⟨rfl, rfl, rfl, by decide +kernel, rfl, by decide +kernel, by decide +kernel⟩
abbrev s_check_names : Stmt := top 46
abbrev N_check_names : List Str := ["given", "variables"]
theorem sc_check_names : FnScope N_check_names ["given", "variables"] (defScope s_check_names) := ⟨rfl, rfl, rfl, by decide +kernel, rfl, by decide +kernel, by decide +kernel⟩
abbrev s_check_blocks : Stmt := top 47
abbrev N_check_blocks : List Str := ["names", "procedures", "main", "name", "_"]
theorem sc_check_blocks : FnScope N_check_blocks ["names", "procedures", "main"] (defScope s_check_blocks) := ⟨rfl, rfl, rfl, by decide +kernel, rfl, by decide +kernel, by decide +kernel⟩
abbrev s_check_size : Stmt := top 48
abbrev N_check_size : List Str := ["code", "calls", "instruction"]
theorem sc_check_size : FnScope N_check_size ["code"] (defScope s_check_size) := ⟨rfl, rfl, rfl, by decide +kernel, rfl, by decide +kernel, by decide +kernel⟩
/-- what stands behind the top: the package's part that makes programs -/
structure PgF (K : PySem.W.Frag) (mg : Str → Option Value) where
  m_isinstance : mg "isinstance" = none
  m_int : mg "int" = none
  m_bool : mg "bool" = none
  m_str : mg "str" = none
  m_tuple : mg "tuple" = none
  m_len : mg "len" = none
  m_all : mg "all" = none
  m_set : mg "set" = none
  m_sorted : mg "sorted" = none
  m_gcd : mg "gcd" = some (.builtin "math.gcd")
  t_SHORT_BOUND : Tok
  c_SHORT_BOUND : mg "SHORT_BOUND" = some (.int Pg.great t_SHORT_BOUND)
  t_MAX_LETTERS : Tok
  c_MAX_LETTERS : mg "MAX_LETTERS" = some (.int 8 t_MAX_LETTERS)
  t_MAX_DEPTH : Tok
  c_MAX_DEPTH : mg "MAX_DEPTH" = some (.int 8 t_MAX_DEPTH)
  t_MAX_PROCEDURES : Tok
  c_MAX_PROCEDURES : mg "MAX_PROCEDURES" = some (.int 6 t_MAX_PROCEDURES)
  t_MAX_NAMES : Tok
  c_MAX_NAMES : mg "MAX_NAMES" = some (.int 4 t_MAX_NAMES)
  t_MAX_CODE : Tok
  c_MAX_CODE : mg "MAX_CODE" = some (.int 120 t_MAX_CODE)
  t_MAX_CALLS : Tok
  c_MAX_CALLS : mg "MAX_CALLS" = some (.int 8 t_MAX_CALLS)
  a_WORDS : Addr
  g_WORDS : mg "WORDS" = some (.ref a_WORDS)
  w_WORDS : ∀ H, SqT K H a_WORDS (Pg.words.map V.str)
  a_PAIRS : Addr
  g_PAIRS : mg "PAIRS" = some (.ref a_PAIRS)
  w_PAIRS : ∀ H, SqT K H a_PAIRS (Pg.pairWords.map V.str)
  a_COMPOUND : Addr
  g_COMPOUND : mg "COMPOUND" = some (.ref a_COMPOUND)
  w_COMPOUND : ∀ H, SqT K H a_COMPOUND (Pg.compound.map V.str)
  f_is_integer : Addr
  fd_is_integer : FuncData
  D_is_integer : Dn K mg "is_integer" s_is_integer ["value"] f_is_integer fd_is_integer
  f_is_short : Addr
  fd_is_short : FuncData
  D_is_short : Dn K mg "is_short" s_is_short ["value"] f_is_short fd_is_short
  f_common_divisor : Addr
  fd_common_divisor : FuncData
  D_common_divisor : Dn K mg "common_divisor" s_common_divisor ["numbers"] f_common_divisor fd_common_divisor
  f_is_name : Addr
  fd_is_name : FuncData
  D_is_name : Dn K mg "is_name" s_is_name ["candidate"] f_is_name fd_is_name
  f_are_names : Addr
  fd_are_names : FuncData
  D_are_names : Dn K mg "are_names" s_are_names ["candidate"] f_are_names fd_are_names
  f_is_term : Addr
  fd_is_term : FuncData
  D_is_term : Dn K mg "is_term" s_is_term ["candidate", "names"] f_is_term fd_is_term
  f_are_terms : Addr
  fd_are_terms : FuncData
  D_are_terms : Dn K mg "are_terms" s_are_terms ["candidate", "names"] f_are_terms fd_are_terms
  f_sum_numbers : Addr
  fd_sum_numbers : FuncData
  D_sum_numbers : Dn K mg "sum_numbers" s_sum_numbers ["value"] f_sum_numbers fd_sum_numbers
  f_is_long_sum : Addr
  fd_is_long_sum : FuncData
  D_is_long_sum : Dn K mg "is_long_sum" s_is_long_sum ["candidate", "names"] f_is_long_sum fd_is_long_sum
  f_is_sum : Addr
  fd_is_sum : FuncData
  D_is_sum : Dn K mg "is_sum" s_is_sum ["candidate", "names"] f_is_sum fd_is_sum
  f_is_expression : Addr
  fd_is_expression : FuncData
  D_is_expression : Dn K mg "is_expression" s_is_expression ["candidate", "names"] f_is_expression fd_is_expression
  f_is_statement : Addr
  fd_is_statement : FuncData
  D_is_statement : Dn K mg "is_statement" s_is_statement ["candidate", "names", "procedures", "depth"] f_is_statement fd_is_statement
  f_is_writing : Addr
  fd_is_writing : FuncData
  D_is_writing : Dn K mg "is_writing" s_is_writing ["candidate", "names"] f_is_writing fd_is_writing
  f_is_compound : Addr
  fd_is_compound : FuncData
  D_is_compound : Dn K mg "is_compound" s_is_compound ["candidate", "names", "procedures", "depth"] f_is_compound fd_is_compound
  f_are_procedures : Addr
  fd_are_procedures : FuncData
  D_are_procedures : Dn K mg "are_procedures" s_are_procedures ["candidate", "names"] f_are_procedures fd_are_procedures
  f_block_code : Addr
  fd_block_code : FuncData
  D_block_code : Dn K mg "block_code" s_block_code ["block", "start"] f_block_code fd_block_code
  f_statement_code : Addr
  fd_statement_code : FuncData
  D_statement_code : Dn K mg "statement_code" s_statement_code ["statement", "start"] f_statement_code fd_statement_code
  f_if_code : Addr
  fd_if_code : FuncData
  D_if_code : Dn K mg "if_code" s_if_code ["statement", "start"] f_if_code fd_if_code
  f_while_code : Addr
  fd_while_code : FuncData
  D_while_code : Dn K mg "while_code" s_while_code ["statement", "start"] f_while_code fd_while_code
  f_repeat_code : Addr
  fd_repeat_code : FuncData
  D_repeat_code : Dn K mg "repeat_code" s_repeat_code ["statement", "start"] f_repeat_code fd_repeat_code
  f_program_code : Addr
  fd_program_code : FuncData
  D_program_code : Dn K mg "program_code" s_program_code ["procedures", "main"] f_program_code fd_program_code
  f_check_names : Addr
  fd_check_names : FuncData
  D_check_names : Dn K mg "check_names" s_check_names ["given", "variables"] f_check_names fd_check_names
  f_check_blocks : Addr
  fd_check_blocks : FuncData
  D_check_blocks : Dn K mg "check_blocks" s_check_blocks ["names", "procedures", "main"] f_check_blocks fd_check_blocks
  f_check_size : Addr
  fd_check_size : FuncData
  D_check_size : Dn K mg "check_size" s_check_size ["code"] f_check_size fd_check_size
  f_is_block : Addr
  fd_is_block : FuncData
  F_is_block : FunD K "is_block" "is_block" (defArgs s_is_block) (defBody s_is_block) (defScope s_is_block) [.int 1] [] f_is_block fd_is_block
  g_is_block : mg "is_block" = some (.ref f_is_block)
  b4_is_block : Binds K fd_is_block ["candidate", "names", "procedures", "depth"] []
  ds_is_block : List Value
  v3_is_block : Vals [.int 1] ds_is_block
  b3_is_block : Binds K fd_is_block ["candidate", "names", "procedures", "depth"] ds_is_block
end Sp1

set_option Elab.async false
set_option linter.all false
set_option maxRecDepth 100000
set_option maxHeartbeats 4000000
namespace Pg
open PySem
def gcdL (u : List Int) : Nat := u.foldl (fun (a : Nat) x => Nat.gcd a x.natAbs) 0
theorem gcdL_take {u : List Int} {i : Nat} (h : i < u.length) : gcdL (u.take (i + 1)) = Nat.gcd (gcdL (u.take i)) u[i].natAbs := by
  unfold gcdL
  rw [List.take_add_one, List.getElem?_eq_getElem h, List.foldl_append]
  rfl
def Names (names : List Str) : Prop := ∀ x ∈ names, Nm x
def Sm.nums (s : Sm) : List Int := s.c :: s.d :: s.ts.map (·.1)
theorem Sm.Ok.gcdL {names : List Str} {s : Sm} (h : s.Ok names) : gcdL s.nums = 1 := h.gcd
theorem tD_tup {t : Int × Str} (h : tupD (.str t.2) = true) : tupD (tD t) = true := by
  show tupAll [.int t.1, .str t.2] = true
  simp [tupAll, tupD] at h ⊢
  exact h
theorem tD_depth (t : Int × Str) : (tD t).depth = 1 := by simp [tD, PyData.depth, PyData.depthAll]
theorem lit_tup {x : Str} (h : (x.cps.all (· < 0x110000)) = true) : tupD (.str x) = true := by
  simp only [tupD, PyData.canLay0, PyData.strOk]
  exact h
theorem Sm.tup {names : List Str} {s : Sm} (n : Names names) (h : s.Ok names) : tupD s.D = true := by
  have h1 : tupAll (s.ts.map tD) = true := tupAll_iff.mpr fun d hd => by
    obtain ⟨t, ht, rfl⟩ := List.mem_map.mp hd
    exact tD_tup (n _ (h.nz t ht).2).tup
  have h0 : tupD (.str "sum") = true := by decide +kernel
  simp only [Sm.D, tupD, tupAll] at h0 h1 ⊢
  rw [h0, h1]
  rfl
theorem Sm.depth (s : Sm) : s.D.depth ≤ 3 := by
  have h1 : PyData.depthAll (s.ts.map tD) ≤ 1 := depthAll_le fun d hd => by
    obtain ⟨t, ht, rfl⟩ := List.mem_map.mp hd
    rw [tD_depth]
    exact Nat.le_refl _
  simp only [Sm.D, PyData.depth, PyData.depthAll]
  omega
theorem pairWords_tup {w : Str} (h : w ∈ pairWords) : tupD (.str w) = true := by
  simp only [pairWords, List.mem_cons, List.not_mem_nil, or_false] at h
  rcases h with rfl | rfl | rfl | rfl | rfl <;> decide +kernel
theorem Ex.tup {names : List Str} {e : Ex} (n : Names names) (h : e.Ok names) : tupD e.D = true := by
  cases e with
  | sum s => exact Sm.tup n h
  | read => decide +kernel
  | two w a b =>
    obtain ⟨h1, h2, h3⟩ := h
    simp only [Ex.D]
    rw [tupD, tupAll, tupAll, tupAll, tupAll, pairWords_tup h1, Sm.tup n h2, Sm.tup n h3]
    rfl
theorem Ex.depth (e : Ex) : e.D.depth ≤ 4 := by
  cases e with
  | sum s => exact Nat.le_trans s.depth (by decide)
  | read => simp [Ex.D, PyData.depth, PyData.depthAll]
  | two w a b =>
    have h1 := a.depth
    have h2 := b.depth
    simp only [Ex.D, PyData.depth, PyData.depthAll]
    omega
theorem sLt_irrefl (x : Str) : ¬ sLt x x := fun h => (List.lt_irrefl _ : ¬ x.cps.toList < x.cps.toList) h
theorem sLt_trans {x y z : Str} (h : sLt x y) (h' : sLt y z) : sLt x z := List.lt_trans h h'
theorem asc_nodup {xs : List Str} (h : xs.Pairwise sLt) : xs.Nodup := h.imp fun {a b} l e => by
  subst e
  exact sLt_irrefl _ l
end Pg
namespace Sp1
open PySem PySem.Spec PyProof.Rows L2 Pg
section
variable {P : Program} {w : World} {K : PySem.W.Frag} {mg : Str → Option Value} {base : Heap}
def sp_is_integer : Sp := fun vs H Q _ => ∃ i, vs = [.int i] ∧ Q (.bl true) H
theorem ok_is_integer (T : PgF K mg) : FnOk P w K mg base CX0 1 T.f_is_integer T.fd_is_integer ["value"] sp_is_integer := by
  refine T.D_is_integer.F.ok sc_is_integer (fun vs H Q E h => ?_) (fun cdv A outer s H vs Q E hr h => ?_)
  · obtain ⟨i, rfl, _⟩ := h
    rfl
  · obtain ⟨i, rfl, q⟩ := h
    refine ⟨_, (pss_one (ps_ret (pe_and (pe_callB call_isi (by rfl) T.m_isinstance (by decide +kernel) (pa_cons (pv 0) (pa_cons (pe_ty (n := "int") (by rfl) T.m_int (by decide +kernel)) pa_nil))) (pe_one (pe_not (pe_callB call_isi (by rfl) T.m_isinstance (by decide +kernel) (pa_cons (pv 0) (pa_cons (pe_ty (n := "bool") (by rfl) T.m_bool (by decide +kernel)) pa_nil)))))))), ?_⟩
    refine ⟨_, rfl, .int i, .ty "int", _, _, true, rfl, .ty _, .base (.int i), kit_ty (by decide +kernel), true, rfl, iteT ?_⟩
    exact ⟨_, rfl, .int i, .ty "bool", _, _, false, rfl, .ty _, .base (.int i), kit_ty (by decide +kernel), false, rfl, q⟩
def sp_is_short : Sp := fun vs H Q _ => ∃ i : Int, vs = [.int i] ∧ -great < i ∧ i < great ∧ Q (.bl true) H
theorem ok_is_short (T : PgF K mg) : FnOk P w K mg base CX0 2 T.f_is_short T.fd_is_short ["value"] sp_is_short := by
  refine T.D_is_short.F.ok sc_is_short (fun vs H Q E h => ?_) (fun cdv A outer s H vs Q E hr h => ?_)
  · obtain ⟨i, rfl, _⟩ := h
    rfl
  · obtain ⟨i, rfl, h1, h2, q⟩ := h
    refine ⟨_, (pss_one (ps_ret (pe_and (pe_call ((ok_is_integer T).mono (by decide)) hr (by rfl) T.D_is_integer.g T.D_is_integer.kp T.D_is_integer.b .nil pass0 (pa_cons (pv 0) pa_nil)) (pe_one (pe_chain op_lt op_lt (pe_un un_neg (pe_glob (v := .int Pg.great) rfl T.c_SHORT_BOUND ⟨_, rfl⟩)) (pv 0) (pe_glob (v := .int Pg.great) rfl T.c_SHORT_BOUND ⟨_, rfl⟩) ))))), ?_⟩
    refine ⟨_, rfl, i, rfl, true, rfl, iteT ?_⟩
    refine ⟨_, rfl, _, rfl, _, _, rfl, rfl, _, rfl, ?_⟩
    rw [decide_eq_true h1]
    refine iteT ⟨_, _, rfl, rfl, ?_⟩
    show Q (.bl (decide (i < great))) H
    rw [decide_eq_true h2]
    exact q
def sp_common_divisor : Sp := fun vs H Q _ => ∃ (g : Addr) (u : List Int), vs = [.ref g] ∧ H g = some (.lst (u.map V.int)) ∧ gcdL u = 1 ∧ Q (.int 1) H
theorem ok_common_divisor (T : PgF K mg) : FnOk P w K mg base CX0 1 T.f_common_divisor T.fd_common_divisor ["numbers"] sp_common_divisor := by
  refine T.D_common_divisor.F.ok sc_common_divisor (fun vs H Q E h => ?_) (fun cdv A outer s H vs Q E hr h => ?_)
  · obtain ⟨g, u, rfl, _⟩ := h
    rfl
  · obtain ⟨g, u, rfl, hg, h1, q⟩ := h
    have nd := sc_common_divisor.nd
    refine ⟨_, (pss_cons (ps_set (i := 1) nd rfl (.inl rfl) pe_int)
      (pss_cons (ps_for PassesOwn.never rfl (pi_list (pv 0)) (pg_name (i := 2) nd rfl (.inl rfl))
      (pss_cons (ps_set (i := 1) nd rfl (.inl rfl) (pe_callBfun cr_gcd (by rfl) T.m_gcd (pa_cons (pv 1) (pa_cons (pv 2) pa_nil))))
        (pss_one (ps_if (pt_cmpR op_eq (pv 1) pe_int (nomark _))
        (pss_one (ps_ret pe_int))
        pss_nil))))
      (pss_one (ps_ret (pv 1))))), ?_⟩
    refine ⟨_, rfl, g, rfl, ⟨_, SqL.of hg⟩, for_list (K := K) (a := g) (xs := u.map V.int) (fun i σ H' => H' = H ∧ ∃ y, σ = [some (.ref g), some (.int (gcdL (u.take i) : Nat)), y])
      ⟨rfl, none, rfl⟩ (fun i σ H' _ h => by rw [h.1]; exact SqL.of hg) ?_ ?_⟩
    · rintro i x σ H' hx ⟨rfl, y, rfl⟩
      obtain ⟨hi, rfl⟩ := int_of hx
      refine ⟨_, rfl, _, rfl, _, _, rfl, ?_⟩
      refine ⟨_, rfl, rfl, _, rfl, ite2 (fun e => q) fun _ => ⟨rfl, some (.int u[i]), ?_⟩⟩
      rw [gcdL_take hi]
      rfl
    · rintro σ H' ⟨rfl, y, rfl⟩
      refine ⟨_, rfl, ?_⟩
      rw [List.length_map, List.take_length, h1]
      exact q
def sp_is_name : Sp := fun vs H Q _ => ∃ x : Str, vs = [.str x] ∧ Nm x ∧ ∀ H', Same H H' → Q (.bl true) H'
theorem ok_is_name (T : PgF K mg) : FnOk P w K mg base CX0 1 T.f_is_name T.fd_is_name ["candidate"] sp_is_name := by
  refine T.D_is_name.F.ok sc_is_name (fun vs H Q E h => ?_) (fun cdv A outer s H vs Q E hr h => ?_)
  · obtain ⟨x, rfl, _⟩ := h
    rfl
  · obtain ⟨x, rfl, n, q⟩ := h
    have nd := sc_is_name.nd
    refine ⟨_, (pss_cons (ps_if (PW.pt (pw_or (pt_not (pt_val (pe_callB call_isi (by rfl) T.m_isinstance (by decide +kernel) (pa_cons (pv 0) (pa_cons (pe_ty (n := "str") (by rfl) T.m_str (by decide +kernel)) pa_nil))))) (pw_or1 (pt_not (pt_chain op_le op_le pe_int (pe_callB call_len_str (by rfl) T.m_len PySem.boot_len (pa_cons (pv 0) pa_nil)) (pe_glob (v := .int 8) rfl T.c_MAX_LETTERS ⟨_, rfl⟩) )))))
      (pss_one (ps_ret pe_bl))
      pss_nil)
      (pss_one (ps_ret (pe_and (pe_callB (cr_all rfl) (by rfl) T.m_all (by decide +kernel) (pa_cons (pe_lc (own := [("letter", 1)]) (g := (gName 1)) (tt := tYes) rfl nd (pi_str (pv 0)) (blkOk_by (N := N_is_name) (sc := defScope s_is_name) (by decide +kernel)) (fun _ _ _ _ _ => (pg_name (i := 1) nd rfl (.inl rfl))) (fun _ _ _ _ _ => pts_nil) (fun _ _ _ _ _ => (pe_chain op_le_str op_le_str pe_str (pv 1) pe_str ))) pa_nil)) (pe_one (pe_cmpR op_notIn_seq (pv 0) (pe_glob (v := .ref T.a_WORDS) rfl T.g_WORDS rfl) (by with_unfolding_all rfl))))))), ?_⟩
    have l1 := n.l1
    have l8 := n.l8
    refine ⟨_, rfl, .str x, .ty "str", _, _, true, rfl, .ty _, .base (.str x), kit_ty (by decide +kernel), true, rfl, iteF ?_⟩
    refine ⟨_, rfl, x, rfl, by rw [sizeLine_eq]; omega, _, _, rfl, rfl, _, rfl, ?_⟩
    rw [decide_eq_true (by omega)]
    refine iteT ⟨_, _, rfl, rfl, _, rfl, ?_⟩
    rw [decide_eq_true (by omega)]
    refine iteF ?_
    refine ⟨_, rfl, x, rfl, fun D nD => ?_⟩
    refine lc_it (walk_str (z := x)) (Acc H D fun _ => V.bl true) (Acc.start nD) (fun _ _ _ _ => trivial) ?_ ?_
    · rintro i v H1 H2 hi h ⟨rfl, c, hc, rfl⟩
      have hm := n.ch c (by
        have := Array.getElem?_eq_some_iff.mp hc
        obtain ⟨hlt, e⟩ := this
        rw [← e]
        simp)
      refine ⟨rfl, ?_⟩
      dsimp only [tYes]
      refine iteT ?_
      have hx : x.cps.size = x.length := rfl
      refine ⟨_, rfl, _, _, rfl, rfl, _, rfl, ?_⟩
      rw [show (!decide ((⟨#[c]⟩ : Str).cps.toList < ((("a" : String) : Str)).cps.toList)) = true from by
        have e : ((("a" : String) : Str)).cps.toList = [97] := by decide +kernel
        rw [e, Bool.not_eq_true', decide_eq_false_iff_not]
        show ¬ [c] < [97]
        intro z
        cases z with
        | rel z => omega
        | cons z => cases z]
      refine iteT ⟨_, _, rfl, rfl, ?_⟩
      refine h.turn nD (Same.refl _) (by omega) ?_
      have e : ((("z" : String) : Str)).cps.toList = [122] := by decide +kernel
      rw [e]
      refine congrArg V.bl ?_
      rw [Bool.not_eq_true', decide_eq_false_iff_not]
      show ¬ [122] < [c]
      intro z
      cases z with
      | rel z => omega
      | cons z => cases z
    · rintro H1 h
      refine ⟨D, _, rfl, SqL.of (acc_true h), ?_⟩
      rw [all_true]
      refine ⟨true, rfl, iteT ?_⟩
      refine ⟨_, rfl, T.a_WORDS, _, rfl, .inr (T.w_WORDS _), rfl, flat_strs _, ?_⟩
      rw [inV_strs, decide_eq_false n.nw]
      exact q _ h.1
def sp_are_names (K : PySem.W.Frag) : Sp := fun vs H Q _ => ∃ v xs, vs = [v] ∧ Ts K H v xs ∧ Names xs ∧ xs.Nodup ∧ xs.length ≤ 100 ∧ ∀ H', Same H H' → Q (.bl true) H'
theorem ok_are_names (T : PgF K mg) : FnOk P w K mg base CX0 2 T.f_are_names T.fd_are_names ["candidate"] (sp_are_names K) := by
  refine T.D_are_names.F.ok sc_are_names (fun vs H Q E h => ?_) (fun cdv A outer s H vs Q E hr h => ?_)
  · obtain ⟨v, xs, rfl, _⟩ := h
    rfl
  · obtain ⟨v, xs, rfl, ⟨a, rfl, hS⟩, n, hnd, h100, q⟩ := h
    have nd := sc_are_names.nd
    refine ⟨_, (pss_cons (ps_if (PW.pt (pw_or (pt_not (pt_val (pe_callB call_isi (by rfl) T.m_isinstance (by decide +kernel) (pa_cons (pv 0) (pa_cons (pe_ty (n := "tuple") (by rfl) T.m_tuple (by decide +kernel)) pa_nil))))) (pw_or1 (pt_not (pt_val (pe_callB (cr_all rfl) (by rfl) T.m_all (by decide +kernel) (pa_cons (pe_lc (own := [("name", 1)]) (g := (gName 1)) (tt := tYes) rfl nd (pi_tup (pv 0)) (blkOk_by (N := N_are_names) (sc := defScope s_are_names) (by decide +kernel)) (fun _ _ _ _ _ => (pg_name (i := 1) nd rfl (.inl rfl))) (fun _ _ _ _ _ => pts_nil) (fun _ _ _ _ _ => (pe_call ((ok_is_name T).mono (by decide)) hr (by rfl) T.D_is_name.g T.D_is_name.kp T.D_is_name.b .nil pass0 (pa_cons (pv 1) pa_nil)))) pa_nil)))))))
      (pss_one (ps_ret pe_bl))
      pss_nil)
      (pss_one (ps_ret (pe_cmpR op_eq (pe_callB cr_lenT (by rfl) T.m_len PySem.boot_len (pa_cons (pe_callTy (cr_setT rfl) (by rfl) T.m_set (by decide +kernel) (pa_cons (pv 0) pa_nil)) pa_nil)) (pe_callB call_len_seq (by rfl) T.m_len PySem.boot_len (pa_cons (pv 0) pa_nil)) (nomark _))))), ?_⟩
    refine ⟨_, rfl, .ref a, .ty "tuple", _, _, true, rfl, .ty _, tyx_tupS hS, kit_ty (by decide +kernel), true, rfl, iteF ?_⟩
    refine ⟨_, rfl, a, rfl, ⟨_, hS⟩, fun D nD => ?_⟩
    refine lc_it (walk_tup (K := K) (a := a) (xs := xs.map V.str)) (Acc H D fun _ => V.bl true) (Acc.start nD) (fun i H' _ h => Same.sqt h.1 hS) ?_ ?_
    · rintro i v H1 H2 hi h ⟨rfl, hv⟩
      rw [List.getElem?_map] at hv
      obtain ⟨x, hx, rfl⟩ := Option.map_eq_some_iff.mp hv
      refine ⟨rfl, ?_⟩
      dsimp only [tYes]
      refine iteT ?_
      refine ⟨_, rfl, x, rfl, n x (List.mem_of_getElem? hx), fun H3 s3 => ?_⟩
      rw [List.length_map] at hi
      exact h.turn nD s3 (by omega) rfl
    · rintro H1 h
      refine ⟨D, _, rfl, SqL.of (acc_true h), true, by rw [all_true], iteF ?_⟩
      refine ⟨_, rfl, a, xs, rfl, .inr (Same.sqt h.1 hS), hnd, by omega, fun S ys nS hp => ?_⟩
      refine ⟨S, ys, rfl, upd_same, ?_⟩
      refine ⟨_, rfl, a, _, rfl, .inr (Same.sqt (h.1.trans (same_new nS)) hS), rfl, ?_⟩
      rw [List.length_map, hp.length_eq, decide_eq_true rfl]
      exact q _ (h.1.trans (same_new nS))
def sp_is_term (K : PySem.W.Frag) : Sp := fun vs H Q _ => ∃ v nv t names, vs = [v, nv] ∧ Dp K H v (tD t) ∧ Tl K H nv names ∧ t.1 ≠ 0 ∧ t.2 ∈ names ∧ Q (.bl true) H
theorem ok_is_term (T : PgF K mg) : FnOk P w K mg base CX0 2 T.f_is_term T.fd_is_term ["candidate", "names"] (sp_is_term K) := by
  refine T.D_is_term.F.ok sc_is_term (fun vs H Q E h => ?_) (fun cdv A outer s H vs Q E hr h => ?_)
  · obtain ⟨v, nv, t, names, rfl, _⟩ := h
    rfl
  · obtain ⟨v, nv, t, names, rfl, hd, ⟨na, rfl, hn⟩, h0, hm, q⟩ := h
    have nd := sc_is_term.nd
    obtain ⟨a, ys, rfl, hS, hA⟩ := dp_tup hd
    obtain ⟨v1, ys1, rfl, h1, hA1⟩ : ∃ v1 r, ys = v1 :: r ∧ Dp K H v1 (.int t.1) ∧ DpAll K H r [.str t.2] := by cases hA with | cons x y => exact ⟨_, _, rfl, x, y⟩
    obtain ⟨v2, rfl, h2⟩ : ∃ v2, ys1 = [v2] ∧ Dp K H v2 (.str t.2) := by
      cases hA1 with
      | cons x y => cases y; exact ⟨_, rfl, x⟩
    obtain rfl := dp_int h1
    obtain rfl := dp_str h2
    refine ⟨_, (pss_cons (ps_if (PW.pt (pw_or (pt_not (pt_val (pe_callB call_isi (by rfl) T.m_isinstance (by decide +kernel) (pa_cons (pv 0) (pa_cons (pe_ty (n := "tuple") (by rfl) T.m_tuple (by decide +kernel)) pa_nil))))) (pw_or1 (pt_cmpR op_ne (pe_callB call_len_seq (by rfl) T.m_len PySem.boot_len (pa_cons (pv 0) pa_nil)) pe_int (nomark _)))))
      (pss_one (ps_ret pe_bl))
      pss_nil)
      (pss_cons (ps_asg (pv 0) (pg_tup rfl (pgs_cons (pg_name (i := 2) nd rfl (.inl rfl)) (pgs_cons (pg_name (i := 3) nd rfl (.inl rfl)) pgs_nil))))
      (pss_one (ps_ret (pe_and (pe_call ((ok_is_integer T).mono (by decide)) hr (by rfl) T.D_is_integer.g T.D_is_integer.kp T.D_is_integer.b .nil pass0 (pa_cons (pv 2) pa_nil)) (pe_and (pe_cmpR op_ne (pv 2) pe_int (nomark _)) (pe_one (pe_cmpR op_in_seq (pv 3) (pv 1) (by with_unfolding_all rfl))))))))), ?_⟩
    refine ⟨_, rfl, .ref a, .ty "tuple", _, _, true, rfl, .ty _, tyx_tupS hS, kit_ty (by decide +kernel), true, rfl, iteF ?_⟩
    refine ⟨_, rfl, a, _, rfl, .inr hS, rfl, _, rfl, iteNS rfl ?_⟩
    refine ⟨_, rfl, a, _, rfl, hS, rfl, _, _, rfl, _, _, rfl, rfl, ?_⟩
    refine ⟨_, rfl, t.1, rfl, true, rfl, iteT ?_⟩
    refine ⟨_, rfl, rfl, true, ?_, iteT ?_⟩
    · rw [decide_eq_false fun z => h0 (V.int.inj z)]
      rfl
    · refine ⟨_, rfl, _, rfl, na, _, rfl, hn, rfl, flat_strs _, ?_⟩
      rw [inV_strs, decide_eq_true hm]
      exact q
end
end Sp1

set_option Elab.async false
set_option linter.all false
set_option maxRecDepth 100000
set_option maxHeartbeats 4000000
namespace Pg
open PySem PySem.Spec PyProof.Rows
theorem sLt_iff {a b : Str} : sLt a b ↔ ltCps a.cps.toList b.cps.toList = true := by
  rw [ltCps_eq, decide_eq_true_eq]
  exact Iff.rfl
theorem rising_pw : ∀ (p : Str) (l : List Str), risingS p l = true → (p :: l).Pairwise (fun a b => ¬ sLt b a)
  | p, [], _ => List.pairwise_singleton _ _
  | p, x :: r, h => by
    have h : (!ltCps x.cps.toList p.cps.toList && risingS x r) = true := h
    rw [Bool.and_eq_true, Bool.not_eq_true'] at h
    have hx : ¬ sLt x p := fun z => by rw [sLt_iff.mp z] at h; exact absurd h.1 (by decide)
    have ih := rising_pw x r h.2
    refine List.pairwise_cons.mpr ⟨fun b hb => ?_, ih⟩
    rcases List.mem_cons.mp hb with rfl | hb
    · exact hx
    · have h2 := (List.pairwise_cons.mp ih).1 b hb
      intro z
      have h1 : ¬ x.cps.toList < p.cps.toList := hx
      have h2 : ¬ b.cps.toList < x.cps.toList := h2
      have z : b.cps.toList < p.cps.toList := z
      have a1 : p.cps.toList ≤ x.cps.toList := List.not_lt.mp h1
      have a2 : x.cps.toList ≤ b.cps.toList := List.not_lt.mp h2
      exact absurd z (List.not_lt.mpr (List.le_trans a1 a2))
theorem str_ext {a b : Str} (h : a.cps.toList = b.cps.toList) : a = b := by
  cases a
  cases b
  congr 1
  exact Array.toList_inj.mp h
theorem sLt_tri {a b : Str} (h1 : ¬ sLt a b) (h2 : ¬ sLt b a) : a = b := str_ext (List.le_antisymm (List.not_lt.mp h2) (List.not_lt.mp h1))
/-- what is sorted and holds the same texts is the same -/
theorem sorted_eq {xs ys : List Str} (h : xs.Pairwise sLt) (p : ys.Perm xs) (s : sortedS ys = true) : ys = xs := by
  have hy : ys.Pairwise (fun a b => ¬ sLt b a) := by
    cases ys with
    | nil => exact List.Pairwise.nil
    | cons y r => exact rising_pw y r s
  have hx : xs.Pairwise (fun a b => ¬ sLt b a) := h.imp fun {a b} l z => sLt_irrefl _ (sLt_trans l z)
  exact p.eq_of_pairwise (fun a b _ _ ha hb => sLt_tri hb ha) hy hx
end Pg
namespace Sp1
open PySem PySem.Spec PyProof.Rows L2 Pg
theorem range_get (xs : List V) : (List.range xs.length).map (fun i => (xs[i]?).getD .non) = xs := by
  apply List.ext_getElem
  · simp
  · intro i h1 h2
    simp [List.getElem?_eq_getElem h2]
/-- a comprehension's list holds xs -/
theorem acc_get {H H' : Hp} {D : Addr} {xs : List V} {n : Nat} (h : Acc H D (fun i => (xs[i]?).getD .non) n H') (e : n = xs.length) : H' D = some (.lst xs) := by
  rw [h.2, e, range_get]
section
variable {P : Program} {w : World} {K : PySem.W.Frag} {mg : Str → Option Value} {base : Heap}
theorem dp_tD {H : Hp} {v : V} {t : Int × Str} (h : Dp K H v (tD t)) : ∃ a, v = .ref a ∧ SqT K H a [.int t.1, .str t.2] := by
  obtain ⟨a, ys, rfl, hS, hA⟩ := dp_tup h
  obtain ⟨v1, ys1, rfl, h1, hA1⟩ : ∃ v1 r, ys = v1 :: r ∧ Dp K H v1 (.int t.1) ∧ DpAll K H r [.str t.2] := by cases hA with | cons x y => exact ⟨_, _, rfl, x, y⟩
  obtain ⟨v2, rfl, h2⟩ : ∃ v2, ys1 = [v2] ∧ Dp K H v2 (.str t.2) := by
    cases hA1 with
    | cons x y => cases y; exact ⟨_, rfl, x⟩
  obtain rfl := dp_int h1
  obtain rfl := dp_str h2
  exact ⟨a, rfl, hS⟩
theorem tts_tup {ts : List (Int × Str)} (h : ∀ t ∈ ts, tupD (.str t.2) = true) : tupD (.tuple (ts.map tD)) = true := by
  show tupAll (ts.map tD) = true
  exact tupAll_iff.mpr fun d hd => by
    obtain ⟨t, ht, rfl⟩ := List.mem_map.mp hd
    exact tD_tup (h t ht)
theorem shaped_strs {xs : List Str} (h : ∀ x ∈ xs, tupD (.str x) = true) : SeqAt.shaped (.list (xs.map sD)) = true := shaped_list (fun d hd => by
    obtain ⟨x, hx, rfl⟩ := List.mem_map.mp hd
    exact h x hx) (fun d hd => by
    obtain ⟨x, hx, rfl⟩ := List.mem_map.mp hd
    exact Nat.zero_le _)
def sp_are_terms (K : PySem.W.Frag) : Sp := fun vs H Q _ => ∃ (v nv : V) (ts : List (Int × Str)) (names : List Str), vs = [v, nv] ∧ Dp K H v (.tuple (ts.map tD)) ∧ Tl K H nv names ∧ (∀ t ∈ ts, t.1 ≠ 0 ∧ t.2 ∈ names) ∧ (∀ t ∈ ts, tupD (.str t.2) = true) ∧ (ts.map (·.2)).Pairwise sLt ∧ ts.length ≤ 60 ∧ ∀ H', Same H H' → Q (.bl true) H'
theorem ok_are_terms (T : PgF K mg) : FnOk P w K mg base CX0 3 T.f_are_terms T.fd_are_terms ["candidate", "names"] (sp_are_terms K) := by
  refine T.D_are_terms.F.ok sc_are_terms (fun vs H Q E h => ?_) (fun cdv A outer s H vs Q E hr h => ?_)
  · obtain ⟨v, nv, t, names, rfl, _⟩ := h
    rfl
  · obtain ⟨v, nv, ts, names, rfl, hd, hn, h0, ht, asc, h60, q⟩ := h
    have nd := sc_are_terms.nd
    have hd0 := hd
    have tt := tts_tup ht
    obtain ⟨a, ys, rfl, hS, hA⟩ := dp_tup hd
    have yl : ys.length = ts.length := by rw [dpAll_len hA, List.length_map]
    refine ⟨_, (pss_cons (ps_if (PW.pt (pw_or (pt_not (pt_val (pe_callB call_isi (by rfl) T.m_isinstance (by decide +kernel) (pa_cons (pv 0) (pa_cons (pe_ty (n := "tuple") (by rfl) T.m_tuple (by decide +kernel)) pa_nil))))) (pw_or1 (pt_not (pt_val (pe_callB (cr_all rfl) (by rfl) T.m_all (by decide +kernel) (pa_cons (pe_lc (own := [("term", 3)]) (g := (gName 3)) (tt := tYes) rfl nd (pi_tup (pv 0)) (blkOk_by (N := N_are_terms) (sc := defScope s_are_terms) (by decide +kernel)) (fun _ _ _ _ _ => (pg_name (i := 3) nd rfl (.inl rfl))) (fun _ _ _ _ _ => pts_nil) (fun _ _ _ _ _ => (pe_call ((ok_is_term T).mono (by decide)) hr (by rfl) T.D_is_term.g T.D_is_term.kp T.D_is_term.b .nil pass0 (pa_cons (pv 3) (pa_cons (pv 1) pa_nil))))) pa_nil)))))))
      (pss_one (ps_ret pe_bl))
      pss_nil)
      (pss_cons (ps_setLc (i := 2) (own := [("_", 4), ("name", 5)]) (g := (gTup K 2 (gCons (gName 4) (gCons (gName 5) gNil)))) (tt := tYes) rfl nd rfl rfl (sw_true rfl rfl rfl (by decide +kernel)) (pi_tup (pv 0)) (blkOk_by (N := N_are_terms) (sc := defScope s_are_terms) (by decide +kernel)) (fun _ _ _ _ _ => (pg_tup rfl (pgs_cons (pg_name (i := 4) nd rfl (.inl rfl)) (pgs_cons (pg_name (i := 5) nd rfl (.inl rfl)) pgs_nil)))) (fun _ _ _ _ _ => pts_nil) (fun _ _ _ _ _ => (pv 5)))
      (pss_one (ps_ret (pe_cmpR (op_eqD hr.units) (pv 2) (pe_callB (cr_sortedT2 rfl) (by rfl) T.m_sorted (by decide +kernel) (pa_cons (pe_callTy (cr_setT rfl) (by rfl) T.m_set (by decide +kernel) (pa_cons (pv 2) pa_nil)) pa_nil)) (nomark _)))))), ?_⟩
    refine ⟨_, rfl, .ref a, .ty "tuple", _, _, true, rfl, .ty _, tyx_tupS hS, kit_ty (by decide +kernel), true, rfl, iteF ?_⟩
    refine ⟨_, rfl, a, rfl, ⟨_, hS⟩, fun D nD => ?_⟩
    refine lc_it (walk_tup (K := K) (a := a) (xs := ys)) (Acc H D fun _ => V.bl true) (Acc.start nD) (fun i H' _ h => Same.sqt h.1 hS) ?_ ?_
    · rintro i v H1 H2 hi h ⟨rfl, hv⟩
      obtain ⟨d, hd, hdp⟩ := dpAll_at hA hv
      rw [List.getElem?_map] at hd
      obtain ⟨t, ht', rfl⟩ := Option.map_eq_some_iff.mp hd
      have hm := List.mem_of_getElem? ht'
      refine ⟨rfl, ?_⟩
      dsimp only [tYes]
      refine iteT ?_
      refine ⟨_, rfl, _, rfl, _, nv, t, names, rfl, dp_keep (Same.tk h.1) hdp (tD_tup (ht t hm)), hn.same h.1, (h0 t hm).1, (h0 t hm).2, ?_⟩
      exact h.turn nD (Same.refl _) (by omega) rfl
    · rintro H1 h
      refine ⟨D, _, rfl, SqL.of (acc_true h), true, by rw [all_true], iteF ?_⟩
      refine ⟨_, rfl, a, rfl, ⟨_, Same.sqt h.1 hS⟩, fun D2 nD2 => ?_⟩
      refine lc_it (walk_tup (K := K) (a := a) (xs := ys)) (Acc H1 D2 fun i => (((ts.map (·.2)).map V.str)[i]?).getD .non) (Acc.start nD2) (fun i H' _ h' => Same.sqt (h.1.trans h'.1) hS) ?_ ?_
      · rintro i v H3 H4 hi h' ⟨rfl, hv⟩
        obtain ⟨d, hd, hdp⟩ := dpAll_at hA hv
        rw [List.getElem?_map] at hd
        obtain ⟨t, ht', rfl⟩ := Option.map_eq_some_iff.mp hd
        have hm := List.mem_of_getElem? ht'
        obtain ⟨ta, rfl, hts⟩ := dp_tD (dp_keep (Same.tk (h.1.trans h'.1)) hdp (tD_tup (ht t hm)))
        refine ⟨ta, _, rfl, hts, rfl, _, _, rfl, _, _, rfl, rfl, rfl, ?_⟩
        dsimp only [tYes]
        refine iteT ⟨_, rfl, ?_⟩
        refine h'.turn nD2 (Same.refl _) (by omega) ?_
        rw [List.getElem?_map, List.getElem?_map, ht']
        rfl
      · rintro H3 h'
        have hD2 := acc_get h' (by rw [List.length_map, List.length_map, yl])
        have hsame := h.1.trans h'.1
        refine ⟨_, rfl, _, rfl, D2, _, rfl, .inl (SqL.of hD2), asc_nodup asc, by rw [List.length_map]; omega, fun S zs nS hp => ?_⟩
        refine ⟨S, zs, rfl, upd_same, by rw [hp.length_eq, List.length_map]; omega, fun us p hu hs np => ?_⟩
        have e : us = ts.map (·.2) := sorted_eq asc (hu.trans hp) hs
        subst e
        have sh : SeqAt.shaped (.list ((ts.map (·.2)).map sD)) = true := shaped_strs fun x hx => by
          obtain ⟨t, ht1, rfl⟩ := List.mem_map.mp hx
          exact ht t ht1
        have nS' : S ≠ D2 := fun z => by rw [z] at nS; rw [hD2] at nS; cases nS
        refine ⟨.list ((ts.map (·.2)).map sD), .list ((ts.map (·.2)).map sD), .lst (SqL.of (same_new np _ _ (same_new nS _ _ hD2))) (dpAll_strs _), .lst (SqL.of upd_same) (dpAll_strs _), sh, sh, ?_⟩
        rw [eqv_same sh]
        exact q _ ((hsame.trans (same_new nS)).trans (same_new np))
end
end Sp1

set_option Elab.async false
set_option linter.all false
set_option maxRecDepth 100000
set_option maxHeartbeats 4000000
namespace Sp1
open PySem PySem.Spec PyProof.Rows L2 Pg
section
variable {P : Program} {w : World} {K : PySem.W.Frag} {mg : Str → Option Value} {base : Heap}
theorem dp_tup1 {H : Hp} {v : V} {d : PyData} (h : Dp K H v (.tuple [d])) : ∃ a x, v = .ref a ∧ SqT K H a [x] ∧ Dp K H x d := by
  obtain ⟨a, ys, rfl, hS, hA⟩ := dp_tup h
  cases hA with
  | cons x y => cases y; exact ⟨_, _, rfl, hS, x⟩
theorem dp_tup2 {H : Hp} {v : V} {d1 d2 : PyData} (h : Dp K H v (.tuple [d1, d2])) : ∃ a x1 x2, v = .ref a ∧ SqT K H a [x1, x2] ∧ Dp K H x1 d1 ∧ Dp K H x2 d2 := by
  obtain ⟨a, ys, rfl, hS, hA⟩ := dp_tup h
  cases hA with
  | cons x y => cases y with
    | cons x2 y => cases y; exact ⟨_, _, _, rfl, hS, x, x2⟩
theorem dp_tup3 {H : Hp} {v : V} {d1 d2 d3 : PyData} (h : Dp K H v (.tuple [d1, d2, d3])) : ∃ a x1 x2 x3, v = .ref a ∧ SqT K H a [x1, x2, x3] ∧ Dp K H x1 d1 ∧ Dp K H x2 d2 ∧ Dp K H x3 d3 := by
  obtain ⟨a, ys, rfl, hS, hA⟩ := dp_tup h
  cases hA with
  | cons x y => cases y with
    | cons x2 y => cases y with
      | cons x3 y => cases y; exact ⟨_, _, _, _, rfl, hS, x, x2, x3⟩
theorem dp_tup4 {H : Hp} {v : V} {d1 d2 d3 d4 : PyData} (h : Dp K H v (.tuple [d1, d2, d3, d4])) : ∃ a x1 x2 x3 x4, v = .ref a ∧ SqT K H a [x1, x2, x3, x4] ∧ Dp K H x1 d1 ∧ Dp K H x2 d2 ∧ Dp K H x3 d3 ∧ Dp K H x4 d4 := by
  obtain ⟨a, ys, rfl, hS, hA⟩ := dp_tup h
  cases hA with
  | cons x y => cases y with
    | cons x2 y => cases y with
      | cons x3 y => cases y with
        | cons x4 y => cases y; exact ⟨_, _, _, _, _, rfl, hS, x, x2, x3, x4⟩
theorem dp_sum {H : Hp} {v : V} {s : Sm} (h : Dp K H v s.D) : ∃ a vt, v = .ref a ∧ SqT K H a [.str "sum", .int s.c, vt, .int s.d] ∧ Dp K H vt (.tuple (s.ts.map tD)) := by
  obtain ⟨a, x1, x2, x3, x4, rfl, hS, h1, h2, h3, h4⟩ := dp_tup4 h
  obtain rfl := dp_str h1
  obtain rfl := dp_int h2
  obtain rfl := dp_int h4
  exact ⟨a, x3, rfl, hS, h3⟩
def sp_sum_numbers (K : PySem.W.Frag) : Sp := fun vs H Q _ => ∃ (v : V) (s : Sm), vs = [v] ∧ Dp K H v s.D ∧ tupD s.D = true ∧ s.ts.length ≤ 60 ∧ ∀ H' p, Same H H' → H p = none → H' p = some (.lst (s.nums.map V.int)) → Q (.ref p) H'
theorem ok_sum_numbers (T : PgF K mg) : FnOk P w K mg base CX0 1 T.f_sum_numbers T.fd_sum_numbers ["value"] (sp_sum_numbers K) := by
  refine T.D_sum_numbers.F.ok sc_sum_numbers (fun vs H Q E h => ?_) (fun cdv A outer s H vs Q E hr h => ?_)
  · obtain ⟨v, s, rfl, _⟩ := h
    rfl
  · obtain ⟨v, s, rfl, hd, ht, h60, q⟩ := h
    have nd := sc_sum_numbers.nd
    obtain ⟨a, vt, rfl, hS, hdt⟩ := dp_sum hd
    have htt : tupD (.tuple (s.ts.map tD)) = true := by
      simp only [Sm.D, tupD, tupAll, Bool.and_eq_true] at ht
      exact ht.2.2.1
    obtain ⟨ta, ys, rfl, hS2, hA⟩ := dp_tup hdt
    have yl : ys.length = s.ts.length := by rw [dpAll_len hA, List.length_map]
    have sm : (2 : Nat) ≤ sizeLine := by rw [sizeLine_eq]; omega
    refine ⟨_, (pss_cons (ps_asg (pv 0) (pg_tup rfl (pgs_cons (pg_name (i := 1) nd rfl (.inl rfl)) (pgs_cons (pg_name (i := 2) nd rfl (.inl rfl)) (pgs_cons (pg_name (i := 3) nd rfl (.inl rfl)) (pgs_cons (pg_name (i := 4) nd rfl (.inl rfl)) pgs_nil))))))
      (pss_one (ps_ret (pe_op op_cat (pe_lst (pa_cons (pv 2) (pa_cons (pv 4) pa_nil))) (pe_lc (own := [("factor", 5), ("_", 1)]) (g := (gTup K 2 (gCons (gName 5) (gCons (gName 1) gNil)))) (tt := tYes) rfl nd (pi_tup (pv 3)) (blkOk_by (N := N_sum_numbers) (sc := defScope s_sum_numbers) (by decide +kernel)) (fun _ _ _ _ _ => (pg_tup rfl (pgs_cons (pg_name (i := 5) nd rfl (.inl rfl)) (pgs_cons (pg_name (i := 1) nd rfl (.inl rfl)) pgs_nil)))) (fun _ _ _ _ _ => pts_nil) (fun _ _ _ _ _ => (pv 5))))))), ?_⟩
    refine ⟨_, rfl, a, _, rfl, hS, rfl, _, _, rfl, _, _, rfl, _, _, rfl, _, _, rfl, rfl, ?_⟩
    refine ⟨_, rfl, _, rfl, sm, fun p1 np1 => ?_⟩
    have s1 : Same H (upd H p1 (.lst [.int s.c, .int s.d])) := same_new np1
    refine ⟨_, rfl, ta, rfl, ⟨_, Same.sqt s1 hS2⟩, fun D nD => ?_⟩
    refine lc_it (walk_tup (K := K) (a := ta) (xs := ys)) (Acc _ D fun i => (((s.ts.map (·.1)).map V.int)[i]?).getD .non) (Acc.start nD) (fun i H' _ h' => Same.sqt (s1.trans h'.1) hS2) ?_ ?_
    · rintro i v H3 H4 hi h' ⟨rfl, hv⟩
      obtain ⟨d, hd, hdp⟩ := dpAll_at hA hv
      rw [List.getElem?_map] at hd
      obtain ⟨t, ht', rfl⟩ := Option.map_eq_some_iff.mp hd
      have hm := List.mem_of_getElem? ht'
      have htd : tupD (tD t) = true := tupAll_iff.mp (by simpa [tupD] using htt) _ (List.mem_map.mpr ⟨t, hm, rfl⟩)
      obtain ⟨pa, rfl, hts⟩ := dp_tD (dp_keep (Same.tk (s1.trans h'.1)) hdp htd)
      refine ⟨pa, _, rfl, hts, rfl, _, _, rfl, _, _, rfl, rfl, rfl, ?_⟩
      dsimp only [tYes]
      refine iteT ⟨_, rfl, ?_⟩
      refine h'.turn nD (Same.refl _) (by omega) ?_
      rw [List.getElem?_map, List.getElem?_map, ht']
      rfl
    · rintro H3 h'
      have hD := acc_get h' (by rw [List.length_map, List.length_map, yl])
      refine ⟨p1, D, _, _, rfl, rfl, h'.1 _ _ upd_same, hD, by rw [List.length_map, List.length_map, sizeLine_eq]; show 2 + _ ≤ _; omega, fun p np => ?_⟩
      have hs := (s1.trans h'.1).trans (same_new (o := .lst ([.int s.c, .int s.d] ++ (s.ts.map (·.1)).map V.int)) np)
      refine q _ p hs ((s1.trans h'.1).free np) ?_
      rw [upd_same]
      rfl
/-- a sum that is right; or a tuple of another length than four -/
def sp_is_long_sum (K : PySem.W.Frag) : Sp := fun vs H Q _ => ∃ (v nv : V) (ds : List PyData) (names : List Str), vs = [v, nv] ∧ Dp K H v (.tuple ds) ∧ Tl K H nv names ∧ Names names ∧ 
  ((∃ s : Sm, ds = [.str "sum", .int s.c, .tuple (s.ts.map tD), .int s.d] ∧ s.Ok names ∧ ∀ H', Same H H' → Q (.bl true) H') ∨ (ds.length ≠ 4 ∧ ∀ H', Same H H' → Q (.bl false) H'))
theorem ok_is_long_sum (T : PgF K mg) : FnOk P w K mg base CX0 4 T.f_is_long_sum T.fd_is_long_sum ["candidate", "names"] (sp_is_long_sum K) := by
  refine T.D_is_long_sum.F.ok sc_is_long_sum (fun vs H Q E h => ?_) (fun cdv A outer s H vs Q E hr h => ?_)
  · obtain ⟨v, nv, t, names, rfl, _⟩ := h
    rfl
  · obtain ⟨v, nv, ds, names, rfl, hd, hn, hN, h⟩ := h
    have nd := sc_is_long_sum.nd
    refine ⟨_, (pss_cons (ps_if (PW.pt (pw_or (pt_not (pt_val (pe_callB call_isi (by rfl) T.m_isinstance (by decide +kernel) (pa_cons (pv 0) (pa_cons (pe_ty (n := "tuple") (by rfl) T.m_tuple (by decide +kernel)) pa_nil))))) (pw_or (pt_cmpR op_ne (pe_callB call_len_seq (by rfl) T.m_len PySem.boot_len (pa_cons (pv 0) pa_nil)) pe_int (nomark _)) (pw_or1 (pt_cmpR op_ne (pe_ix (r := rIxT K) ix_tup (pv 0) pe_int (fun _ _ => rfl)) pe_str (nomark _))))))
      (pss_one (ps_ret pe_bl))
      pss_nil)
      (pss_cons (ps_asg (pv 0) (pg_tup rfl (pgs_cons (pg_name (i := 2) nd rfl (.inl rfl)) (pgs_cons (pg_name (i := 3) nd rfl (.inl rfl)) (pgs_cons (pg_name (i := 4) nd rfl (.inl rfl)) (pgs_cons (pg_name (i := 5) nd rfl (.inl rfl)) pgs_nil))))))
      (pss_cons (ps_if (PW.pt (pw_or (pt_not (pt_val (pe_call ((ok_is_integer T).mono (by decide)) hr (by rfl) T.D_is_integer.g T.D_is_integer.kp T.D_is_integer.b .nil pass0 (pa_cons (pv 3) pa_nil)))) (pw_or (pt_not (pt_val (pe_call ((ok_are_terms T).mono (by decide)) hr (by rfl) T.D_are_terms.g T.D_are_terms.kp T.D_are_terms.b .nil pass0 (pa_cons (pv 4) (pa_cons (pv 1) pa_nil))))) (pw_or (pt_not (pt_val (pe_call ((ok_is_integer T).mono (by decide)) hr (by rfl) T.D_is_integer.g T.D_is_integer.kp T.D_is_integer.b .nil pass0 (pa_cons (pv 5) pa_nil)))) (pw_or1 (pt_cmpR op_lt (pv 5) pe_int (nomark _)))))))
      (pss_one (ps_ret pe_bl))
      pss_nil)
      (pss_one (ps_ret (pe_cmpR op_eq (pe_call ((ok_common_divisor T).mono (by decide)) hr (by rfl) T.D_common_divisor.g T.D_common_divisor.kp T.D_common_divisor.b .nil pass0 (pa_cons (pe_call ((ok_sum_numbers T).mono (by decide)) hr (by rfl) T.D_sum_numbers.g T.D_sum_numbers.kp T.D_sum_numbers.b .nil pass0 (pa_cons (pv 0) pa_nil)) pa_nil)) pe_int (nomark _))))))), ?_⟩
    rcases h with ⟨s, rfl, ok, q⟩ | ⟨hl, q⟩
    · have ht : tupD s.D = true := Sm.tup hN ok
      have hd0 : Dp K H v s.D := hd
      have dp := ok.dp
      obtain ⟨a, vt, rfl, hS, hdt⟩ := dp_sum hd
      refine ⟨_, rfl, .ref a, .ty "tuple", _, _, true, rfl, .ty _, tyx_tupS hS, kit_ty (by decide +kernel), true, rfl, iteF ?_⟩
      refine ⟨_, rfl, a, _, rfl, .inr hS, rfl, _, rfl, iteNS rfl ?_⟩
      refine ⟨_, rfl, a, _, _, _, rfl, rfl, hS, rfl, rfl, _, rfl, iteNS rfl ?_⟩
      refine ⟨_, rfl, a, _, rfl, hS, rfl, _, _, rfl, _, _, rfl, _, _, rfl, _, _, rfl, rfl, ?_⟩
      refine ⟨_, rfl, s.c, rfl, true, rfl, iteF ?_⟩
      refine ⟨_, rfl, _, rfl, vt, nv, s.ts, names, rfl, hdt, hn, ok.nz, fun t ht => (hN _ (ok.nz t ht).2).tup, ok.asc, ok.len, fun H1 s1 => ?_⟩
      refine ⟨true, rfl, iteF ?_⟩
      refine ⟨_, rfl, s.d, rfl, true, rfl, iteF ?_⟩
      refine ⟨_, rfl, _, _, rfl, rfl, _, rfl, ?_⟩
      rw [decide_eq_false (by omega)]
      refine iteF ?_
      refine ⟨_, rfl, .ref a, s, rfl, dp_keep (Same.tk s1) hd0 ht, ht, ok.len, fun H2 p s2 np hp => ?_⟩
      refine ⟨p, s.nums, rfl, hp, ok.gcdL, ?_⟩
      exact ⟨rfl, q _ (s1.trans s2)⟩
    · obtain ⟨a, ys, rfl, hS, hA⟩ := dp_tup hd
      refine ⟨_, rfl, .ref a, .ty "tuple", _, _, true, rfl, .ty _, tyx_tupS hS, kit_ty (by decide +kernel), true, rfl, iteF ?_⟩
      refine ⟨_, rfl, a, _, rfl, .inr hS, rfl, _, rfl, ?_⟩
      rw [dpAll_len hA]
      rw [show (!decide (V.int (ds.length : Int) = V.int 4)) = true from by
        rw [Bool.not_eq_true', decide_eq_false_iff_not]
        intro z
        have := V.int.inj z
        omega]
      exact iteT (q _ (Same.refl _))
def sp_is_sum (K : PySem.W.Frag) : Sp := sp_is_long_sum K
theorem ok_is_sum (T : PgF K mg) : FnOk P w K mg base CX0 5 T.f_is_sum T.fd_is_sum ["candidate", "names"] (sp_is_sum K) := by
  refine T.D_is_sum.F.ok sc_is_sum (fun vs H Q E h => ?_) (fun cdv A outer s H vs Q E hr h => ?_)
  · obtain ⟨v, nv, t, names, rfl, _⟩ := h
    rfl
  · obtain ⟨v, nv, ds, names, rfl, hd, hn, hN, h⟩ := h
    have nd := sc_is_sum.nd
    refine ⟨_, (pss_one (ps_ret (pe_and (pe_call ((ok_is_long_sum T).mono (by decide)) hr (by rfl) T.D_is_long_sum.g T.D_is_long_sum.kp T.D_is_long_sum.b .nil pass0 (pa_cons (pv 0) (pa_cons (pv 1) pa_nil))) (pe_one (pe_callB (cr_all rfl) (by rfl) T.m_all (by decide +kernel) (pa_cons (pe_lc (own := [("number", 2)]) (g := (gName 2)) (tt := tYes) rfl nd (pi_list (pe_call ((ok_sum_numbers T).mono (by decide)) hr (by rfl) T.D_sum_numbers.g T.D_sum_numbers.kp T.D_sum_numbers.b .nil pass0 (pa_cons (pv 0) pa_nil))) (blkOk_by (N := N_is_sum) (sc := defScope s_is_sum) (by decide +kernel)) (fun _ _ _ _ _ => (pg_name (i := 2) nd rfl (.inl rfl))) (fun _ _ _ _ _ => pts_nil) (fun _ _ _ _ _ => (pe_call ((ok_is_short T).mono (by decide)) hr (by rfl) T.D_is_short.g T.D_is_short.kp T.D_is_short.b .nil pass0 (pa_cons (pv 2) pa_nil)))) pa_nil)))))), ?_⟩
    rcases h with ⟨s, rfl, ok, q⟩ | ⟨hl, q⟩
    · have ht : tupD s.D = true := Sm.tup hN ok
      have hd0 : Dp K H v s.D := hd
      refine ⟨_, rfl, _, rfl, v, nv, _, names, rfl, hd, hn, hN, .inl ⟨s, rfl, ok, fun H1 s1 => ?_⟩⟩
      refine ⟨true, rfl, iteT ?_⟩
      refine ⟨_, rfl, v, s, rfl, dp_keep (Same.tk s1) hd0 ht, ht, ok.len, fun H2 p s2 np hp => ?_⟩
      refine ⟨p, rfl, ⟨_, SqL.of hp⟩, fun D nD => ?_⟩
      have nl : s.nums.length = s.ts.length + 2 := by simp [Sm.nums]
      have sh : ∀ x ∈ s.nums, -great < x ∧ x < great := ok.sh
      have h60 := ok.len
      refine lc_it (walk_list (K := K) (a := p) (xs := s.nums.map V.int)) (Acc H2 D fun _ => V.bl true) (Acc.start nD) (fun i H' _ h => SqL.of (h.1 _ _ hp)) ?_ ?_
      · rintro i v H3 H4 hi h ⟨rfl, hv⟩
        obtain ⟨hi', rfl⟩ := int_of hv
        have := sh _ (List.getElem_mem hi')
        refine ⟨rfl, ?_⟩
        dsimp only [tYes]
        refine iteT ?_
        refine ⟨_, rfl, _, rfl, this.1, this.2, ?_⟩
        exact h.turn nD (Same.refl _) (by omega) rfl
      · rintro H3 h
        refine ⟨D, _, rfl, SqL.of (acc_true h), ?_⟩
        rw [all_true]
        exact q _ ((s1.trans s2).trans h.1)
    · refine ⟨_, rfl, _, rfl, v, nv, _, names, rfl, hd, hn, hN, .inr ⟨hl, fun H1 s1 => ?_⟩⟩
      exact ⟨false, rfl, iteF (q _ s1)⟩
end
end Sp1

set_option Elab.async false
set_option linter.all false
set_option maxRecDepth 100000
set_option maxHeartbeats 4000000
namespace Sp1
open PySem PySem.Spec PyProof.Rows L2 Pg
section
variable {P : Program} {w : World} {K : PySem.W.Frag} {mg : Str → Option Value} {base : Heap}
/-- an expression that is right -/
def sp_is_expression (K : PySem.W.Frag) : Sp := fun vs H Q _ => ∃ (v nv : V) (e : Ex) (names : List Str), vs = [v, nv] ∧ Dp K H v e.D ∧ Tl K H nv names ∧ Names names ∧ e.Ok names ∧ ∀ H', Same H H' → Q (.bl true) H'
theorem shaped_read : SeqAt.shaped (.tuple [.str "read"]) = true := by decide +kernel
theorem ok_is_expression (T : PgF K mg) : FnOk P w K mg base CX0 6 T.f_is_expression T.fd_is_expression ["candidate", "names"] (sp_is_expression K) := by
  refine T.D_is_expression.F.ok sc_is_expression (fun vs H Q E h => ?_) (fun cdv A outer s H vs Q E hr h => ?_)
  · obtain ⟨v, nv, t, names, rfl, _⟩ := h
    rfl
  · obtain ⟨v, nv, e, names, rfl, hd, hn, hN, ok, q⟩ := h
    have nd := sc_is_expression.nd
    refine ⟨_, (pss_cons (ps_if (PW.pt (pw_or (pt_val (pe_call ((ok_is_sum T).mono (by decide)) hr (by rfl) T.D_is_sum.g T.D_is_sum.kp T.D_is_sum.b .nil pass0 (pa_cons (pv 0) (pa_cons (pv 1) pa_nil)))) (pw_or1 (pt_cmpR (op_eqD hr.units) (pv 0) (pe_tup (pa_cons pe_str pa_nil)) (nomark _)))))
      (pss_one (ps_ret pe_bl))
      pss_nil)
      (pss_cons (ps_if (PW.pt (pw_or (pt_not (pt_val (pe_callB call_isi (by rfl) T.m_isinstance (by decide +kernel) (pa_cons (pv 0) (pa_cons (pe_ty (n := "tuple") (by rfl) T.m_tuple (by decide +kernel)) pa_nil))))) (pw_or (pt_cmpR op_ne (pe_callB call_len_seq (by rfl) T.m_len PySem.boot_len (pa_cons (pv 0) pa_nil)) pe_int (nomark _)) (pw_or1 (pt_cmpR op_notIn_seq (pe_ix (r := rIxT K) ix_tup (pv 0) pe_int (fun _ _ => rfl)) (pe_glob (v := .ref T.a_PAIRS) rfl T.g_PAIRS rfl) (by with_unfolding_all rfl))))))
      (pss_one (ps_ret pe_bl))
      pss_nil)
      (pss_one (ps_ret (pe_and (pe_call ((ok_is_sum T).mono (by decide)) hr (by rfl) T.D_is_sum.g T.D_is_sum.kp T.D_is_sum.b .nil pass0 (pa_cons (pe_ix (r := rIxT K) ix_tup (pv 0) pe_int (fun _ _ => rfl)) (pa_cons (pv 1) pa_nil))) (pe_one (pe_call ((ok_is_sum T).mono (by decide)) hr (by rfl) T.D_is_sum.g T.D_is_sum.kp T.D_is_sum.b .nil pass0 (pa_cons (pe_ix (r := rIxT K) ix_tup (pv 0) pe_int (fun _ _ => rfl)) (pa_cons (pv 1) pa_nil))))))))), ?_⟩
    cases e with
    | sum s =>
      refine ⟨_, rfl, _, rfl, v, nv, _, names, rfl, hd, hn, hN, .inl ⟨s, rfl, ok, fun H1 s1 => ?_⟩⟩
      exact ⟨true, rfl, iteT (q _ s1)⟩
    | read =>
      refine ⟨_, rfl, _, rfl, v, nv, _, names, rfl, hd, hn, hN, .inr ⟨by show (1 : Nat) ≠ 4; decide, fun H1 s1 => ?_⟩⟩
      refine ⟨false, rfl, iteF ?_⟩
      refine ⟨_, rfl, by rw [sizeLine_eq]; show 1 ≤ _; omega, fun p np => ?_⟩
      have s2 := s1.trans (same_new (o := .tup [.str "read"]) np)
      refine ⟨Ex.read.D, .tuple [.str "read"], dp_keep (Same.tk s2) hd (by decide +kernel), .tup (SqT.of upd_same) (.cons (.str _) .nil), shaped_read, shaped_read, true, ?_, iteT (q _ s2)⟩
      rw [show Ex.read.D = .tuple [.str "read"] from rfl, eqv_same shaped_read]
    | two w0 x y =>
      obtain ⟨hw, okx, oky⟩ := ok
      have hd0 := hd
      have ht : tupD (Ex.two w0 x y).D = true := Ex.tup hN ⟨hw, okx, oky⟩
      have hdep := Ex.depth (.two w0 x y)
      obtain ⟨a, x1, x2, x3, rfl, hS, h1, h2, h3⟩ := dp_tup3 hd
      obtain rfl := dp_str h1
      refine ⟨_, rfl, _, rfl, .ref a, nv, _, names, rfl, hd0, hn, hN, .inr ⟨by show (3 : Nat) ≠ 4; decide, fun H1 s1 => ?_⟩⟩
      refine ⟨false, rfl, iteF ?_⟩
      refine ⟨_, rfl, by rw [sizeLine_eq]; show 1 ≤ _; omega, fun p np => ?_⟩
      have s2 := s1.trans (same_new (o := .tup [.str "read"]) np)
      refine ⟨(Ex.two w0 x y).D, .tuple [.str "read"], dp_keep (Same.tk s2) hd0 ht, .tup (SqT.of upd_same) (.cons (.str _) .nil), shaped_of ht (by omega), shaped_read, false, ?_, iteF ?_⟩
      · refine congrArg V.bl ?_
        show (PyData.eqv (.str w0) (.str "read") && PyData.eqvAll [x.D, y.D] []) = false
        show (_ && false) = false
        rw [Bool.and_false]
      generalize hH : upd H1 p (.tup [.str "read"]) = H2 at s2 ⊢
      have hS2 := Same.sqt s2 hS
      refine ⟨_, rfl, .ref a, .ty "tuple", _, _, true, rfl, .ty _, tyx_tupS hS2, kit_ty (by decide +kernel), true, rfl, iteF ?_⟩
      refine ⟨_, rfl, a, _, rfl, .inr hS2, rfl, _, rfl, iteNS rfl ?_⟩
      refine ⟨_, rfl, a, _, _, _, rfl, rfl, hS2, rfl, T.a_PAIRS, _, rfl, .inr (T.w_PAIRS _), rfl, flat_strs _, _, rfl, ?_⟩
      rw [inV_strs, decide_eq_true hw]
      refine iteF ?_
      have tx : tupD x.D = true := Sm.tup hN okx
      have ty : tupD y.D = true := Sm.tup hN oky
      refine ⟨_, rfl, a, _, _, _, rfl, rfl, hS2, rfl, _, rfl, x2, nv, _, names, rfl, dp_keep (Same.tk s2) h2 tx, hn.same s2, hN, .inl ⟨x, rfl, okx, fun H3 s3 => ?_⟩⟩
      refine ⟨true, rfl, iteT ?_⟩
      have s4 := s2.trans s3
      refine ⟨_, rfl, a, _, _, _, rfl, rfl, Same.sqt s4 hS, rfl, _, rfl, x3, nv, _, names, rfl, dp_keep (Same.tk s4) h3 ty, hn.same s4, hN, .inl ⟨y, rfl, oky, fun H5 s5 => q _ (s4.trans s5)⟩⟩
end
end Sp1

set_option Elab.async false
set_option linter.all false
set_option maxRecDepth 100000
set_option maxHeartbeats 4000000
/-! a, *b = t : the first item, and a list of the others -/
namespace Sp1
open PySem PySem.Spec PyProof.Rows L2
theorem walks_drop {prog : Program} {w : World} {A : Around} {I : Addr} {fp wr : List Addr} {G : Array GenState → Array GenState → Prop} {n : Nat} {P : Nat → Value → Prop} {St : Nat → Shared → Prop}
    (W : WalksS prog w A I fp wr G (n + 1) P St) : WalksS prog w A I fp wr G n (fun i => P (i + 1)) (fun i => St (i + 1)) where
  sub := W.sub
  grefl := W.grefl
  gtrans := W.gtrans
  frame := fun i => W.frame (i + 1)
  item := fun i s Q E hi st hQ => W.item (i + 1) s Q E (by omega) st hQ
  done := W.done
  self := fun i => W.self (i + 1)
section
variable {prog : Program} {w : World} {A : Around} {E : Value → Shared → Prop} {s : Shared}
theorem unpackItems_star {t : Addr} {x : Value} {rest : List Value} {items : Array Value} {Q : List Value → Shared → Prop} (hh : A.handled = none) (ht : IsTup s.heap t items) (he : items.toList = x :: rest) (hz : items.size ≤ sizeLine)
    (hQ : ∀ (h1 : Heap) (tk : Nat), (∀ b o, s.heap.get? b = some o → h1.get? b = some o) → Q [x, .ref h1.objs.size] { s with heap := h1.push { cls := .type "list", data := .seq rest.toArray }, toks := tk }) :
    wpAny (model prog w) A (unpackItems (.ref t) 2 (some 1)) Q E s := by
  have hlt : t ≠ s.heap.objs.size := by obtain ⟨o, ho, _⟩ := ht; exact Nat.ne_of_lt (Heap.lt_size ho)
  have hsz : items.size = rest.length + 1 := by rw [← Array.length_toList, he]; rfl
  unfold unpackItems
  refine wpAny_bind ?_
  unfold notIterableAtAll
  refine wpAny_bind (wpAny_specialOf ht.typeIs slot_tuple_iter.lookup ?_)
  refine wpAny_pure ?_
  simp only [Bool.false_eq_true, if_false]
  refine wpAny_bind (wpAny_holding (iter_tuple ht ?_))
  refine wpAny_bind (wpAny_holding (draw_tuple hlt 1 0 _ _ ⟨_, Heap.get?_push_size _ rfl, rfl, rfl⟩ (ht.push _) (by omega) fun h₁ hit₁ hs₁ => ?_))
  have hall : List.take 1 (List.drop 0 items.toList) = [x] := by
    rw [he]
    rfl
  rw [hall]
  rw [if_neg (by simp)]
  have ht₁ : IsTup h₁ t items := (ht.push _).extBut hs₁.extBut hlt
  have W0 := (Walks.tuple (prog := prog) (w := w) (A := A.in1) hh s.heap.objs.size t hlt items).toS
  rw [hsz] at W0
  have W := walks_drop W0
  have hI : ∃ o, h₁.get? s.heap.objs.size = some o := by obtain ⟨o, ho, _⟩ := id hit₁; exact ⟨o, ho⟩
  have hit₁' : h₁.IsTupleIter s.heap.objs.size t 1 := hit₁
  refine wpAny_bind (wpAny_holding (wpAny_collect_iter (T := "tuple_iterator") (.inr (.inr (.inr rfl))) W (fun i s' st => ?_) ⟨hit₁, ht₁⟩ (fun b hb => ?_) (by simp) (fun s' acc hm hacc => ?_) (by omega)))
  · obtain ⟨o, ho, hc, _⟩ := st.1
    exact ⟨o, ho, hc⟩
  · rcases List.mem_cons.mp hb with rfl | hb
    · obtain ⟨o, ho⟩ := hI
      exact Heap.lt_size ho
    · rw [List.mem_singleton.mp hb]
      obtain ⟨o, ho, _⟩ := ht₁
      exact Heap.lt_size ho
  · have hal : acc.toList = rest := by
      apply List.ext_getElem?
      intro j
      have hr : rest[j]? = items[j + 1]? := by
        rw [← Array.getElem?_toList, he]
        rfl
      by_cases hj : j < acc.size
      · have h1 := hacc.2 j acc[j] (by simp [hj])
        rw [hr, h1, Array.getElem?_toList]
        simp [hj]
      · rw [Array.getElem?_toList, hr, Array.getElem?_eq_none (by omega), Array.getElem?_eq_none (by have := hacc.1; omega)]
    rw [hal]
    rw [show (2 : Nat) - 1 - 1 = 0 from rfl, if_neg (by omega), Nat.sub_zero, List.take_length, List.drop_length]
    have k : ∀ b o, s.heap.get? b = some o → s'.heap.get? b = some o := fun b o e => hm.heap b o (fun z => by
      have := List.mem_singleton.mp z
      exact absurd this (Nat.ne_of_lt (Heap.lt_size e))) (hs₁.extBut b o (Nat.ne_of_lt (Heap.lt_size e)) (Heap.get?_push_of_some _ e))
    refine wpAny_bind (wpAny_newList ?_ (by omega))
    refine wpAny_pure ?_
    rw [Moved.eq_with hm]
    exact hQ s'.heap s'.toks k
end
section
variable {X : Cx} {pos p : Pos}
/-- a, *b = t, t a tuple that is not empty -/
def gStar (K : PySem.W.Frag) (t u : TG) : TG := fun v σ H Q => ∃ a x xs, v = .ref a ∧ SqT K H a (x :: xs) ∧ ∀ p, H p = none → t x σ (upd H p (.lst xs)) fun σ' H' => u (.ref p) σ' H' Q
theorem pg_star {e f : Expr} {k : Nat} {t u : TG} (hc : X.calm = true) (h1 : PG X e t) (h2 : PG X f u)
    (hs : assignEach [e, .Starred f p] X.env = [(false, assign e X.env), (true, assign f X.env)] := by rfl) : PG X (.Tuple [e, .Starred f p] k pos) (gStar X.K t u) := by
  refine ⟨fun pins s σ H v w Q I r hw => ?_⟩
  obtain ⟨a, x, xs, rfl, hq, hw⟩ := hw
  cases r
  obtain ⟨its, rv, ht, hz⟩ := I.tuple hq
  obtain ⟨y, us, rfl, r1, r2⟩ : ∃ y us, its = y :: us ∧ RelV x y ∧ Vals xs us := by
    cases rv with
    | cons r1 r2 => exact ⟨_, _, rfl, r1, r2⟩
  have hl := r2.length
  have hz' : us.length + 1 ≤ sizeLine := by
    rw [List.length_cons] at hz
    omega
  rw [assign_Tuple]
  refine wpAny_bind (wpAny_standAt ?_)
  unfold unpack
  rw [hs]
  refine wpAny_bind (wpAny_holding (unpackItems_star (I.ok.hd hc) ht rfl (by simpa using hz') fun h1' tk kp => ?_))
  have I1 : Inv X pins σ H { s with heap := h1', toks := tk } := I.kept kp
  have np : H h1'.objs.size = none := I1.hok.fresh (Nat.le_refl _)
  have I2 : Inv X pins σ (upd H h1'.objs.size (.lst xs)) { s with heap := h1'.push { cls := .type "list", data := .seq us.toArray }, toks := tk } :=
    I1.laid (fun b o e => Heap.get?_push_of_some _ e) (Nat.le_refl _) ⟨by omega, us, 0, r2, Heap.get?_push_size _ rfl⟩
  show wpAny _ _ (assignInOrder [assign e X.env, assign f X.env] [y, .ref h1'.objs.size]) _ _ _
  refine assignInOrder_cons (thn (h1.run pins _ σ _ _ _ _ I2 r1 (hw _ np)) fun _ s1 ⟨σ1, H1, I3, q1⟩ => ?_)
  refine assignInOrder_cons (thn (h2.run pins s1 σ1 H1 _ _ _ I3 (show RelV (.ref h1'.objs.size) (.ref h1'.objs.size) from rfl) q1) fun _ s2 ⟨σ2, H2, I4, q2⟩ => ?_)
  exact assignInOrder_nil ⟨σ2, H2, I4, q2⟩
end
end Sp1

set_option Elab.async false
set_option linter.all false
set_option maxRecDepth 100000
set_option maxHeartbeats 4000000
namespace Pg
open PySem
mutual
def St.sz : St → Nat
  | .ite _ a b => 3 + blSz a + blSz b
  | .whl _ b => 3 + blSz b
  | .rep _ b => 3 + blSz b
  | _ => 1
def blSz : List St → Nat
  | [] => 0
  | s :: r => s.sz + blSz r
end
theorem St.sz_pos (s : St) : 1 ≤ s.sz := by cases s <;> simp only [St.sz] <;> omega
theorem blSz_len : ∀ b : List St, b.length ≤ blSz b
  | [] => Nat.le_refl _
  | s :: r => by
    have := blSz_len r
    have := s.sz_pos
    simp only [blSz, List.length_cons]
    omega
theorem blSz_mem {s : St} : ∀ {b : List St}, s ∈ b → s.sz ≤ blSz b
  | x :: r, h => by
    simp only [blSz]
    rcases List.mem_cons.mp h with rfl | h
    · omega
    · have := blSz_mem h
      omega
theorem tupD_tuple (ds : List PyData) : tupD (.tuple ds) = tupAll ds := by rw [tupD]
mutual
theorem St.tup {names procs : List Str} (hN : Names names) (hP : Names procs) : ∀ (n : Nat) (s : St), St.Ok names procs n s → tupD s.D = true
  | n, .set x e, h => by
    have h1 := (hN _ h.1).tup
    have h2 := Ex.tup hN h.2
    simp only [St.D]
    rw [tupD, tupAll, tupAll, tupAll, tupAll, h1, h2]
    decide +kernel
  | n, .swap x y, h => by
    have h1 := (hN _ h.1).tup
    have h2 := (hN _ h.2.1).tup
    simp only [St.D]
    rw [tupD, tupAll, tupAll, tupAll, tupAll, h1, h2]
    decide +kernel
  | n, .print e, h => by
    have h2 := Ex.tup hN h
    simp only [St.D]
    rw [tupD, tupAll, tupAll, tupAll, h2]
    decide +kernel
  | n, .call p, h => by
    have h2 := (hP _ h).tup
    simp only [St.D]
    rw [tupD, tupAll, tupAll, tupAll, h2]
    decide +kernel
  | n, .ite e a b, h => by
    obtain ⟨h1, m, _, h2, h3⟩ := h
    have h1 := Ex.tup hN h1
    have h2 := blTup hN hP m a h2
    have h3 := blTup hN hP m b h3
    simp only [St.D]
    rw [tupD, tupAll, tupAll, tupAll, tupAll, tupAll, h1, tupD_tuple, tupD_tuple, h2, h3]
    decide +kernel
  | n, .whl e b, h => by
    obtain ⟨h1, m, _, h2⟩ := h
    have h1 := Ex.tup hN h1
    have h2 := blTup hN hP m b h2
    simp only [St.D]
    rw [tupD, tupAll, tupAll, tupAll, tupAll, h1, tupD_tuple, h2]
    decide +kernel
  | n, .rep e b, h => by
    obtain ⟨h1, m, _, h2⟩ := h
    have h1 := Ex.tup hN h1
    have h2 := blTup hN hP m b h2
    simp only [St.D]
    rw [tupD, tupAll, tupAll, tupAll, tupAll, h1, tupD_tuple, h2]
    decide +kernel
theorem blTup {names procs : List Str} (hN : Names names) (hP : Names procs) : ∀ (n : Nat) (b : List St), blOk names procs n b → tupAll (blD b) = true
  | n, [], _ => by simp only [blD, tupAll]
  | n, s :: r, h => by
    simp only [blD, tupAll]
    rw [St.tup hN hP n s h.1, blTup hN hP n r h.2]
    rfl
end
theorem bD_tup {names procs : List Str} (hN : Names names) (hP : Names procs) {n : Nat} {b : List St} (h : blOk names procs n b) : tupD (bD b) = true := by
  have := blTup hN hP n b h
  rw [blD_map] at this
  unfold bD
  rw [tupD]
  exact this
end Pg
namespace Sp1
open PySem PySem.Spec PyProof.Rows L2 Pg
section
variable {P : Program} {w : World} {K : PySem.W.Frag} {mg : Str → Option Value} {base : Heap}
theorem FnOk.none {CX : CXT} {k : Nat} {f : Addr} {fd : FuncData} {ps : List Str} : FnOk P w K mg base CX k f fd ps (fun _ _ _ _ => False) := ⟨fun _ _ _ _ h => False.elim h, by intro A outer s H args us vs Q E hr e0 hb r h; exact h.elim⟩
def sp_is_writing (K : PySem.W.Frag) : Sp := fun vs H Q _ => ∃ (v nv : V) (s : Pg.St) (names : List Str), vs = [v, nv] ∧ Dp K H v s.D ∧ Tl K H nv names ∧ Names names ∧
  ((∃ x e, s = .set x e ∧ x ∈ names ∧ e.Ok names) ∨ (∃ x y, s = .swap x y ∧ x ∈ names ∧ y ∈ names ∧ y ≠ x)) ∧ ∀ H', Same H H' → Q (.bl true) H'
theorem ok_is_writing (T : PgF K mg) : FnOk P w K mg base CX0 7 T.f_is_writing T.fd_is_writing ["candidate", "names"] (sp_is_writing K) := by
  refine T.D_is_writing.F.ok sc_is_writing (fun vs H Q E h => ?_) (fun cdv A outer s H vs Q E hr h => ?_)
  · obtain ⟨v, nv, t, names, rfl, _⟩ := h
    rfl
  · obtain ⟨v, nv, s, names, rfl, hd, ⟨na, rfl, hn⟩, hN, h, q⟩ := h
    have nd := sc_is_writing.nd
    refine ⟨_, (pss_cons (ps_if (PW.pt (pw_or (pt_cmpR op_ne (pe_callB call_len_seq (by rfl) T.m_len PySem.boot_len (pa_cons (pv 0) pa_nil)) pe_int (nomark _)) (pw_or1 (pt_cmpR op_notIn_seq (pe_ix (r := rIxT K) ix_tup (pv 0) pe_int (fun _ _ => rfl)) (pv 1) (by with_unfolding_all rfl)))))
      (pss_one (ps_ret pe_bl))
      pss_nil)
      (pss_cons (ps_asg (pv 0) (pg_tup rfl (pgs_cons (pg_name (i := 2) nd rfl (.inl rfl)) (pgs_cons (pg_name (i := 3) nd rfl (.inl rfl)) (pgs_cons (pg_name (i := 4) nd rfl (.inl rfl)) pgs_nil)))))
      (pss_cons (ps_if (pt_cmpR op_eq (pv 2) pe_str (nomark _))
      (pss_one (ps_ret (pe_call ((ok_is_expression T).mono (by decide)) hr (by rfl) T.D_is_expression.g T.D_is_expression.kp T.D_is_expression.b .nil pass0 (pa_cons (pv 4) (pa_cons (pv 1) pa_nil)))))
      pss_nil)
      (pss_one (ps_ret (pe_and (pe_cmpR op_in_seq (pv 4) (pv 1) (by with_unfolding_all rfl)) (pe_one (pe_cmpR op_ne (pv 4) (pv 3) (nomark _))))))))), ?_⟩
    rcases h with ⟨x, e, rfl, hx, he⟩ | ⟨x, y, rfl, hx, hy, hne⟩
    · obtain ⟨a, x1, x2, x3, rfl, hS, h1, h2, h3⟩ := dp_tup3 hd
      obtain rfl := dp_str h1
      obtain rfl := dp_str h2
      refine ⟨_, rfl, a, _, rfl, .inr hS, rfl, _, rfl, iteNS rfl ?_⟩
      refine ⟨_, rfl, a, _, _, _, rfl, rfl, hS, rfl, _, rfl, na, _, rfl, hn, rfl, flat_strs _, _, rfl, ?_⟩
      rw [inV_strs, decide_eq_true hx]
      refine iteF ?_
      refine ⟨_, rfl, a, _, rfl, hS, rfl, _, _, rfl, _, _, rfl, _, _, rfl, rfl, ?_⟩
      refine ⟨_, rfl, rfl, _, rfl, iteT ?_⟩
      exact ⟨_, rfl, _, rfl, _, _, e, names, rfl, h3, ⟨na, rfl, hn⟩, hN, he, q⟩
    · obtain ⟨a, x1, x2, x3, rfl, hS, h1, h2, h3⟩ := dp_tup3 hd
      obtain rfl := dp_str h1
      obtain rfl := dp_str h2
      obtain rfl := dp_str h3
      refine ⟨_, rfl, a, _, rfl, .inr hS, rfl, _, rfl, iteNS rfl ?_⟩
      refine ⟨_, rfl, a, _, _, _, rfl, rfl, hS, rfl, _, rfl, na, _, rfl, hn, rfl, flat_strs _, _, rfl, ?_⟩
      rw [inV_strs, decide_eq_true hx]
      refine iteF ?_
      refine ⟨_, rfl, a, _, rfl, hS, rfl, _, _, rfl, _, _, rfl, _, _, rfl, rfl, ?_⟩
      refine ⟨_, rfl, rfl, _, rfl, iteF ?_⟩
      refine ⟨_, rfl, _, rfl, na, _, rfl, hn, rfl, flat_strs _, _, rfl, ?_⟩
      rw [inV_strs, decide_eq_true hy]
      refine iteT ⟨_, rfl, _, rfl, rfl, ?_⟩
      rw [decide_eq_false fun z => hne (V.str.inj z)]
      exact q _ (Same.refl _)
/-- the names and the procedures a block may speak of -/
structure Bx (K : PySem.W.Frag) (H : Hp) (nv qv : V) (names procs : List Str) : Prop where
  n : Tl K H nv names
  p : Tl K H qv procs
  N : Names names
  P : Names procs
theorem Bx.same {H H' : Hp} {nv qv : V} {names procs : List Str} (h : Bx K H nv qv names procs) (s : Same H H') : Bx K H' nv qv names procs := ⟨h.n.same s, h.p.same s, h.N, h.P⟩
def sp_is_block (K : PySem.W.Frag) : Nat → Sp
  | 0 => fun _ _ _ _ => False
  | n + 1 => fun vs H Q _ => ∃ (v nv qv : V) (d : Int) (b : List Pg.St) (names procs : List Str), vs = [v, nv, qv, .int d] ∧ Dp K H v (bD b) ∧ Bx K H nv qv names procs ∧ blOk names procs n b ∧ d + n ≤ 8 ∧ blSz b ≤ 1000 ∧ ∀ H', Same H H' → Q (.bl true) H'
def sp_is_statement (K : PySem.W.Frag) (n : Nat) : Sp := fun vs H Q _ => ∃ (v nv qv : V) (d : Int) (s : Pg.St) (names procs : List Str), vs = [v, nv, qv, .int d] ∧ Dp K H v s.D ∧ Bx K H nv qv names procs ∧ St.Ok names procs n s ∧ d + n ≤ 8 ∧ s.sz ≤ 1000 ∧ ∀ H', Same H H' → Q (.bl true) H'
def _root_.Pg.St.comp : Pg.St → Bool
  | .ite .. => true
  | .whl .. => true
  | .rep .. => true
  | _ => false
def sp_is_compound (K : PySem.W.Frag) (n : Nat) : Sp := fun vs H Q _ => ∃ (v nv qv : V) (d : Int) (s : Pg.St) (names procs : List Str), vs = [v, nv, qv, .int d] ∧ Dp K H v s.D ∧ Bx K H nv qv names procs ∧ St.Ok names procs n s ∧ St.comp s = true ∧ d + n ≤ 8 ∧ s.sz ≤ 1000 ∧ ∀ H', Same H H' → Q (.bl true) H'
theorem ok_is_block (T : PgF K mg) {n : Nat} (hS : FnOk P w K mg base CX0 (3 * n + 9) T.f_is_statement T.fd_is_statement ["candidate", "names", "procedures", "depth"] (sp_is_statement K n)) :
    FnOk P w K mg base CX0 (3 * n + 10) T.f_is_block T.fd_is_block ["candidate", "names", "procedures", "depth"] (sp_is_block K (n + 1)) := by
  refine T.F_is_block.ok sc_is_block (fun vs H Q E h => ?_) (fun cdv A outer s H vs Q E hr h => ?_)
  · obtain ⟨v, nv, qv, d, b, names, procs, rfl, _⟩ := h
    rfl
  · obtain ⟨v, nv, qv, d, b, names, procs, rfl, hd, hx, ok, hdn, hsz, q⟩ := h
    have nd := sc_is_block.nd
    have hl := blSz_len b
    have tt := bD_tup hx.N hx.P ok
    obtain ⟨a, ys, rfl, hS1, hA⟩ := dp_tup hd
    have yl : ys.length = b.length := by rw [dpAll_len hA, List.length_map]
    refine ⟨_, (pss_cons (ps_if (PW.pt (pw_or (pt_not (pt_val (pe_callB call_isi (by rfl) T.m_isinstance (by decide +kernel) (pa_cons (pv 0) (pa_cons (pe_ty (n := "tuple") (by rfl) T.m_tuple (by decide +kernel)) pa_nil))))) (pw_or1 (pt_cmpR op_gt (pv 3) (pe_glob (v := .int 8) rfl T.c_MAX_DEPTH ⟨_, rfl⟩) (nomark _)))))
      (pss_one (ps_ret pe_bl))
      pss_nil)
      (pss_one (ps_ret (pe_callB (cr_all rfl) (by rfl) T.m_all (by decide +kernel) (pa_cons (pe_lc (own := [("statement", 4)]) (g := (gName 4)) (tt := tYes) rfl nd (pi_tup (pv 0)) (blkOk_by (N := N_is_block) (sc := defScope s_is_block) (by decide +kernel)) (fun _ _ _ _ _ => (pg_name (i := 4) nd rfl (.inl rfl))) (fun _ _ _ _ _ => pts_nil) (fun _ _ _ _ _ => (pe_call (hS.mono (by omega)) hr (by rfl) T.D_is_statement.g T.D_is_statement.kp T.D_is_statement.b .nil pass0 (pa_cons (pv 4) (pa_cons (pv 1) (pa_cons (pv 2) (pa_cons (pv 3) pa_nil))))))) pa_nil))))), ?_⟩
    refine ⟨_, rfl, .ref a, .ty "tuple", _, _, true, rfl, .ty _, tyx_tupS hS1, kit_ty (by decide +kernel), true, rfl, iteF ?_⟩
    refine ⟨_, rfl, _, _, rfl, rfl, _, rfl, ?_⟩
    rw [decide_eq_false (by omega)]
    refine iteF ?_
    refine ⟨_, rfl, a, rfl, ⟨_, hS1⟩, fun D nD => ?_⟩
    refine lc_it (walk_tup (K := K) (a := a) (xs := ys)) (Acc H D fun _ => V.bl true) (Acc.start nD) (fun i H' _ h => Same.sqt h.1 hS1) ?_ ?_
    · rintro i v H1 H2 hi h ⟨rfl, hv⟩
      obtain ⟨d', hd', hdp⟩ := dpAll_at hA hv
      rw [List.getElem?_map] at hd'
      obtain ⟨s, hs, rfl⟩ := Option.map_eq_some_iff.mp hd'
      have hm := List.mem_of_getElem? hs
      have oks := blOk_iff.mp ok s hm
      have := blSz_mem hm
      refine ⟨rfl, ?_⟩
      dsimp only [tYes]
      refine iteT ?_
      refine ⟨_, rfl, _, rfl, _, rfl, _, rfl, _, _, _, d, s, names, procs, rfl, dp_keep (Same.tk h.1) hdp (St.tup hx.N hx.P n s oks), hx.same h.1, oks, hdn, by omega, fun H3 s3 => ?_⟩
      exact h.turn nD s3 (by omega) rfl
    · rintro H1 h
      refine ⟨D, _, rfl, SqL.of (acc_true h), ?_⟩
      rw [all_true]
      exact q _ h.1
theorem ok_is_compound (T : PgF K mg) {m : Nat} (hB : FnOk P w K mg base CX0 (3 * m + 7) T.f_is_block T.fd_is_block ["candidate", "names", "procedures", "depth"] (sp_is_block K m)) :
    FnOk P w K mg base CX0 (3 * m + 8) T.f_is_compound T.fd_is_compound ["candidate", "names", "procedures", "depth"] (sp_is_compound K m) := by
  refine T.D_is_compound.F.ok sc_is_compound (fun vs H Q E h => ?_) (fun cdv A outer s H vs Q E hr h => ?_)
  · obtain ⟨v, nv, qv, d, s, names, procs, rfl, _⟩ := h
    rfl
  · obtain ⟨v, nv, qv, d, s, names, procs, rfl, hd, hx, ok, hc, hdn, hsz, q⟩ := h
    have nd := sc_is_compound.nd
    have ht := St.tup hx.N hx.P m s ok
    refine ⟨_, (pss_cons (ps_asg (pv 0) (pg_star rfl (pg_name (i := 4) nd rfl (.inl rfl)) (pg_name (i := 5) nd rfl (.inl rfl))))
      (pss_cons (ps_if (PW.pt (pw_or (pt_cmpR op_ne (pe_callB call_len_seq (by rfl) T.m_len PySem.boot_len (pa_cons (pv 5) pa_nil)) (pe_ifExp (pt_cmpR op_eq (pv 4) pe_str (nomark _)) pe_int pe_int) (nomark _)) (pw_or1 (pt_not (pt_val (pe_call ((ok_is_expression T).mono (by omega)) hr (by rfl) T.D_is_expression.g T.D_is_expression.kp T.D_is_expression.b .nil pass0 (pa_cons (pe_ix ix_list (pv 5) pe_int (fun _ _ => rfl)) (pa_cons (pv 1) pa_nil))))))))
      (pss_one (ps_ret pe_bl))
      pss_nil)
      (pss_one (ps_ret (pe_callB (cr_all rfl) (by rfl) T.m_all (by decide +kernel) (pa_cons (pe_lc (own := [("part", 6)]) (g := (gName 6)) (tt := tYes) rfl nd (pi_list (pe_slice sl_list (pv 5) (po_some pe_int) po_none)) (blkOk_by (N := N_is_compound) (sc := defScope s_is_compound) (by decide +kernel)) (fun _ _ _ _ _ => (pg_name (i := 6) nd rfl (.inl rfl))) (fun _ _ _ _ _ => pts_nil) (fun _ _ _ _ _ => (pe_call (hB.mono (by omega)) hr (by rfl) T.g_is_block T.F_is_block.kp T.b4_is_block .nil pass0 (pa_cons (pv 6) (pa_cons (pv 1) (pa_cons (pv 2) (pa_cons (pe_op op_add (pv 3) pe_int) pa_nil))))))) pa_nil)))))), ?_⟩
    obtain ⟨wd, e, bs, hD, he, hbs, hlen⟩ : ∃ (wd : Str) (e : Ex) (bs : List (List Pg.St)), s.D = .tuple (.str wd :: e.D :: bs.map bD) ∧ e.Ok names ∧ (∀ b ∈ bs, ∃ m', m = m' + 1 ∧ blOk names procs m' b ∧ blSz b ≤ 1000) ∧ ((wd = "if" ∧ bs.length = 2) ∨ (wd ≠ "if" ∧ bs.length = 1)) := by
      cases s with
      | set x e => cases hc
      | swap x y => cases hc
      | print e => cases hc
      | call p => cases hc
      | ite e a b =>
        obtain ⟨h1, m', rfl, h2, h3⟩ := ok
        simp only [St.sz] at hsz
        refine ⟨"if", e, [a, b], by simp only [St.D, blD_map]; rfl, h1, fun c hc => ?_, .inl ⟨rfl, rfl⟩⟩
        rcases List.mem_cons.mp hc with rfl | hc
        · exact ⟨m', rfl, h2, by omega⟩
        · rw [List.mem_singleton.mp hc]
          exact ⟨m', rfl, h3, by omega⟩
      | whl e b =>
        obtain ⟨h1, m', rfl, h2⟩ := ok
        simp only [St.sz] at hsz
        refine ⟨"while", e, [b], by simp only [St.D, blD_map]; rfl, h1, fun c hc => ?_, .inr ⟨by decide +kernel, rfl⟩⟩
        rw [List.mem_singleton.mp hc]
        exact ⟨m', rfl, h2, by omega⟩
      | rep e b =>
        obtain ⟨h1, m', rfl, h2⟩ := ok
        simp only [St.sz] at hsz
        refine ⟨"repeat", e, [b], by simp only [St.D, blD_map]; rfl, h1, fun c hc => ?_, .inr ⟨by decide +kernel, rfl⟩⟩
        rw [List.mem_singleton.mp hc]
        exact ⟨m', rfl, h2, by omega⟩
    rw [hD] at hd
    obtain ⟨a, zs, rfl, hS1, hA⟩ := dp_tup hd
    obtain ⟨ve, ys, rfl, hve, hys⟩ : ∃ ve ys, zs = .str wd :: ve :: ys ∧ Dp K H ve e.D ∧ DpAll K H ys (bs.map bD) := by
      cases hA with
      | cons x y =>
        obtain rfl := dp_str x
        cases y with
        | cons x2 y => exact ⟨_, _, rfl, x2, y⟩
    have yl : ys.length = bs.length := by rw [dpAll_len hys, List.length_map]
    have l2 : bs.length ≤ 2 := by rcases hlen with ⟨_, h⟩ | ⟨_, h⟩ <;> omega
    have te : tupD e.D = true := Ex.tup hx.N he
    have tb : ∀ b ∈ bs, tupD (bD b) = true := fun b hb => by
      obtain ⟨m', _, h, _⟩ := hbs b hb
      exact bD_tup hx.N hx.P h
    refine ⟨_, rfl, a, _, _, rfl, hS1, fun p np => ?_⟩
    have s1 := same_new (o := .lst (ve :: ys)) np
    generalize hH1 : upd H p (.lst (ve :: ys)) = H1 at s1 ⊢
    have hp : H1 p = some (.lst (ve :: ys)) := by rw [← hH1]; exact upd_same
    refine ⟨_, rfl, p, _, rfl, .inl (SqL.of hp), ?_⟩
    have ew : (decide (V.str wd = V.str "if")) = decide (wd = "if") := decide_eq_decide.mpr ⟨fun z => V.str.inj z, fun z => by rw [z]⟩
    have l3 : (ve :: ys).length = bs.length + 1 := by rw [List.length_cons, yl]
    have cut : cutV (ve :: ys) (some 1) none = ys := by
      show ((ve :: ys).drop (HT.sIx (ys.length + 1) 0 (some 1))).take _ = ys
      have e1 : HT.sIx (ys.length + 1) 0 (some 1) = 1 := by
        show (HT.sIx (ys.length + 1) 0 (some 1)) = 1
        unfold HT.sIx
        simp
      rw [e1]
      simp [HT.sIx]
    refine ⟨_, rfl, rfl, _, rfl, ?_⟩
    rw [ew]
    have hl : bs.length = if wd = "if" then 2 else 1 := by
      rcases hlen with ⟨h1, h2⟩ | ⟨h1, h2⟩
      · rw [if_pos h1, h2]
      · rw [if_neg h1, h2]
    refine ite2 (fun hw => ?_) (fun hw => ?_)
    all_goals
      first
        | rw [if_pos (of_decide_eq_true hw)] at hl
        | rw [if_neg fun z => hw (decide_eq_true z)] at hl
      refine ⟨rfl, _, rfl, ?_⟩
      rw [l3, hl]
      refine iteNS rfl ?_
      refine ⟨_, rfl, p, _, _, ve, rfl, rfl, SqL.of hp, atI_nat (j := 0) rfl, _, rfl, ve, nv, _, names, rfl, dp_keep (Same.tk s1) hve te, hx.n.same s1, hx.N, he, fun H2 s2 => ?_⟩
      refine ⟨true, rfl, iteF ?_⟩
      have s12 := s1.trans s2
      refine ⟨_, rfl, ⟨_, rfl, p, _, rfl, SqL.of (s2 _ _ hp), fun p2 np2 => ?_⟩⟩
      rw [cut]
      have s3 := s12.trans (same_new (o := .lst ys) np2)
      generalize hH3 : upd H2 p2 (.lst ys) = H3 at s3 ⊢
      have hp2 : H3 p2 = some (.lst ys) := by rw [← hH3]; exact upd_same
      refine ⟨p2, rfl, ⟨_, SqL.of hp2⟩, fun D nD => ?_⟩
      refine lc_it (walk_list (K := K) (a := p2) (xs := ys)) (Acc H3 D fun _ => V.bl true) (Acc.start nD) (fun i H' _ h => SqL.of (h.1 _ _ hp2)) ?_ ?_
      · rintro i v H4 H5 hi h ⟨rfl, hv⟩
        obtain ⟨d', hd', hdp⟩ := dpAll_at hys hv
        rw [List.getElem?_map] at hd'
        obtain ⟨b, hb, rfl⟩ := Option.map_eq_some_iff.mp hd'
        have hm := List.mem_of_getElem? hb
        obtain ⟨m', rfl, okb, szb⟩ := hbs b hm
        refine ⟨rfl, ?_⟩
        dsimp only [tYes]
        refine iteT ?_
        refine ⟨_, rfl, _, rfl, _, rfl, _, rfl, _, _, rfl, rfl, _, _, _, d + 1, b, names, procs, rfl, dp_keep (Same.tk (s3.trans h.1)) hdp (tb b hm), hx.same (s3.trans h.1), okb, by omega, szb, fun H6 s6 => ?_⟩
        exact h.turn nD s6 (by omega) rfl
      · rintro H4 h
        refine ⟨D, _, rfl, SqL.of (acc_true h), ?_⟩
        rw [all_true]
        exact q _ (s3.trans h.1)
theorem ok_is_statement (T : PgF K mg) {n : Nat} (hC : FnOk P w K mg base CX0 (3 * n + 8) T.f_is_compound T.fd_is_compound ["candidate", "names", "procedures", "depth"] (sp_is_compound K n)) :
    FnOk P w K mg base CX0 (3 * n + 9) T.f_is_statement T.fd_is_statement ["candidate", "names", "procedures", "depth"] (sp_is_statement K n) := by
  refine T.D_is_statement.F.ok sc_is_statement (fun vs H Q E h => ?_) (fun cdv A outer s H vs Q E hr h => ?_)
  · obtain ⟨v, nv, qv, d, s, names, procs, rfl, _⟩ := h
    rfl
  · obtain ⟨v, nv, qv, d, s, names, procs, rfl, hd, hx, ok, hdn, hsz, q⟩ := h
    have nd := sc_is_statement.nd
    have hd0 := hd
    obtain ⟨wd, ds, hD⟩ : ∃ (wd : Str) (ds : List PyData), s.D = .tuple (.str wd :: ds) := by cases s <;> exact ⟨_, _, by simp only [St.D]; rfl⟩
    rw [hD] at hd
    obtain ⟨a, zs, rfl, hS1, hA⟩ := dp_tup hd
    obtain ⟨ys, rfl, hys⟩ : ∃ ys, zs = .str wd :: ys ∧ DpAll K H ys ds := by
      cases hA with
      | cons x y =>
        obtain rfl := dp_str x
        exact ⟨_, rfl, y⟩
    refine ⟨_, (pss_cons (ps_if (PW.pt (pw_or (pt_not (pt_val (pe_callB call_isi (by rfl) T.m_isinstance (by decide +kernel) (pa_cons (pv 0) (pa_cons (pe_ty (n := "tuple") (by rfl) T.m_tuple (by decide +kernel)) pa_nil))))) (pw_or1 (pt_not (pt_truth (pv 0) (by intro _; rfl))))))
      (pss_one (ps_ret pe_bl))
      pss_nil)
      (pss_cons (ps_set (i := 4) nd rfl (.inl rfl) (pe_ix (r := rIxT K) ix_tup (pv 0) pe_int (fun _ _ => rfl)))
      (pss_cons (ps_if (pt_cmpR op_in_seq (pv 4) (pe_glob (v := .ref T.a_COMPOUND) rfl T.g_COMPOUND rfl) (by with_unfolding_all rfl))
      (pss_one (ps_ret (pe_call (hC.mono (by omega)) hr (by rfl) T.D_is_compound.g T.D_is_compound.kp T.D_is_compound.b .nil pass0 (pa_cons (pv 0) (pa_cons (pv 1) (pa_cons (pv 2) (pa_cons (pv 3) pa_nil)))))))
      pss_nil)
      (pss_cons (ps_if (pt_cmpR op_in_seq (pv 4) (pe_tup (pa_cons pe_str (pa_cons pe_str pa_nil))) (by with_unfolding_all rfl))
      (pss_one (ps_ret (pe_call ((ok_is_writing T).mono (by omega)) hr (by rfl) T.D_is_writing.g T.D_is_writing.kp T.D_is_writing.b .nil pass0 (pa_cons (pv 0) (pa_cons (pv 1) pa_nil)))))
      pss_nil)
      (pss_cons (ps_if (pt_cmpR op_ne (pe_callB call_len_seq (by rfl) T.m_len PySem.boot_len (pa_cons (pv 0) pa_nil)) pe_int (nomark _))
      (pss_one (ps_ret pe_bl))
      pss_nil)
      (pss_cons (ps_if (pt_cmpR op_eq (pv 4) pe_str (nomark _))
      (pss_one (ps_ret (pe_call ((ok_is_expression T).mono (by omega)) hr (by rfl) T.D_is_expression.g T.D_is_expression.kp T.D_is_expression.b .nil pass0 (pa_cons (pe_ix (r := rIxT K) ix_tup (pv 0) pe_int (fun _ _ => rfl)) (pa_cons (pv 1) pa_nil)))))
      pss_nil)
      (pss_one (ps_ret (pe_and (pe_cmpR op_eq (pv 4) pe_str (nomark _)) (pe_one (pe_cmpR op_in_seq (pe_ix (r := rIxT K) ix_tup (pv 0) pe_int (fun _ _ => rfl)) (pv 2) (by with_unfolding_all rfl)))))))))))), ?_⟩
    refine ⟨_, rfl, .ref a, .ty "tuple", _, _, true, rfl, .ty _, tyx_tupS hS1, kit_ty (by decide +kernel), true, rfl, iteF ?_⟩
    refine ⟨_, rfl, true, .inr (.inl ⟨_, hS1, rfl⟩), iteF ?_⟩
    refine ⟨_, rfl, a, _, _, _, rfl, rfl, hS1, atI_nat (j := 0) rfl, ?_⟩
    refine ⟨_, rfl, T.a_COMPOUND, _, rfl, .inr (T.w_COMPOUND _), rfl, flat_strs _, _, rfl, ?_⟩
    rw [inV_strs]
    have lp2 : (2 : Nat) ≤ sizeLine := by rw [sizeLine_eq]; omega
    cases hc : s.comp with
    | true =>
      have hw : wd ∈ compound := by
        cases s <;> first | (simp only [St.D, PyData.tuple.injEq, List.cons.injEq, PyData.str.injEq] at hD; rw [← hD.1]; decide +kernel) | cases hc
      rw [decide_eq_true hw]
      refine iteT ?_
      exact ⟨_, rfl, _, rfl, _, rfl, _, rfl, _, _, _, d, s, names, procs, rfl, hd0, hx, ok, hc, hdn, hsz, q⟩
    | false =>
      have hw : wd ∉ compound := by
        cases s <;> first | (simp only [St.D, PyData.tuple.injEq, List.cons.injEq, PyData.str.injEq] at hD; rw [← hD.1]; decide +kernel) | cases hc
      rw [decide_eq_false hw]
      refine iteF ?_
      refine ⟨_, rfl, lp2, fun p np => ?_⟩
      have s1 := same_new (o := .tup [.str "set", .str "swap"]) np
      generalize hH1 : upd H p (.tup [.str "set", .str "swap"]) = H1 at s1 ⊢
      have hp : SqT K H1 p (([("set" : Str), "swap"] : List Str).map V.str) := by rw [← hH1]; exact SqT.of upd_same
      refine ⟨p, _, rfl, .inr hp, rfl, flat_strs _, _, rfl, ?_⟩
      rw [inV_strs]
      have q1 : ∀ H', Same H1 H' → Q (.bl true) H' := fun H' s2 => q H' (s1.trans s2)
      have hS2 := Same.sqt s1 hS1
      have tt := St.tup hx.N hx.P n s ok
      have hd1 := dp_keep (Same.tk s1) hd0 tt
      have yl := dpAll_len hys
      cases s with
      | ite => cases hc
      | whl => cases hc
      | rep => cases hc
      | set x e =>
        simp only [St.D, PyData.tuple.injEq, List.cons.injEq, PyData.str.injEq] at hD
        obtain ⟨rfl, rfl⟩ := hD
        refine iteT ?_
        exact ⟨_, rfl, _, rfl, _, nv, .set x e, names, rfl, hd1, hx.n.same s1, hx.N, .inl ⟨x, e, rfl, ok.1, ok.2⟩, q1⟩
      | swap x y =>
        simp only [St.D, PyData.tuple.injEq, List.cons.injEq, PyData.str.injEq] at hD
        obtain ⟨rfl, rfl⟩ := hD
        refine iteT ?_
        exact ⟨_, rfl, _, rfl, _, nv, .swap x y, names, rfl, hd1, hx.n.same s1, hx.N, .inr ⟨x, y, rfl, ok.1, ok.2.1, ok.2.2⟩, q1⟩
      | print e =>
        simp only [St.D, PyData.tuple.injEq, List.cons.injEq, PyData.str.injEq] at hD
        obtain ⟨rfl, rfl⟩ := hD
        refine iteF ?_
        obtain ⟨y1, rfl, hy⟩ : ∃ y1, ys = [y1] ∧ Dp K H y1 e.D := by
          cases hys with
          | cons x y => cases y; exact ⟨_, rfl, x⟩
        refine ⟨_, rfl, a, _, rfl, .inr hS2, rfl, _, rfl, iteNS rfl ?_⟩
        refine ⟨_, rfl, rfl, _, rfl, iteT ?_⟩
        exact ⟨_, rfl, a, _, _, _, rfl, rfl, hS2, atI_nat (j := 1) rfl, _, rfl, y1, nv, e, names, rfl, dp_keep (Same.tk s1) hy (Ex.tup hx.N ok), hx.n.same s1, hx.N, ok, q1⟩
      | call x =>
        simp only [St.D, PyData.tuple.injEq, List.cons.injEq, PyData.str.injEq] at hD
        obtain ⟨rfl, rfl⟩ := hD
        refine iteF ?_
        obtain ⟨y1, rfl, hy⟩ : ∃ y1, ys = [y1] ∧ Dp K H y1 (.str x) := by
          cases hys with
          | cons x y => cases y; exact ⟨_, rfl, x⟩
        obtain rfl := dp_str hy
        obtain ⟨pa, rfl, hp2⟩ := hx.p.same s1
        refine ⟨_, rfl, a, _, rfl, .inr hS2, rfl, _, rfl, iteNS rfl ?_⟩
        refine ⟨_, rfl, rfl, _, rfl, iteF ?_⟩
        refine ⟨_, rfl, rfl, _, rfl, iteT ?_⟩
        refine ⟨_, rfl, a, _, _, _, rfl, rfl, hS2, atI_nat (j := 1) rfl, _, rfl, pa, _, rfl, hp2, rfl, flat_strs _, ?_⟩
        rw [inV_strs, decide_eq_true (show x ∈ procs from ok)]
        exact q1 _ (Same.refl _)
/-- all three, by the depth -/
theorem ok_blocks (T : PgF K mg) : ∀ n : Nat, FnOk P w K mg base CX0 (3 * n + 7) T.f_is_block T.fd_is_block ["candidate", "names", "procedures", "depth"] (sp_is_block K n)
  | 0 => FnOk.none
  | n + 1 => ok_is_block T (ok_is_statement T (ok_is_compound T (ok_blocks T n)))
end
end Sp1

set_option Elab.async false
set_option linter.all false
set_option maxRecDepth 100000
set_option maxHeartbeats 4000000
namespace Pg
open PySem
abbrev Pr := Str × List St
def prD (p : Pr) : PyData := .tuple [.str p.1, bD p.2]
def prsD (ps : List Pr) : PyData := .tuple (ps.map prD)
structure PrsOk (names : List Str) (ps : List Pr) : Prop where
  N : Names (ps.map (·.1))
  nd : (ps.map (·.1)).Nodup
  len : ps.length ≤ 6
  bl : ∀ p ∈ ps, blOk names (ps.map (·.1)) 7 p.2 ∧ blSz p.2 ≤ 1000
theorem prD_tup {names : List Str} {ps : List Pr} (hN : Names names) (h : PrsOk names ps) {p : Pr} (hp : p ∈ ps) : tupD (prD p) = true := by
  have h1 := (h.N p.1 (List.mem_map.mpr ⟨p, hp, rfl⟩)).tup
  have h2 := bD_tup hN h.N (h.bl p hp).1
  unfold prD
  rw [tupD_tuple, tupAll, tupAll, tupAll, h1, h2]
  rfl
theorem prsD_tup {names : List Str} {ps : List Pr} (hN : Names names) (h : PrsOk names ps) : tupD (prsD ps) = true := by
  unfold prsD
  rw [tupD_tuple]
  exact tupAll_iff.mpr fun d hd => by
    obtain ⟨p, hp, rfl⟩ := List.mem_map.mp hd
    exact prD_tup hN h hp
end Pg
namespace Sp1
open PySem PySem.Spec PyProof.Rows L2 Pg
section
variable {P : Program} {w : World} {K : PySem.W.Frag} {mg : Str → Option Value} {base : Heap}
theorem dp_prD {H : Hp} {v : V} {p : Pr} (h : Dp K H v (prD p)) : ∃ a y, v = .ref a ∧ SqT K H a [.str p.1, y] ∧ Dp K H y (bD p.2) := by
  obtain ⟨a, x1, x2, rfl, hS, h1, h2⟩ := dp_tup2 h
  obtain rfl := dp_str h1
  exact ⟨a, x2, rfl, hS, h2⟩
def sp_are_procedures (K : PySem.W.Frag) : Sp := fun vs H Q _ => ∃ (v nv : V) (ps : List Pr) (names : List Str), vs = [v, nv] ∧ Dp K H v (prsD ps) ∧ Tl K H nv names ∧ Names names ∧ PrsOk names ps ∧ ∀ H', Same H H' → Q (.bl true) H'
theorem ok_are_procedures (T : PgF K mg) : FnOk P w K mg base CX0 32 T.f_are_procedures T.fd_are_procedures ["candidate", "names"] (sp_are_procedures K) := by
  refine T.D_are_procedures.F.ok sc_are_procedures (fun vs H Q E h => ?_) (fun cdv A outer s H vs Q E hr h => ?_)
  · obtain ⟨v, nv, ps, names, rfl, _⟩ := h
    rfl
  · obtain ⟨v, nv, ps, names, rfl, hd, hn, hN, ok, q⟩ := h
    have nd := sc_are_procedures.nd
    have h6 := ok.len
    obtain ⟨a, ys, rfl, hS1, hA⟩ := dp_tup hd
    have yl : ys.length = ps.length := by rw [dpAll_len hA, List.length_map]
    have item : ∀ {i : Nat} {v : V} {H' : Hp}, Same H H' → ys[i]? = some v → ∃ p b y, ps[i]? = some p ∧ v = .ref b ∧ SqT K H' b [.str p.1, y] ∧ Dp K H' y (bD p.2) := fun {i v H'} s hv => by
      obtain ⟨d', hd', hdp⟩ := dpAll_at hA hv
      rw [List.getElem?_map] at hd'
      obtain ⟨p, hp, rfl⟩ := Option.map_eq_some_iff.mp hd'
      obtain ⟨b, y, e, h1, h2⟩ := dp_prD (dp_keep (Same.tk s) hdp (prD_tup hN ok (List.mem_of_getElem? hp)))
      exact ⟨p, b, y, hp, e, h1, h2⟩
    refine ⟨_, (pss_cons (ps_if (PW.pt (pw_or (pt_not (pt_val (pe_callB call_isi (by rfl) T.m_isinstance (by decide +kernel) (pa_cons (pv 0) (pa_cons (pe_ty (n := "tuple") (by rfl) T.m_tuple (by decide +kernel)) pa_nil))))) (pw_or1 (pt_cmpR op_gt (pe_callB call_len_seq (by rfl) T.m_len PySem.boot_len (pa_cons (pv 0) pa_nil)) (pe_glob (v := .int 6) rfl T.c_MAX_PROCEDURES ⟨_, rfl⟩) (nomark _)))))
      (pss_one (ps_ret pe_bl))
      pss_nil)
      (pss_cons (ps_if (pt_not (pt_val (pe_callB (cr_all rfl) (by rfl) T.m_all (by decide +kernel) (pa_cons (pe_lc (own := [("procedure", 3)]) (g := (gName 3)) (tt := tYes) rfl nd (pi_tup (pv 0)) (blkOk_by (N := N_are_procedures) (sc := defScope s_are_procedures) (by decide +kernel)) (fun _ _ _ _ _ => (pg_name (i := 3) nd rfl (.inl rfl))) (fun _ _ _ _ _ => pts_nil) (fun _ _ _ _ _ => (pe_and (pe_callB (r := rIsi K) (id := "isinstance") call_isi (by rfl) T.m_isinstance (by decide +kernel) (pa_cons (pv 3) (pa_cons (pe_ty (n := "tuple") (by rfl) T.m_tuple (by decide +kernel)) pa_nil))) (pe_one (pe_cmpR op_eq (pe_callB (r := rLenSq K) call_len_seq (by rfl) T.m_len PySem.boot_len (pa_cons (pv 3) pa_nil)) pe_int (nomark _)))))) pa_nil))))
      (pss_one (ps_ret pe_bl))
      pss_nil)
      (pss_cons (ps_set (i := 2) nd rfl (.inr rfl) (pe_callTy call_tuple_of (by rfl) T.m_tuple (by decide +kernel) (pa_cons (pe_lc (own := [("name", 4), ("_", 5)]) (g := (gTup K 2 (gCons (gName 4) (gCons (gName 5) gNil)))) (tt := tYes) rfl nd (pi_tup (pv 0)) (blkOk_by (N := N_are_procedures) (sc := defScope s_are_procedures) (by decide +kernel)) (fun _ _ _ _ _ => (pg_tup rfl (pgs_cons (pg_name (i := 4) nd rfl (.inl rfl)) (pgs_cons (pg_name (i := 5) nd rfl (.inl rfl)) pgs_nil)))) (fun _ _ _ _ _ => pts_nil) (fun _ _ _ _ _ => (pv 4))) pa_nil)))
      (pss_one (ps_ret (pe_and (pe_call ((ok_are_names T).mono (by decide)) hr (by rfl) T.D_are_names.g T.D_are_names.kp T.D_are_names.b .nil pass0 (pa_cons (pv 2) pa_nil)) (pe_one (pe_callB (cr_all rfl) (by rfl) T.m_all (by decide +kernel) (pa_cons (pe_lc (own := [("_", 5), ("block", 6)]) (g := (gTup K 2 (gCons (gName 5) (gCons (gName 6) gNil)))) (tt := tYes) rfl nd (pi_tup (pv 0)) (blkOk_by (N := N_are_procedures) (sc := defScope s_are_procedures) (by decide +kernel)) (fun _ _ _ _ _ => (pg_tup rfl (pgs_cons (pg_name (i := 5) nd rfl (.inl rfl)) (pgs_cons (pg_name (i := 6) nd rfl (.inl rfl)) pgs_nil)))) (fun _ _ _ _ _ => pts_nil) (fun _ _ _ _ _ => (pe_call ((ok_blocks T 8).mono (by decide)) hr (by rfl) T.g_is_block T.F_is_block.kp T.b3_is_block T.v3_is_block pass0 (pa_cons (pv 6) (pa_cons (pv 1) (pa_cons (pv 2) pa_nil)))))) pa_nil))))))))), ?_⟩
    refine ⟨_, rfl, .ref a, .ty "tuple", _, _, true, rfl, .ty _, tyx_tupS hS1, kit_ty (by decide +kernel), true, rfl, iteF ?_⟩
    refine ⟨_, rfl, a, _, rfl, .inr hS1, ?_⟩
    refine ⟨_, _, rfl, rfl, _, rfl, ?_⟩
    rw [decide_eq_false (by omega)]
    refine iteF ?_
    refine ⟨_, rfl, a, rfl, ⟨_, hS1⟩, fun D nD => ?_⟩
    refine lc_it (walk_tup (K := K) (a := a) (xs := ys)) (Acc H D fun _ => V.bl true) (Acc.start nD) (fun i H' _ h => Same.sqt h.1 hS1) ?_ ?_
    · rintro i v H1 H2 hi h ⟨rfl, hv⟩
      obtain ⟨p, b, y, hp, rfl, h1, h2⟩ := item h.1 hv
      refine ⟨rfl, ?_⟩
      dsimp only [tYes]
      refine iteT ?_
      refine ⟨_, rfl, .ref b, .ty "tuple", _, _, true, rfl, .ty _, tyx_tupS h1, kit_ty (by decide +kernel), true, rfl, iteT ?_⟩
      refine ⟨_, rfl, b, _, rfl, .inr h1, rfl, ?_⟩
      exact h.turn nD (Same.refl _) (by omega) rfl
    · rintro H1 h
      refine ⟨D, _, rfl, SqL.of (acc_true h), true, by rw [all_true], iteF ?_⟩
      refine ⟨_, rfl, a, rfl, ⟨_, Same.sqt h.1 hS1⟩, fun D2 nD2 => ?_⟩
      refine lc_it (walk_tup (K := K) (a := a) (xs := ys)) (Acc H1 D2 fun i => (((ps.map (·.1)).map V.str)[i]?).getD .non) (Acc.start nD2) (fun i H' _ h' => Same.sqt (h.1.trans h'.1) hS1) ?_ ?_
      · rintro i v H3 H4 hi h' ⟨rfl, hv⟩
        obtain ⟨p, b, y, hp, rfl, h1, h2⟩ := item (h.1.trans h'.1) hv
        refine ⟨b, _, rfl, h1, rfl, _, _, rfl, _, _, rfl, rfl, rfl, ?_⟩
        dsimp only [tYes]
        refine iteT ⟨_, rfl, ?_⟩
        refine h'.turn nD2 (Same.refl _) (by omega) ?_
        rw [List.getElem?_map, List.getElem?_map, hp]
        rfl
      · rintro H3 h'
        have hD2 := acc_get h' (by rw [List.length_map, List.length_map, yl])
        have hsame := h.1.trans h'.1
        refine ⟨D2, _, rfl, .inl ⟨SqL.of hD2, fun t nt => ?_⟩⟩
        have s4 := hsame.trans (same_new (o := .tup ((ps.map (·.1)).map V.str)) nt)
        generalize hH4 : upd H3 t (.tup ((ps.map (·.1)).map V.str)) = H4 at s4 ⊢
        have hts : SqT K H4 t ((ps.map (·.1)).map V.str) := by rw [← hH4]; exact SqT.of upd_same
        refine ⟨_, rfl, .ref t, ps.map (·.1), rfl, ⟨t, rfl, hts⟩, ok.N, ok.nd, by rw [List.length_map]; omega, fun H5 s5 => ?_⟩
        refine ⟨true, rfl, iteT ?_⟩
        have s6 := s4.trans s5
        refine ⟨_, rfl, a, rfl, ⟨_, Same.sqt s6 hS1⟩, fun D3 nD3 => ?_⟩
        refine lc_it (walk_tup (K := K) (a := a) (xs := ys)) (Acc H5 D3 fun _ => V.bl true) (Acc.start nD3) (fun i H' _ h => Same.sqt (s6.trans h.1) hS1) ?_ ?_
        · rintro i v H7 H8 hi h8 ⟨rfl, hv⟩
          obtain ⟨p, b, y, hp, rfl, h1, h2⟩ := item (s6.trans h8.1) hv
          have hm := List.mem_of_getElem? hp
          refine ⟨b, _, rfl, h1, rfl, _, _, rfl, _, _, rfl, rfl, rfl, ?_⟩
          dsimp only [tYes]
          refine iteT ?_
          refine ⟨_, rfl, _, rfl, _, rfl, y, nv, .ref t, 1, p.2, names, ps.map (·.1), rfl, h2, ⟨hn.same (s6.trans h8.1), ⟨t, rfl, .inr (Same.sqt (s5.trans h8.1) hts)⟩, hN, ok.N⟩, (ok.bl p hm).1, by decide, (ok.bl p hm).2, fun H9 s9 => ?_⟩
          exact h8.turn nD3 s9 (by omega) rfl
        · rintro H7 h8
          refine ⟨D3, _, rfl, SqL.of (acc_true h8), ?_⟩
          rw [all_true]
          exact q _ (s6.trans h8.1)
end
end Sp1

set_option Elab.async false
set_option linter.all false
set_option maxRecDepth 100000
set_option maxHeartbeats 4000000
namespace Pg
open PySem
mutual
theorem code_len : ∀ (s : St) (n : Int), (s.code n).length = s.sz
  | .ite e a b, n => by
    simp only [St.code, St.sz, List.length_cons, List.length_append, List.length_nil, blCode_len a, blCode_len b]
    omega
  | .whl e b, n => by
    simp only [St.code, St.sz, List.length_cons, List.length_append, List.length_nil, blCode_len b]
    omega
  | .rep e b, n => by
    simp only [St.code, St.sz, List.length_cons, List.length_append, List.length_nil, blCode_len b]
    omega
  | .set x e, n => by simp [St.code, St.sz]
  | .swap x y, n => by simp [St.code, St.sz]
  | .print e, n => by simp [St.code, St.sz]
  | .call x, n => by simp [St.code, St.sz]
theorem blCode_len : ∀ (b : List St) (n : Int), (blCode b n).length = blSz b
  | [], n => by simp [blCode, blSz]
  | s :: r, n => by simp only [blCode, blSz, List.length_append, code_len s, blCode_len r]
end
theorem tupAll_app {xs ys : List PyData} : tupAll (xs ++ ys) = (tupAll xs && tupAll ys) := by
  induction xs with
  | nil => simp [tupAll]
  | cons x r ih => simp [tupAll, ih, Bool.and_assoc]
theorem tupD_int (i : Int) : tupD (.int i) = true := by rw [tupD]
theorem go_tup (n k : Int) : tupD (goD n k) = true := by
  have a : tupD (.str "go") = true := by decide +kernel
  unfold goD
  simp only [tupD_tuple, tupAll, a, tupD_int]
  rfl
theorem test_tup {d : PyData} (h : tupD d = true) (n : Int) : tupD (.tuple [.str "test", d, .int n]) = true := by
  have a : tupD (.str "test") = true := by decide +kernel
  simp only [tupD_tuple, tupAll, a, tupD_int, h]
  rfl
mutual
theorem code_tup {names procs : List Str} (hN : Names names) (hP : Names procs) : ∀ (n : Nat) (s : St) (k : Int), St.Ok names procs n s → tupAll (s.code k) = true
  | n, .set x e, k, h => by
    have := St.tup hN hP n _ h
    simp only [St.code, tupAll, this]
    rfl
  | n, .swap x e, k, h => by
    have := St.tup hN hP n _ h
    simp only [St.code, tupAll, this]
    rfl
  | n, .print e, k, h => by
    have := St.tup hN hP n _ h
    simp only [St.code, tupAll, this]
    rfl
  | n, .call e, k, h => by
    have := St.tup hN hP n _ h
    simp only [St.code, tupAll, this]
    rfl
  | n, .ite e a b, k, h => by
    obtain ⟨h1, m, _, h2, h3⟩ := h
    have h1 := Ex.tup hN h1
    simp only [St.code, tupAll, tupAll_app, test_tup h1, go_tup, blCode_tup hN hP m a _ h2, blCode_tup hN hP m b _ h3]
    rfl
  | n, .whl e b, k, h => by
    obtain ⟨h1, m, _, h2⟩ := h
    have h1 := Ex.tup hN h1
    simp only [St.code, tupAll, tupAll_app, test_tup h1, go_tup, blCode_tup hN hP m b _ h2]
    rfl
  | n, .rep e b, k, h => by
    obtain ⟨h1, m, _, h2⟩ := h
    have h1 := Ex.tup hN h1
    have a1 : tupD (.str "begin") = true := by decide +kernel
    have a2 : tupD (.str "turn") = true := by decide +kernel
    have a3 : tupD (.str "again") = true := by decide +kernel
    have a4 : ∀ i, tupD (.int i) = true := fun i => by rw [tupD]
    simp only [St.code, tupAll, tupD_tuple, tupAll_app, h1, a1, a2, a3, a4, blCode_tup hN hP m b _ h2]
    rfl
theorem blCode_tup {names procs : List Str} (hN : Names names) (hP : Names procs) : ∀ (n : Nat) (b : List St) (k : Int), blOk names procs n b → tupAll (blCode b k) = true
  | n, [], k, _ => by simp [blCode, tupAll]
  | n, s :: r, k, h => by simp only [blCode, tupAll_app, code_tup hN hP n s k h.1, blCode_tup hN hP n r _ h.2, Bool.and_self]
end
theorem blCode_snoc : ∀ (b : List St) (s : St) (n : Int), blCode (b ++ [s]) n = blCode b n ++ s.code (n + (blCode b n).length)
  | [], s, n => by simp [blCode]
  | x :: r, s, n => by
    simp only [List.cons_append, blCode, blCode_snoc r s, List.append_assoc, List.length_append]
    congr 3
    push_cast
    omega
theorem blSz_app : ∀ (a b : List St), blSz (a ++ b) = blSz a + blSz b
  | [], b => by simp [blSz]
  | x :: r, b => by simp only [List.cons_append, blSz, blSz_app r b]; omega
theorem blSz_take (b : List St) (i : Nat) : blSz (b.take i) ≤ blSz b := by
  have := blSz_app (b.take i) (b.drop i)
  rw [List.take_append_drop] at this
  omega
end Pg
namespace Sp1
open PySem PySem.Spec PyProof.Rows L2 Pg
section
variable {P : Program} {w : World} {K : PySem.W.Frag} {mg : Str → Option Value} {base : Heap}
def sp_block_code (K : PySem.W.Frag) : Nat → Sp
  | 0 => fun _ _ _ _ => False
  | n + 1 => fun vs H Q _ => ∃ (v : V) (k : Int) (b : List Pg.St) (names procs : List Str), vs = [v, .int k] ∧ Dp K H v (bD b) ∧ Names names ∧ Names procs ∧ blOk names procs n b ∧ blSz b ≤ 1000 ∧
    ∀ H' p xs, Same H H' → H p = none → H' p = some (.lst xs) → DpAll K H' xs (blCode b k) → Q (.ref p) H'
def sp_statement_code (K : PySem.W.Frag) (n : Nat) : Sp := fun vs H Q _ => ∃ (v : V) (k : Int) (s : Pg.St) (names procs : List Str), vs = [v, .int k] ∧ Dp K H v s.D ∧ Names names ∧ Names procs ∧ St.Ok names procs n s ∧ s.sz ≤ 1000 ∧
    ∀ H' p xs, Same H H' → H p = none → H' p = some (.lst xs) → DpAll K H' xs (s.code k) → Q (.ref p) H'
theorem ok_block_code (T : PgF K mg) {n : Nat} (hS : FnOk P w K mg base CX0 (3 * n + 3) T.f_statement_code T.fd_statement_code ["statement", "start"] (sp_statement_code K n)) :
    FnOk P w K mg base CX0 (3 * n + 4) T.f_block_code T.fd_block_code ["block", "start"] (sp_block_code K (n + 1)) := by
  refine T.D_block_code.F.ok sc_block_code (fun vs H Q E h => ?_) (fun cdv A outer s H vs Q E hr h => ?_)
  · obtain ⟨v, k, b, names, procs, rfl, _⟩ := h
    rfl
  · obtain ⟨v, k, b, names, procs, rfl, hd, hN, hP, ok, hsz, q⟩ := h
    have nd := sc_block_code.nd
    have hl := blSz_len b
    obtain ⟨a, ys, rfl, hS1, hA⟩ := dp_tup hd
    have yl : ys.length = b.length := by rw [dpAll_len hA, List.length_map]
    refine ⟨_, (pss_cons (ps_set (i := 2) nd rfl (.inl rfl) (pe_lst pa_nil))
      (pss_cons (ps_for PassesOwn.never rfl (pi_tup (pv 0)) (pg_name (i := 3) nd rfl (.inl rfl))
      (pss_one (ps_expr (pe_bm PySem.F.plainAttrs_list PySem.F.slot_list_extend PySem.F.type_list_extend mt_extend (pv 2) (pa_cons (pe_call (hS.mono (by omega)) hr (by rfl) T.D_statement_code.g T.D_statement_code.kp T.D_statement_code.b .nil pass0 (pa_cons (pv 3) (pa_cons (pe_op op_add (pv 1) (pe_callB call_len_seq (by rfl) T.m_len PySem.boot_len (pa_cons (pv 2) pa_nil))) pa_nil))) pa_nil)))))
      (pss_one (ps_ret (pv 2))))), ?_⟩
    refine ⟨by rw [sizeLine_eq]; show 0 ≤ _; omega, fun c nc => ?_⟩
    have s0 : Same H (upd H c (.lst [])) := same_new nc
    refine ⟨_, rfl, a, rfl, ⟨_, Same.sqt s0 hS1⟩, for_tup (K := K) (a := a) (xs := ys)
      (fun i σ H' => Same H H' ∧ ∃ xs y, σ = [some (.ref a), some (.int k), some (.ref c), y] ∧ H' c = some (.lst xs) ∧ DpAll K H' xs (blCode (b.take i) k)) ⟨s0, [], none, rfl, upd_same, .nil⟩ (fun i σ H' _ h => Same.sqt h.1 hS1) ?_ ?_⟩
    · rintro i x σ H1 hx ⟨s1, xs, y, rfl, hc, hxs⟩
      obtain ⟨d', hd', hdp⟩ := dpAll_at hA hx
      rw [List.getElem?_map] at hd'
      obtain ⟨s, hs, rfl⟩ := Option.map_eq_some_iff.mp hd'
      have hm := List.mem_of_getElem? hs
      have oks := blOk_iff.mp ok s hm
      have := blSz_mem hm
      have htk : b.take (i + 1) = b.take i ++ [s] := by rw [List.take_add_one, hs]; rfl
      have hsz1 := blSz_take b (i + 1)
      rw [htk, blSz_app] at hsz1
      simp only [blSz] at hsz1
      have xl := dpAll_len hxs
      have okt : blOk names procs n (b.take i) := blOk_iff.mpr fun t ht => blOk_iff.mp ok t (List.mem_of_mem_take ht)
      refine ⟨_, rfl, .inl ⟨rfl, _, SqL.of hc⟩, ?_⟩
      refine ⟨_, rfl, _, rfl, _, rfl, c, xs, rfl, .inl (SqL.of hc), ?_⟩
      refine ⟨_, _, rfl, rfl, ?_⟩
      refine ⟨x, _, s, names, procs, rfl, dp_keep (Same.tk s1) hdp (St.tup hN hP n s oks), hN, hP, oks, by omega, fun H2 p zs s2 np hp hzs => ?_⟩
      have zl := dpAll_len hzs
      rw [code_len] at zl
      rw [blCode_len] at xl
      refine ⟨c, p, xs, zs, rfl, rfl, s2 _ _ hc, hp, by rw [sizeLine_eq]; omega, ?_⟩
      have ncH : H c = none := nc
      have s3 : Same H (upd H2 c (.lst (xs ++ zs))) := same_at ncH (s1.trans s2)
      refine ⟨s3, xs ++ zs, some x, rfl, upd_same, ?_⟩
      have tk : TK H2 (upd H2 c (.lst (xs ++ zs))) := tk_lst (s2 _ _ hc)
      rw [htk, blCode_snoc]
      rw [dpAll_len hxs] at hzs
      exact dpAll_app (dpAll_keep ((Same.tk s2).trans tk) hxs (blCode_tup hN hP n _ _ okt)) (dpAll_keep tk hzs (code_tup hN hP n s _ oks))
    · rintro σ H1 ⟨s1, xs, y, rfl, hc, hxs⟩
      rw [yl, List.take_length] at hxs
      exact ⟨_, rfl, q _ c xs s1 nc hc hxs⟩
end
end Sp1

set_option Elab.async false
set_option linter.all false
set_option maxRecDepth 100000
set_option maxHeartbeats 4000000
namespace Sp1
open PySem PySem.Spec PyProof.Rows L2 Pg
section
variable {P : Program} {w : World} {K : PySem.W.Frag} {mg : Str → Option Value} {base : Heap}
theorem small {n : Nat} (h : n ≤ 5000) : n ≤ sizeLine := by rw [sizeLine_eq]; omega
theorem dp_t3 {H : Hp} {p : Addr} {x y z : V} {a b c : PyData} (h : SqT K H p [x, y, z]) (h1 : Dp K H x a) (h2 : Dp K H y b) (h3 : Dp K H z c) : Dp K H (.ref p) (.tuple [a, b, c]) := .tup h (.cons h1 (.cons h2 (.cons h3 .nil)))
theorem dp_t2 {H : Hp} {p : Addr} {x y : V} {a b : PyData} (h : SqT K H p [x, y]) (h1 : Dp K H x a) (h2 : Dp K H y b) : Dp K H (.ref p) (.tuple [a, b]) := .tup h (.cons h1 (.cons h2 .nil))
def sp_ite_code (K : PySem.W.Frag) (n : Nat) : Sp := fun vs H Q _ => ∃ (v : V) (k : Int) (e : Ex) (a b : List Pg.St) (names procs : List Str), vs = [v, .int k] ∧ Dp K H v (St.ite e a b).D ∧ Names names ∧ Names procs ∧ St.Ok names procs n (.ite e a b) ∧ (St.ite e a b).sz ≤ 1000 ∧
    ∀ H' p xs, Same H H' → H p = none → H' p = some (.lst xs) → DpAll K H' xs ((St.ite e a b).code k) → Q (.ref p) H'
def sp_whl_code (K : PySem.W.Frag) (n : Nat) : Sp := fun vs H Q _ => ∃ (v : V) (k : Int) (e : Ex) (b : List Pg.St) (names procs : List Str), vs = [v, .int k] ∧ Dp K H v (St.whl e b).D ∧ Names names ∧ Names procs ∧ St.Ok names procs n (.whl e b) ∧ (St.whl e b).sz ≤ 1000 ∧
    ∀ H' p xs, Same H H' → H p = none → H' p = some (.lst xs) → DpAll K H' xs ((St.whl e b).code k) → Q (.ref p) H'
def sp_rep_code (K : PySem.W.Frag) (n : Nat) : Sp := fun vs H Q _ => ∃ (v : V) (k : Int) (e : Ex) (b : List Pg.St) (names procs : List Str), vs = [v, .int k] ∧ Dp K H v (St.rep e b).D ∧ Names names ∧ Names procs ∧ St.Ok names procs n (.rep e b) ∧ (St.rep e b).sz ≤ 1000 ∧
    ∀ H' p xs, Same H H' → H p = none → H' p = some (.lst xs) → DpAll K H' xs ((St.rep e b).code k) → Q (.ref p) H'
theorem ok_if_code (T : PgF K mg) {n : Nat} (hB : FnOk P w K mg base CX0 (3 * n + 1) T.f_block_code T.fd_block_code ["block", "start"] (sp_block_code K n)) :
    FnOk P w K mg base CX0 (3 * n + 2) T.f_if_code T.fd_if_code ["statement", "start"] (sp_ite_code K n) := by
  refine T.D_if_code.F.ok sc_if_code (fun vs H Q E h => ?_) (fun cdv A outer s H vs Q E hr h => ?_)
  · obtain ⟨v, k, e, a, b, names, procs, rfl, _⟩ := h
    rfl
  · obtain ⟨v, k, e, a, b, names, procs, rfl, hd, hN, hP, ok, hsz, q⟩ := h
    have nd := sc_if_code.nd
    obtain ⟨he, m, rfl, ha, hb⟩ := ok
    simp only [St.D] at hd
    simp only [St.sz] at hsz
    obtain ⟨t, x1, x2, x3, x4, rfl, hS, h1, h2, h3, h4⟩ := dp_tup4 hd
    obtain rfl := dp_str h1
    rw [blD_map] at h3 h4
    have te := Ex.tup hN he
    have ta := bD_tup hN hP ha
    have tb := bD_tup hN hP hb
    refine ⟨_, (pss_cons (ps_asg (pv 0) (pg_tup rfl (pgs_cons (pg_name (i := 2) nd rfl (.inl rfl)) (pgs_cons (pg_name (i := 3) nd rfl (.inl rfl)) (pgs_cons (pg_name (i := 4) nd rfl (.inl rfl)) (pgs_cons (pg_name (i := 5) nd rfl (.inl rfl)) pgs_nil))))))
      (pss_cons (ps_set (i := 6) nd rfl (.inl rfl) (pe_call (hB.mono (by omega)) hr (by rfl) T.D_block_code.g T.D_block_code.kp T.D_block_code.b .nil pass0 (pa_cons (pv 4) (pa_cons (pe_op op_add (pv 1) pe_int) pa_nil))))
      (pss_cons (ps_set (i := 7) nd rfl (.inl rfl) (pe_op op_add (pe_op op_add (pe_op op_add (pv 1) pe_int) (pe_callB call_len_seq (by rfl) T.m_len PySem.boot_len (pa_cons (pv 6) pa_nil))) pe_int))
      (pss_cons (ps_set (i := 8) nd rfl (.inl rfl) (pe_call (hB.mono (by omega)) hr (by rfl) T.D_block_code.g T.D_block_code.kp T.D_block_code.b .nil pass0 (pa_cons (pv 5) (pa_cons (pv 7) pa_nil))))
      (pss_cons (ps_set (i := 9) nd rfl (.inl rfl) (pe_op op_add (pe_op op_add (pv 7) (pe_callB call_len_seq (by rfl) T.m_len PySem.boot_len (pa_cons (pv 8) pa_nil))) pe_int))
      (pss_cons (ps_set (i := 10) nd rfl (.inl rfl) (pe_tup (pa_cons pe_str (pa_cons (pv 3) (pa_cons (pv 7) pa_nil)))))
      (pss_one (ps_ret (pe_lst (pa_cons (pv 10) (StX.pa_star (pv 6) (pa_cons (pe_tup (pa_cons pe_str (pa_cons (pv 9) (pa_cons pe_int pa_nil)))) (StX.pa_star (pv 8) (pa_cons (pe_tup (pa_cons pe_str (pa_cons (pv 9) (pa_cons pe_int pa_nil)))) pa_nil)))))))))))))), ?_⟩
    refine ⟨_, rfl, t, _, rfl, hS, rfl, _, _, rfl, _, _, rfl, _, _, rfl, _, _, rfl, rfl, ?_⟩
    refine ⟨_, rfl, _, rfl, _, _, rfl, rfl, x3, _, a, names, procs, rfl, h3, hN, hP, ha, by omega, fun H1 p1 xs1 s1 np1 hp1 hx1 => ?_⟩
    have l1 := dpAll_len hx1
    have z1 := blCode_len a (k + 1)
    refine ⟨_, rfl, _, _, rfl, rfl, _, rfl, p1, xs1, rfl, .inl (SqL.of hp1), _, _, rfl, rfl, _, _, rfl, rfl, ?_⟩
    refine ⟨_, rfl, _, rfl, x4, _, b, names, procs, rfl, dp_keep (Same.tk s1) h4 tb, hN, hP, hb, by omega, fun H2 p2 xs2 s2 np2 hp2 hx2 => ?_⟩
    have l2 := dpAll_len hx2
    have z2 := blCode_len b (k + 1 + (xs1.length : Int) + 1)
    refine ⟨_, rfl, _, rfl, p2, xs2, rfl, .inl (SqL.of hp2), _, _, rfl, rfl, _, _, rfl, rfl, ?_⟩
    refine ⟨_, rfl, _, rfl, small (by show 3 ≤ 5000; decide), fun t1 nt1 => ?_⟩
    have s3 := same_new (o := .tup [.str "test", x2, .int (k + 1 + (xs1.length : Int) + 1)]) nt1
    generalize hH3 : upd H2 t1 (.tup [.str "test", x2, .int (k + 1 + (xs1.length : Int) + 1)]) = H3 at s3 ⊢
    have ht1 : SqT K H3 t1 [.str "test", x2, .int (k + 1 + (xs1.length : Int) + 1)] := by rw [← hH3]; exact SqT.of upd_same
    refine ⟨_, rfl, _, rfl, p1, xs1, rfl, .inr (SqL.of (s3 _ _ (s2 _ _ hp1))), ?_⟩
    refine ⟨_, rfl, small (by show 3 ≤ 5000; decide), fun t2 nt2 => ?_⟩
    have s4 := same_new (o := .tup [.str "go", .int (k + 1 + (xs1.length : Int) + 1 + (xs2.length : Int) + 1), .int 1]) nt2
    generalize hH4 : upd H3 t2 (.tup [.str "go", .int (k + 1 + (xs1.length : Int) + 1 + (xs2.length : Int) + 1), .int 1]) = H4 at s4 ⊢
    have ht2 : SqT K H4 t2 [.str "go", .int (k + 1 + (xs1.length : Int) + 1 + (xs2.length : Int) + 1), .int 1] := by rw [← hH4]; exact SqT.of upd_same
    refine ⟨_, rfl, p2, xs2, rfl, .inr (SqL.of (s4 _ _ (s3 _ _ hp2))), ?_⟩
    refine ⟨_, rfl, small (by show 3 ≤ 5000; decide), fun t3 nt3 => ?_⟩
    have s5 := same_new (o := .tup [.str "go", .int (k + 1 + (xs1.length : Int) + 1 + (xs2.length : Int) + 1), .int 0]) nt3
    generalize hH5 : upd H4 t3 (.tup [.str "go", .int (k + 1 + (xs1.length : Int) + 1 + (xs2.length : Int) + 1), .int 0]) = H5 at s5 ⊢
    have ht3 : SqT K H5 t3 [.str "go", .int (k + 1 + (xs1.length : Int) + 1 + (xs2.length : Int) + 1), .int 0] := by rw [← hH5]; exact SqT.of upd_same
    refine ⟨small ?_, fun p np => ?_⟩
    · show (V.ref t1 :: (xs1 ++ (V.ref t2 :: (xs2 ++ [V.ref t3])))).length ≤ 5000
      simp only [List.length_cons, List.length_append, List.length_nil]
      omega
    have s12 := s1.trans s2
    have s25 := (s3.trans s4).trans s5
    have s05 := s12.trans s25
    have s6 := same_new (o := .lst (V.ref t1 :: (xs1 ++ (V.ref t2 :: (xs2 ++ [V.ref t3]))))) np
    refine q _ p _ (s05.trans s6) (s05.free np) upd_same ?_
    have k6 := Same.tk s6
    simp only [St.code]
    have kk1 := dpAll_keep (((Same.tk s2).trans (Same.tk s25)).trans k6) hx1 (blCode_tup hN hP m a _ ha)
    have kk2 := dpAll_keep ((Same.tk s25).trans k6) hx2 (blCode_tup hN hP m b _ hb)
    have a1 := dp_t3 (Same.sqt ((s4.trans s5).trans s6) ht1) (.str _) (dp_keep (Same.tk (s05.trans s6)) h2 te) (.int (k + 1 + (xs1.length : Int) + 1))
    have a2 := dp_t3 (Same.sqt (s5.trans s6) ht2) (.str _) (.int (k + 1 + (xs1.length : Int) + 1 + (xs2.length : Int) + 1)) (.int 1)
    have a3 := dp_t3 (Same.sqt s6 ht3) (.str _) (.int (k + 1 + (xs1.length : Int) + 1 + (xs2.length : Int) + 1)) (.int 0)
    rw [l2] at a2 a3
    rw [l1] at a1 a2 a3 kk2
    exact .cons a1 (dpAll_app kk1 (.cons a2 (dpAll_app kk2 (.cons a3 .nil))))
theorem ok_while_code (T : PgF K mg) {n : Nat} (hB : FnOk P w K mg base CX0 (3 * n + 1) T.f_block_code T.fd_block_code ["block", "start"] (sp_block_code K n)) :
    FnOk P w K mg base CX0 (3 * n + 2) T.f_while_code T.fd_while_code ["statement", "start"] (sp_whl_code K n) := by
  refine T.D_while_code.F.ok sc_while_code (fun vs H Q E h => ?_) (fun cdv A outer s H vs Q E hr h => ?_)
  · obtain ⟨v, k, e, b, names, procs, rfl, _⟩ := h
    rfl
  · obtain ⟨v, k, e, b, names, procs, rfl, hd, hN, hP, ok, hsz, q⟩ := h
    have nd := sc_while_code.nd
    obtain ⟨he, m, rfl, hb⟩ := ok
    simp only [St.D] at hd
    simp only [St.sz] at hsz
    obtain ⟨t, x1, x2, x3, rfl, hS, h1, h2, h3⟩ := dp_tup3 hd
    obtain rfl := dp_str h1
    rw [blD_map] at h3
    have te := Ex.tup hN he
    refine ⟨_, (pss_cons (ps_asg (pv 0) (pg_tup rfl (pgs_cons (pg_name (i := 2) nd rfl (.inl rfl)) (pgs_cons (pg_name (i := 3) nd rfl (.inl rfl)) (pgs_cons (pg_name (i := 4) nd rfl (.inl rfl)) pgs_nil)))))
      (pss_cons (ps_set (i := 5) nd rfl (.inl rfl) (pe_op op_add (pv 1) pe_int))
      (pss_cons (ps_set (i := 6) nd rfl (.inl rfl) (pe_call (hB.mono (by omega)) hr (by rfl) T.D_block_code.g T.D_block_code.kp T.D_block_code.b .nil pass0 (pa_cons (pv 4) (pa_cons (pe_op op_add (pv 5) pe_int) pa_nil))))
      (pss_cons (ps_set (i := 7) nd rfl (.inl rfl) (pe_op op_add (pe_op op_add (pe_op op_add (pv 5) pe_int) (pe_callB call_len_seq (by rfl) T.m_len PySem.boot_len (pa_cons (pv 6) pa_nil))) pe_int))
      (pss_one (ps_ret (pe_lst (pa_cons (pe_tup (pa_cons pe_str (pa_cons (pv 5) (pa_cons pe_int pa_nil)))) (pa_cons (pe_tup (pa_cons pe_str (pa_cons (pv 3) (pa_cons (pv 7) pa_nil)))) (StX.pa_star (pv 6) (pa_cons (pe_tup (pa_cons pe_str (pa_cons (pv 5) (pa_cons pe_int pa_nil)))) pa_nil))))))))))), ?_⟩
    refine ⟨_, rfl, t, _, rfl, hS, rfl, _, _, rfl, _, _, rfl, _, _, rfl, rfl, ?_⟩
    refine ⟨_, rfl, _, _, rfl, rfl, ?_⟩
    refine ⟨_, rfl, _, rfl, _, _, rfl, rfl, x3, _, b, names, procs, rfl, h3, hN, hP, hb, by omega, fun H1 p1 xs1 s1 np1 hp1 hx1 => ?_⟩
    have l1 := dpAll_len hx1
    have z1 := blCode_len b (k + 1 + 1)
    refine ⟨_, rfl, _, _, rfl, rfl, _, rfl, p1, xs1, rfl, .inl (SqL.of hp1), _, _, rfl, rfl, _, _, rfl, rfl, ?_⟩
    refine ⟨_, rfl, small (by show 3 ≤ 5000; decide), fun t1 nt1 => ?_⟩
    have s2 := same_new (o := .tup [.str "go", .int (k + 1), .int 0]) nt1
    generalize hH2 : upd H1 t1 (.tup [.str "go", .int (k + 1), .int 0]) = H2 at s2 ⊢
    have ht1 : SqT K H2 t1 [.str "go", .int (k + 1), .int 0] := by rw [← hH2]; exact SqT.of upd_same
    refine ⟨_, rfl, _, rfl, small (by show 3 ≤ 5000; decide), fun t2 nt2 => ?_⟩
    have s3 := same_new (o := .tup [.str "test", x2, .int (k + 1 + 1 + (xs1.length : Int) + 1)]) nt2
    generalize hH3 : upd H2 t2 (.tup [.str "test", x2, .int (k + 1 + 1 + (xs1.length : Int) + 1)]) = H3 at s3 ⊢
    have ht2 : SqT K H3 t2 [.str "test", x2, .int (k + 1 + 1 + (xs1.length : Int) + 1)] := by rw [← hH3]; exact SqT.of upd_same
    refine ⟨_, rfl, p1, xs1, rfl, .inr (SqL.of (s3 _ _ (s2 _ _ hp1))), ?_⟩
    refine ⟨_, rfl, small (by show 3 ≤ 5000; decide), fun t3 nt3 => ?_⟩
    have s4 := same_new (o := .tup [.str "go", .int (k + 1), .int 1]) nt3
    generalize hH4 : upd H3 t3 (.tup [.str "go", .int (k + 1), .int 1]) = H4 at s4 ⊢
    have ht3 : SqT K H4 t3 [.str "go", .int (k + 1), .int 1] := by rw [← hH4]; exact SqT.of upd_same
    refine ⟨small ?_, fun p np => ?_⟩
    · show (V.ref t1 :: V.ref t2 :: (xs1 ++ [V.ref t3])).length ≤ 5000
      simp only [List.length_cons, List.length_append, List.length_nil]
      omega
    have s24 := (s2.trans s3).trans s4
    have s04 := s1.trans s24
    have s6 := same_new (o := .lst (V.ref t1 :: V.ref t2 :: (xs1 ++ [V.ref t3]))) np
    refine q _ p _ (s04.trans s6) (s04.free np) upd_same ?_
    have k6 := Same.tk s6
    simp only [St.code]
    have kk1 := dpAll_keep ((Same.tk s24).trans k6) hx1 (blCode_tup hN hP m b _ hb)
    have a1 := dp_t3 (Same.sqt (((s3.trans s4)).trans s6) ht1) (.str _) (.int (k + 1)) (.int 0)
    have a2 := dp_t3 (Same.sqt (s4.trans s6) ht2) (.str _) (dp_keep (Same.tk (s04.trans s6)) h2 te) (.int (k + 1 + 1 + (xs1.length : Int) + 1))
    have a3 := dp_t3 (Same.sqt s6 ht3) (.str _) (.int (k + 1)) (.int 1)
    rw [l1] at a2
    exact .cons a1 (.cons a2 (dpAll_app kk1 (.cons a3 .nil)))
theorem ok_repeat_code (T : PgF K mg) {n : Nat} (hB : FnOk P w K mg base CX0 (3 * n + 1) T.f_block_code T.fd_block_code ["block", "start"] (sp_block_code K n)) :
    FnOk P w K mg base CX0 (3 * n + 2) T.f_repeat_code T.fd_repeat_code ["statement", "start"] (sp_rep_code K n) := by
  refine T.D_repeat_code.F.ok sc_repeat_code (fun vs H Q E h => ?_) (fun cdv A outer s H vs Q E hr h => ?_)
  · obtain ⟨v, k, e, b, names, procs, rfl, _⟩ := h
    rfl
  · obtain ⟨v, k, e, b, names, procs, rfl, hd, hN, hP, ok, hsz, q⟩ := h
    have nd := sc_repeat_code.nd
    obtain ⟨he, m, rfl, hb⟩ := ok
    simp only [St.D] at hd
    simp only [St.sz] at hsz
    obtain ⟨t, x1, x2, x3, rfl, hS, h1, h2, h3⟩ := dp_tup3 hd
    obtain rfl := dp_str h1
    rw [blD_map] at h3
    have te := Ex.tup hN he
    refine ⟨_, (pss_cons (ps_asg (pv 0) (pg_tup rfl (pgs_cons (pg_name (i := 2) nd rfl (.inl rfl)) (pgs_cons (pg_name (i := 3) nd rfl (.inl rfl)) (pgs_cons (pg_name (i := 4) nd rfl (.inl rfl)) pgs_nil)))))
      (pss_cons (ps_set (i := 5) nd rfl (.inl rfl) (pe_op op_add (pv 1) pe_int))
      (pss_cons (ps_set (i := 6) nd rfl (.inl rfl) (pe_call (hB.mono (by omega)) hr (by rfl) T.D_block_code.g T.D_block_code.kp T.D_block_code.b .nil pass0 (pa_cons (pv 4) (pa_cons (pe_op op_add (pv 5) pe_int) pa_nil))))
      (pss_cons (ps_set (i := 7) nd rfl (.inl rfl) (pe_op op_add (pe_op op_add (pe_op op_add (pv 5) pe_int) (pe_callB call_len_seq (by rfl) T.m_len PySem.boot_len (pa_cons (pv 6) pa_nil))) pe_int))
      (pss_one (ps_ret (pe_lst (pa_cons (pe_tup (pa_cons pe_str (pa_cons (pv 3) pa_nil))) (pa_cons (pe_tup (pa_cons pe_str (pa_cons (pv 7) pa_nil))) (StX.pa_star (pv 6) (pa_cons (pe_tup (pa_cons pe_str (pa_cons (pv 5) pa_nil))) pa_nil))))))))))), ?_⟩
    refine ⟨_, rfl, t, _, rfl, hS, rfl, _, _, rfl, _, _, rfl, _, _, rfl, rfl, ?_⟩
    refine ⟨_, rfl, _, _, rfl, rfl, ?_⟩
    refine ⟨_, rfl, _, rfl, _, _, rfl, rfl, x3, _, b, names, procs, rfl, h3, hN, hP, hb, by omega, fun H1 p1 xs1 s1 np1 hp1 hx1 => ?_⟩
    have l1 := dpAll_len hx1
    have z1 := blCode_len b (k + 1 + 1)
    refine ⟨_, rfl, _, _, rfl, rfl, _, rfl, p1, xs1, rfl, .inl (SqL.of hp1), _, _, rfl, rfl, _, _, rfl, rfl, ?_⟩
    refine ⟨_, rfl, small (by show 2 ≤ 5000; decide), fun t1 nt1 => ?_⟩
    have s2 := same_new (o := .tup [.str "begin", x2]) nt1
    generalize hH2 : upd H1 t1 (.tup [.str "begin", x2]) = H2 at s2 ⊢
    have ht1 : SqT K H2 t1 [.str "begin", x2] := by rw [← hH2]; exact SqT.of upd_same
    refine ⟨_, rfl, small (by show 2 ≤ 5000; decide), fun t2 nt2 => ?_⟩
    have s3 := same_new (o := .tup [.str "turn", .int (k + 1 + 1 + (xs1.length : Int) + 1)]) nt2
    generalize hH3 : upd H2 t2 (.tup [.str "turn", .int (k + 1 + 1 + (xs1.length : Int) + 1)]) = H3 at s3 ⊢
    have ht2 : SqT K H3 t2 [.str "turn", .int (k + 1 + 1 + (xs1.length : Int) + 1)] := by rw [← hH3]; exact SqT.of upd_same
    refine ⟨_, rfl, p1, xs1, rfl, .inr (SqL.of (s3 _ _ (s2 _ _ hp1))), ?_⟩
    refine ⟨_, rfl, small (by show 2 ≤ 5000; decide), fun t3 nt3 => ?_⟩
    have s4 := same_new (o := .tup [.str "again", .int (k + 1)]) nt3
    generalize hH4 : upd H3 t3 (.tup [.str "again", .int (k + 1)]) = H4 at s4 ⊢
    have ht3 : SqT K H4 t3 [.str "again", .int (k + 1)] := by rw [← hH4]; exact SqT.of upd_same
    refine ⟨small ?_, fun p np => ?_⟩
    · show (V.ref t1 :: V.ref t2 :: (xs1 ++ [V.ref t3])).length ≤ 5000
      simp only [List.length_cons, List.length_append, List.length_nil]
      omega
    have s24 := (s2.trans s3).trans s4
    have s04 := s1.trans s24
    have s6 := same_new (o := .lst (V.ref t1 :: V.ref t2 :: (xs1 ++ [V.ref t3]))) np
    refine q _ p _ (s04.trans s6) (s04.free np) upd_same ?_
    have k6 := Same.tk s6
    simp only [St.code]
    have kk1 := dpAll_keep ((Same.tk s24).trans k6) hx1 (blCode_tup hN hP m b _ hb)
    have a1 := dp_t2 (Same.sqt (((s3.trans s4)).trans s6) ht1) (.str _) (dp_keep (Same.tk (s04.trans s6)) h2 te)
    have a2 := dp_t2 (Same.sqt (s4.trans s6) ht2) (.str _) (.int (k + 1 + 1 + (xs1.length : Int) + 1))
    have a3 := dp_t2 (Same.sqt s6 ht3) (.str _) (.int (k + 1))
    rw [l1] at a2
    exact .cons a1 (.cons a2 (dpAll_app kk1 (.cons a3 .nil)))
theorem ok_statement_code (T : PgF K mg) {n : Nat} (hI : FnOk P w K mg base CX0 (3 * n + 2) T.f_if_code T.fd_if_code ["statement", "start"] (sp_ite_code K n))
    (hW : FnOk P w K mg base CX0 (3 * n + 2) T.f_while_code T.fd_while_code ["statement", "start"] (sp_whl_code K n)) (hR : FnOk P w K mg base CX0 (3 * n + 2) T.f_repeat_code T.fd_repeat_code ["statement", "start"] (sp_rep_code K n)) :
    FnOk P w K mg base CX0 (3 * n + 3) T.f_statement_code T.fd_statement_code ["statement", "start"] (sp_statement_code K n) := by
  refine T.D_statement_code.F.ok sc_statement_code (fun vs H Q E h => ?_) (fun cdv A outer s H vs Q E hr h => ?_)
  · obtain ⟨v, k, s, names, procs, rfl, _⟩ := h
    rfl
  · obtain ⟨v, k, s, names, procs, rfl, hd, hN, hP, ok, hsz, q⟩ := h
    have nd := sc_statement_code.nd
    have hd0 := hd
    obtain ⟨wd, ds, hD⟩ : ∃ (wd : Str) (ds : List PyData), s.D = .tuple (.str wd :: ds) := by cases s <;> exact ⟨_, _, by simp only [St.D]; rfl⟩
    rw [hD] at hd
    obtain ⟨a, zs, rfl, hS1, hA⟩ := dp_tup hd
    obtain ⟨ys, rfl⟩ : ∃ ys, zs = .str wd :: ys := by
      cases hA with
      | cons x y =>
        obtain rfl := dp_str x
        exact ⟨_, rfl⟩
    refine ⟨_, (pss_cons (ps_set (i := 2) nd rfl (.inl rfl) (pe_ix (r := rIxT K) ix_tup (pv 0) pe_int (fun _ _ => rfl)))
      (pss_cons (ps_if (pt_cmpR op_eq (pv 2) pe_str (nomark _))
      (pss_one (ps_ret (pe_call (hI.mono (by omega)) hr (by rfl) T.D_if_code.g T.D_if_code.kp T.D_if_code.b .nil pass0 (pa_cons (pv 0) (pa_cons (pv 1) pa_nil)))))
      pss_nil)
      (pss_cons (ps_if (pt_cmpR op_eq (pv 2) pe_str (nomark _))
      (pss_one (ps_ret (pe_call (hW.mono (by omega)) hr (by rfl) T.D_while_code.g T.D_while_code.kp T.D_while_code.b .nil pass0 (pa_cons (pv 0) (pa_cons (pv 1) pa_nil)))))
      pss_nil)
      (pss_cons (ps_if (pt_cmpR op_eq (pv 2) pe_str (nomark _))
      (pss_one (ps_ret (pe_call (hR.mono (by omega)) hr (by rfl) T.D_repeat_code.g T.D_repeat_code.kp T.D_repeat_code.b .nil pass0 (pa_cons (pv 0) (pa_cons (pv 1) pa_nil)))))
      pss_nil)
      (pss_one (ps_ret (pe_lst (pa_cons (pv 0) pa_nil)))))))), ?_⟩
    refine ⟨_, rfl, a, _, _, _, rfl, rfl, hS1, atI_nat (j := 0) rfl, ?_⟩
    have simple : s.code k = [s.D] → ∀ p, H p = none → Q (.ref p) (upd H p (.lst [.ref a])) := fun e p np => by
      refine q _ p _ (same_new np) np upd_same ?_
      rw [e]
      exact .cons (dp_keep (Same.tk (same_new np)) hd0 (St.tup hN hP n s ok)) .nil
    have l1 : (1 : Nat) ≤ sizeLine := small (by decide)
    cases s with
    | ite e x y =>
      simp only [St.D, PyData.tuple.injEq, List.cons.injEq, PyData.str.injEq] at hD
      obtain ⟨rfl, rfl⟩ := hD
      refine ⟨_, rfl, rfl, _, rfl, iteT ?_⟩
      exact ⟨_, rfl, _, rfl, _, k, e, x, y, names, procs, rfl, hd0, hN, hP, ok, hsz, q⟩
    | whl e y =>
      simp only [St.D, PyData.tuple.injEq, List.cons.injEq, PyData.str.injEq] at hD
      obtain ⟨rfl, rfl⟩ := hD
      refine ⟨_, rfl, rfl, _, rfl, iteF ⟨_, rfl, rfl, _, rfl, iteT ?_⟩⟩
      exact ⟨_, rfl, _, rfl, _, k, e, y, names, procs, rfl, hd0, hN, hP, ok, hsz, q⟩
    | rep e y =>
      simp only [St.D, PyData.tuple.injEq, List.cons.injEq, PyData.str.injEq] at hD
      obtain ⟨rfl, rfl⟩ := hD
      refine ⟨_, rfl, rfl, _, rfl, iteF ⟨_, rfl, rfl, _, rfl, iteF ⟨_, rfl, rfl, _, rfl, iteT ?_⟩⟩⟩
      exact ⟨_, rfl, _, rfl, _, k, e, y, names, procs, rfl, hd0, hN, hP, ok, hsz, q⟩
    | set x e =>
      simp only [St.D, PyData.tuple.injEq, List.cons.injEq, PyData.str.injEq] at hD
      obtain ⟨rfl, rfl⟩ := hD
      refine ⟨_, rfl, rfl, _, rfl, iteF ⟨_, rfl, rfl, _, rfl, iteF ⟨_, rfl, rfl, _, rfl, iteF ?_⟩⟩⟩
      exact ⟨_, rfl, l1, simple rfl⟩
    | swap x e =>
      simp only [St.D, PyData.tuple.injEq, List.cons.injEq, PyData.str.injEq] at hD
      obtain ⟨rfl, rfl⟩ := hD
      refine ⟨_, rfl, rfl, _, rfl, iteF ⟨_, rfl, rfl, _, rfl, iteF ⟨_, rfl, rfl, _, rfl, iteF ?_⟩⟩⟩
      exact ⟨_, rfl, l1, simple rfl⟩
    | print e =>
      simp only [St.D, PyData.tuple.injEq, List.cons.injEq, PyData.str.injEq] at hD
      obtain ⟨rfl, rfl⟩ := hD
      refine ⟨_, rfl, rfl, _, rfl, iteF ⟨_, rfl, rfl, _, rfl, iteF ⟨_, rfl, rfl, _, rfl, iteF ?_⟩⟩⟩
      exact ⟨_, rfl, l1, simple rfl⟩
    | call e =>
      simp only [St.D, PyData.tuple.injEq, List.cons.injEq, PyData.str.injEq] at hD
      obtain ⟨rfl, rfl⟩ := hD
      refine ⟨_, rfl, rfl, _, rfl, iteF ⟨_, rfl, rfl, _, rfl, iteF ⟨_, rfl, rfl, _, rfl, iteF ?_⟩⟩⟩
      exact ⟨_, rfl, l1, simple rfl⟩
/-- all of them, by the depth -/
theorem ok_codes (T : PgF K mg) : ∀ n : Nat, FnOk P w K mg base CX0 (3 * n + 1) T.f_block_code T.fd_block_code ["block", "start"] (sp_block_code K n)
  | 0 => FnOk.none
  | n + 1 => ok_block_code T (ok_statement_code T (ok_if_code T (ok_codes T n)) (ok_while_code T (ok_codes T n)) (ok_repeat_code T (ok_codes T n)))
end
end Sp1

set_option Elab.async false
set_option linter.all false
set_option maxRecDepth 100000
set_option maxHeartbeats 4000000
namespace PySem.W
open PySem PySem.Calls PyProof.Rows Builtin
section
variable {prog : Program} {w : World} {A : Around} {E : Value → Shared → Prop} {s : Shared} {K : Frag} {x C L f : Addr} {h₀ : Heap} {m : Str → Option Value} {ox : Obj} {od : Option Obj} {b tb : Value}
theorem own_ne_K {Q : Value → Shared → Prop} (hu : A.units < cLine) (hu1 : A.in1.units < cLine) (FF : Fr h₀ L s.heap m) (X₀ : K.In h₀) (I : InstAt s.heap x ox C od) (hb : Looks (model prog w) s.heap (typeOf b) tb) (hn : notFirst K C tb = true)
    (hs : findIn K (.ref C) "__eq__" = some (some (.ref f))) (hf : isFn K (.ref f) = true) (hne : findIn K (.ref C) "__ne__" = some (some (.builtin "object.__ne__"))) (hm : mroIn K C (.type "object") = some true)
    (h : wpAny (model prog w) A.in1 (call (.ref f) [.ref x, b]) (fun v s' => ∃ c, v = .bool c ∧ Q (.bool (!c)) s') E s) : wpAny (model prog w) A (richCompare .NotEq (.ref x) b) Q E s := by
  have X := X₀.keeps FF.keep
  have hi : Looks (model prog w) s.heap (isInstance (.ref x) (.type "object")) true := I.type.andThen (looks_mroIn X hm)
  have body : ∀ R : Result → Shared → Prop, (∀ c s', Q (.bool c) s' → R (.ok (.ret (.bool c))) s') → (∀ e s', E e s' → R (.error e) s') →
      wpAny (model prog w) A.in1 (Builtin.«object.__ne__» ⟨[.ref x, b], []⟩) (GQ.FinOf prog w A R) (fun e s' => R (.error e) s') s := by
    intro R hR hE
    unfold Builtin.«object.__ne__»
    repeat (first
      | with_reducible refine wpAny_cRoomFor hu1 ?_
      | (refine wpAny_bind (m := callSpecialIfBound? (.ref x) (Str.ofString "__eq__") [b])
          (ifBound_K X I hs hf (wpAny_mono h (fun r s' hr => by
            obtain ⟨c, rfl, hq⟩ := hr
            have hq' := hR _ _ hq
            repeat (first | exact hq' | exact wpAny_pure hq' | exact wpAny_truthy_bool hq' | (refine wpAny_bind (m := truthy (.bool _)) (wpAny_truthy_bool ?_)) | wp_step)) fun _ _ e => hE _ _ e)))
      | wp_step)
  have own_call : ∀ {Q' : Value → Shared → Prop}, wpAny (model prog w) A.in1 (Builtin.«object.__ne__» ⟨[.ref x, b], []⟩) (GQ.FinOf prog w A (wants Q' E)) (fun e s' => wants Q' E (.error e) s') s → wpAny (model prog w) A (call (.builtin "object.__ne__") ([.ref x] ++ [b])) Q' E s := fun h =>
    wpAny_call (codeAny_call_builtin F.cmp_object.ne.plain F.cmpEntry_ne (check_slot F.cmpKind_ne F.cmpSplit_ne hi (F.cmpArgs_ne _ _) h))
  have one : wpAny (model prog w) A (tryCompare (.ref x) "__ne__" b) (fun r s' => ∃ v, r = some v ∧ Q v s') E s := by
    unfold tryCompare
    refine wpAny_bind ?_
    simp only [callSpecialIfBound?, bindSpecialIfBound?]
    refine wpAny_holding (wpAny_bind (wpAny_bind (wpAny_bind (I.type.here ((looks_findIn X hne).here ?_)))))
    refine wpAny_bind (wpAny_askSetting (wpAny_ite ?_))
    have hbd := F.cmp_object.ne.bind (.ref x)
    have fin : wpAny (model prog w) A (call (.builtin "object.__ne__") ([.ref x] ++ [b]) >>= fun v => pure (some v)) (fun r s' => wpAny (model prog w) A (match r with | some .notImplemented | none => pure none | some v => pure (some v)) (fun r s' => ∃ v, r = some v ∧ Q v s') E s') E s := by
      refine wpAny_bind (own_call (body _ (fun c s' q => ?_) (fun e s' q => q)))
      exact wpAny_pure (wpAny_pure ⟨_, rfl, q⟩)
    split
    · rw [hbd]
      exact wpAny_bind (wpAny_pure (wpAny_pure (by exact fin)))
    · rw [hbd]
      exact wpAny_tryCatch (wpAny_bind (wpAny_pure (wpAny_pure (by exact fin))))
  unfold richCompare
  simp only [oneThing_ref]
  refine wpAny_holding (wpAny_bind (wpAny_cRoomFor hu ?_))
  refine wpAny_bind (I.type.here (wpAny_bind (hb.here ?_)))
  split
  · rename_i q
    have e : subIn K tb (.ref C) = some false := by
      rcases Bool.or_eq_true_iff.mp hn with e | e
      · rw [beq_iff_eq.mp e] at q; simp at q
      · exact beq_iff_eq.mp e
    refine wpAny_bind ((looks_subIn X e).here ?_)
    simp only [Bool.false_eq_true, if_false]
    refine wpAny_bind (wpAny_mono one (fun r s' z => ?_) fun _ _ e => e)
    obtain ⟨v, rfl, hq⟩ := z
    exact wpAny_pure hq
  · refine wpAny_bind (wpAny_pure ?_)
    simp only [Bool.false_eq_true, if_false]
    refine wpAny_bind (wpAny_mono one (fun r s' z => ?_) fun _ _ e => e)
    obtain ⟨v, rfl, hq⟩ := z
    exact wpAny_pure hq
end
end PySem.W

namespace Sp1
open PySem PySem.Spec PyProof.Rows L2
section
variable {X : Cx} {pins : List (Addr × Obj)} {σ : L2.St} {H : Hp} {s : Shared}
abbrev in1x (X : Cx) : Cx := { X with A := X.A.in1 }
theorem inv_in1 (I : Inv X pins σ H s) : Inv (in1x X) pins σ H s :=
  ⟨⟨I.ok.mod, I.ok.kind, I.ok.glob, I.ok.blt, I.ok.above, I.ok.inj, I.ok.has, I.ok.cab, I.ok.hd, I.ok.frames, I.ok.stk, I.ok.exf, I.ok.bs, I.ok.bsz, I.ok.noex, I.ok.exfs, I.ok.funs, I.ok.frf⟩, I.os, I.bare, I.base, I.loc, I.cell, I.free, I.freeC, I.pin, I.hok, I.len⟩
theorem inv_out1 (ok : X.Ok) (I : Inv (in1x X) pins σ H s) : Inv X pins σ H s :=
  ⟨ok, I.os, I.bare, I.base, I.loc, I.cell, I.free, I.freeC, I.pin, I.hok, I.len⟩
end
section
variable {X : Cx}
/-- what is read of the second operand of an own == -/
abbrev rOwnCmp (K : PySem.W.Frag) (C : Addr) (sp : Sp) (g : Bool → V) : R2 := fun x y H Q => ∃ a dx fs t, x = V.ref a ∧ H a = some (.ins C dx fs) ∧ TyX K H y t ∧ PySem.W.notFirst K C t = true ∧ sp [.ref a, y] H (fun v H' => ∃ b : Bool, v = .bl b ∧ Q (g b) H') (fun _ _ _ => False)
theorem op_eqOwn {k : Nat} {C f : Addr} {fd : FuncData} {sp : Sp} {a1 a2 : Str} (F : FnOk X.prog X.w X.K X.mg X.base CX0 k f fd [a1, a2] sp) (hr : Room (k + 1) X.A) (hb : L2.Binds X.K fd [a1, a2] [])
    (hs : PySem.W.findIn X.K (.ref C) "__eq__" = some (some (.ref f))) (hf : PySem.W.isFn X.K (.ref f) = true) : OpR X (compareOp .Eq) (rOwnCmp X.K C sp V.bl) := by
  intro pins s σ H x y v u Q I rx ry h
  obtain ⟨a, dx, fs, t, rfl, ea, ty, hn, q⟩ := h
  obtain rfl : v = Value.ref a := rx
  obtain ⟨mA, O, _, _, _, _⟩ := ins_get I.hok ea
  obtain ⟨od, J, _⟩ := O.look
  obtain ⟨m, Fm⟩ := I.fr
  obtain ⟨P, Z, p, _⟩ := kit_of I ry ty
  refine PySem.W.cmp_K (op := .Eq) hr.units0 Fm I.ok.mod.kin J (Z.ty _ _ I.kIn p) hn hs hf ?_
  refine thn (run_fn (X := X) (vs := [.ref a, y]) (us := [.ref a, u]) F (hr.mono (by omega)) hb .nil pass0 I (.cons rfl (.cons ry .nil)) q) fun w s' hw => ?_
  obtain ⟨z, H', I', rv, b, rfl, q'⟩ := hw
  obtain rfl : w = Value.bool b := rv
  exact ⟨.bl b, H', I', rfl, q'⟩
theorem op_neOwn {k : Nat} {C f : Addr} {fd : FuncData} {sp : Sp} {a1 a2 : Str} (F : FnOk X.prog X.w X.K X.mg X.base CX0 k f fd [a1, a2] sp) (hr : Room (k + 2) X.A) (hb : L2.Binds X.K fd [a1, a2] [])
    (hs : PySem.W.findIn X.K (.ref C) "__eq__" = some (some (.ref f))) (hf : PySem.W.isFn X.K (.ref f) = true) (hne : PySem.W.findIn X.K (.ref C) "__ne__" = some (some (.builtin "object.__ne__"))) (hm : PySem.W.mroIn X.K C (.type "object") = some true) :
    OpR X (compareOp .NotEq) (rOwnCmp X.K C sp fun b => V.bl (!b)) := by
  intro pins s σ H x y v u Q I rx ry h
  obtain ⟨a, dx, fs, t, rfl, ea, ty, hn, q⟩ := h
  obtain rfl : v = Value.ref a := rx
  obtain ⟨mA, O, _, _, _, _⟩ := ins_get I.hok ea
  obtain ⟨od, J, _⟩ := O.look
  obtain ⟨m, Fm⟩ := I.fr
  obtain ⟨P, Z, p, _⟩ := kit_of I ry ty
  have hr' : Room (k + 1) X.A := hr.mono (by omega)
  refine PySem.W.own_ne_K hr.units0 hr.in1.units0 Fm I.ok.mod.kin J (Z.ty _ _ I.kIn p) hn hs hf hne hm ?_
  refine thn (run_fn (X := in1x X) (vs := [.ref a, y]) (us := [.ref a, u]) F hr'.in1 hb .nil pass0 (inv_in1 I) (.cons rfl (.cons ry .nil)) q) fun w s' hw => ?_
  obtain ⟨z, H', I', rv, b, rfl, q'⟩ := hw
  obtain rfl : w = Value.bool b := rv
  exact ⟨b, rfl, .bl (!b), H', inv_out1 I.ok I', rfl, q'⟩
end
/-- what isinstance and object.__ne__ ask of a class -/
structure ObIs (K : PySem.W.Frag) (C : Addr) : Prop where
  ha : PySem.W.findIn K (.ref C) "__class__" = some (some (.builtin "object.__class__"))
  hn : PySem.W.specialIn K (.builtin "object.__class__") "__get__" = some (some (.builtin "getset_descriptor.__get__"))
  ht : PySem.W.takesIn K (.builtin "object.__class__") = some true
  hm : PySem.W.mroIn K C (.type "object") = some true
theorem ty_ins {K : PySem.W.Frag} {C : Addr} {H : Hp} {a : Addr} {dx : Addr} {fs : List (Str × V)} (h1 : H a = some (.ins C dx fs)) (c : Cls K C) (I : ObIs K C) : TyX K H (.ref a) (.ref C) := .base (.ins h1 c I.ha I.hn I.ht I.hm)
theorem kit_self {K : PySem.W.Frag} {t : Value} : PySem.W.kitOne K t t = some true := by
  unfold PySem.W.kitOne
  rw [if_pos (by simp)]
theorem first_self {K : PySem.W.Frag} {C : Addr} : PySem.W.notFirst K C (.ref C) = true := by
  unfold PySem.W.notFirst
  simp
/-! equal data -/
mutual
def plainD : PyData → Bool
  | .int _ => true
  | .str _ => true
  | .tuple ds => plainAll ds
  | _ => false
def plainAll : List PyData → Bool
  | [] => true
  | d :: ds => plainD d && plainAll ds
end
theorem plainAll_iff {ds : List PyData} : plainAll ds = true ↔ ∀ d ∈ ds, plainD d = true := by
  induction ds with
  | nil => simp [plainAll]
  | cons d r ih => simp [plainAll, ih]
mutual
theorem eqv_eq : ∀ d e : PyData, plainD d = true → plainD e = true → PyData.eqv d e = true → d = e
  | .int i, .int j, _, _, h => by
    have h : decide (i = j) = true := h
    rw [of_decide_eq_true h]
  | .str i, .str j, _, _, h => by
    have h : decide (i = j) = true := h
    rw [of_decide_eq_true h]
  | .tuple ds, .tuple es, h1, h2, h => by
    simp only [plainD] at h1 h2
    rw [eqvAll_eq ds es h1 h2 h]
  | .int _, .str _, _, _, h => by cases h
  | .int _, .tuple _, _, _, h => by cases h
  | .str _, .int _, _, _, h => by cases h
  | .str _, .tuple _, _, _, h => by cases h
  | .tuple _, .int _, _, _, h => by cases h
  | .tuple _, .str _, _, _, h => by cases h
  | .none, _, h, _, _ => by simp [plainD] at h
  | .bool _, _, h, _, _ => by simp [plainD] at h
  | .list _, _, h, _, _ => by simp [plainD] at h
  | .dict _, _, h, _, _ => by simp [plainD] at h
  | _, .none, _, h, _ => by simp [plainD] at h
  | _, .bool _, _, h, _ => by simp [plainD] at h
  | _, .list _, _, h, _ => by simp [plainD] at h
  | _, .dict _, _, h, _ => by simp [plainD] at h
theorem eqvAll_eq : ∀ ds es : List PyData, plainAll ds = true → plainAll es = true → PyData.eqvAll ds es = true → ds = es
  | [], [], _, _, _ => rfl
  | [], _ :: _, _, _, h => by cases h
  | _ :: _, [], _, _, h => by cases h
  | d :: ds, e :: es, h1, h2, h => by
    simp only [plainAll, Bool.and_eq_true] at h1 h2
    have h : (PyData.eqv d e && PyData.eqvAll ds es) = true := h
    rw [Bool.and_eq_true] at h
    rw [eqv_eq d e h1.1 h2.1 h.1, eqvAll_eq ds es h1.2 h2.2 h.2]
end
theorem eqv_ne {d e : PyData} (h1 : plainD d = true) (h2 : plainD e = true) (h : d ≠ e) : PyData.eqv d e = false := by
  rw [Bool.eq_false_iff]
  exact fun z => h (eqv_eq d e h1 h2 z)
end Sp1

set_option Elab.async false
set_option linter.all false
set_option maxRecDepth 100000
set_option maxHeartbeats 4000000
/-! t[::-1], t a tuple -/
namespace HT
open PySem PyProof.Rows
section
variable {prog : Program} {w : World} {A : Around} {E : Value → Shared → Prop} {s : Shared}
theorem places_rev (n : Nat) : Builtin.Slice.slicePlaces ((n : Int) - 1) (-1) (-1) = n := by
  unfold Builtin.Slice.slicePlaces
  have h1 : ¬ ((-1 : Int) > 0) := by omega
  simp only [h1, if_false]
  by_cases h : (n : Int) - 1 > -1
  · rw [if_pos h, show -(-1 : Int) = 1 from rfl, Int.ediv_one]
    omega
  · rw [if_neg h]
    omega
theorem sliceApplied_rev {sl : Addr} {tk : Tok} {n : Nat} {Q : Int × Int × Nat → Shared → Prop} (hs : s.heap.IsSliceOf sl .none .none (.int (-1) tk))
    (h : Q ((n : Int) - 1, -1, n) s) : wpAny (model prog w) A (Builtin.Slice.sliceApplied (.ref sl) (pure (n : Int))) Q E s := by
  obtain ⟨os, hos, hcs, hds⟩ := id hs
  unfold Builtin.Slice.sliceApplied Builtin.Slice.sliceFields
  refine wpAny_bind (wpAny_bind (wpAny_field hos hds (x := .none) rfl (wpAny_bind (wpAny_field hos hds (x := .none) rfl (wpAny_bind (wpAny_field hos hds (x := .int (-1) tk) rfl (wpAny_pure ?_)))))))
  refine wpAny_bind (slicePart_int ?_)
  show wpAny _ _ (if ((-1 : Int) == 0) = true then _ else _) _ _ s
  rw [if_neg (by decide)]
  refine wpAny_bind (slicePart_none (wpAny_bind (slicePart_none (wpAny_bind (wpAny_pure ?_)))))
  show wpAny _ _ (pure ((n : Int) - 1, (-1 : Int), Builtin.Slice.slicePlaces ((n : Int) - 1) (-1) (-1))) _ _ s
  rw [places_rev]
  exact wpAny_pure h
theorem pick_rev (xs : Array Value) : ((List.range xs.size).filterMap fun (m : Nat) => xs[((xs.size : Int) - 1 + (m : Int) * -1).toNat]?).toArray = xs.toList.reverse.toArray := by
  congr 1
  have e : ∀ n, n ≤ xs.size → ((List.range n).filterMap fun (m : Nat) => xs[((xs.size : Int) - 1 + (m : Int) * -1).toNat]?) = xs.toList.reverse.take n := by
    intro n
    induction n with
    | zero => intro _; simp
    | succ n ih =>
      intro hn
      rw [List.range_succ, List.filterMap_append, ih (by omega)]
      have e1 : ((xs.size : Int) - 1 + (n : Int) * -1).toNat = xs.size - 1 - n := by omega
      have hl : n < xs.toList.reverse.length := by simp; omega
      rw [List.take_add_one, List.getElem?_eq_getElem hl]
      simp only [List.filterMap_cons, List.filterMap_nil, e1, Option.toList]
      have h2 : xs.size - 1 - n < xs.size := by omega
      rw [Array.getElem?_eq_getElem h2]
      simp [List.getElem_reverse]
  rw [e _ (Nat.le_refl _)]
  exact List.take_of_length_le (by simp)
theorem getItem_tuple_rev {t sl : Addr} {items : Array Value} {tk : Tok} {Q : Value → Shared → Prop} (ht : IsTup s.heap t items) (hs : s.heap.IsSliceOf sl .none .none (.int (-1) tk))
    (h : Q (.ref s.heap.objs.size) { s with heap := s.heap.push { cls := .type "tuple", data := .seq items.toList.reverse.toArray } })
    (hsz : items.size ≤ sizeLine) : wpAny (model prog w) A (getItem (.ref t) (.ref sl)) Q E s := by
  have htake : sizeOk (.seq items.toList.reverse.toArray) := by
    show items.toList.reverse.toArray.size ≤ sizeLine
    rw [List.size_toArray, List.length_reverse, Array.length_toList]
    exact hsz
  obtain ⟨os, hos, hcs, hds⟩ := id hs
  have hTs : s.TypeIs (.ref sl) "slice" := ⟨os, hos, hcs⟩
  unfold getItem
  try with_reducible refine wpAny_holding ?_
  first | refine wpAny_bind (wpAny_pure ?_) | skip
  refine wpAny_bind (wpAny_sequenceKey ht.typeIs (by decide) ?_)
  refine wpAny_bind (wpAny_callSpecial?_slot (name := Str.ofString "__getitem__") ht.typeIs PyProof.Rows.slot_tuple_getitem
    (wpAny_call_entry PyProof.Rows.slot_tuple_getitem ht.typeIs entry_tuple_getitem ?_ (args_tuple_getitem _ _)))
  show wpAny _ _ (Builtin.Tuple.tupleItemsOf (.ref t) >>= _) _ _ s
  refine wpAny_bind (tupleItemsOf_ ht ?_)
  refine wpAny_bind (wpAny_typeOf hTs ?_)
  rw [if_pos (by decide)]
  refine wpAny_bind (sliceApplied_rev hs ?_)
  have hno : ¬ ((((items.size : Int) - 1) == 0 && (-1 : Int) == 1 && items.size == items.size) = true) := by
    intro q
    rw [Bool.and_eq_true, Bool.and_eq_true] at q
    exact absurd q.1.2 (by decide)
  show wpAny _ _ (if (((items.size : Int) - 1) == 0 && (-1 : Int) == 1 && items.size == items.size) = true then _ else _) _ _ s
  rw [if_neg hno, pick_rev]
  first
    | exact wpAny_bind (m := Builtin.Tuple.tupleExact _) (wpAny_newObj_type (wpAny_pure ⟨_, rfl, wpAny_pure h⟩) htake)
    | exact wpAny_bind (m := Builtin.Tuple.tupleExact _) (wpAny_newObj_type (wpAny_bind (wpAny_pure (wpAny_pure ⟨_, rfl, wpAny_pure h⟩))) htake)
    | exact wpAny_bind (wpAny_bind (m := Builtin.Tuple.tupleExact _) (wpAny_newObj_type (wpAny_pure (wpAny_pure ⟨_, rfl, wpAny_pure h⟩)) htake))
    | exact wpAny_bind (wpAny_bind (m := Builtin.Tuple.tupleExact _) (wpAny_newObj_type (wpAny_pure ⟨_, rfl, wpAny_pure h⟩) htake))
end
end HT
namespace Sp1
open PySem PySem.Spec PyProof.Rows L2
section
variable {X : Cx} {e se : Expr} {te ts : TE} {pos p2 : Pos}
def tRevT (K : PySem.W.Frag) (te ts : TE) : TE := fun σ H Q => te σ H fun x H1 => ts σ H1 fun v H2 => v = .int (-1) ∧ ∃ a xs, x = .ref a ∧ SqT K H2 a xs ∧ ∀ p, H2 p = none → Q (.ref p) (upd H2 p (.tup xs.reverse))
theorem vals_rev : ∀ {xs : List V} {us : List Value}, Vals xs us → Vals xs.reverse us.reverse
  | _, _, .nil => .nil
  | _, _, .cons r t => by
    rw [List.reverse_cons, List.reverse_cons]
    exact (vals_rev t).append (.cons r .nil)
theorem pe_revT (he : PE X e te) (hs : PE X se ts) : PE X (.Subscript e (.Slice none none (some se) p2) pos) (tRevT X.K te ts) := by
  refine ⟨fun pins s σ H Q I h => ?_⟩
  refine Subscript_ (thn (he.run pins s σ H _ I h) fun v s1 ⟨x, H1, I1, r1, q1⟩ => ?_)
  refine wpAny_Slice ?_
  rw [evalPart_none]
  refine wpAny_pure ?_
  refine wpAny_pure ?_
  rw [evalPart_some]
  refine thn (hs.run pins s1 σ H1 _ I1 q1) fun vs s3 ⟨y, H3, I3, r3, q3⟩ => ?_
  obtain ⟨rfl, a, xs, rfl, hx, q⟩ := q3
  obtain ⟨t, rfl⟩ := r3
  obtain rfl : v = Value.ref a := r1
  have I4 : Inv X pins σ H3 { s3 with heap := s3.heap.push { cls := .type "slice", data := .fields #[.none, .none, .int (-1) t] } } := I3.kept (t' := s3.toks) fun b ob q => Heap.get?_push_of_some _ q
  obtain ⟨its, r, ht, hz⟩ := I4.tuple hx
  show wpAny (model X.prog X.w) X.A (subscriptTail e (.Slice none none (some se) p2) (.ref a) (.ref s3.heap.objs.size)) (EP X pins σ Q) X.xe { s3 with heap := s3.heap.push { cls := .type "slice", data := .fields #[.none, .none, .int (-1) t] } }
  refine tail_any (ops := [.ref a, .ref s3.heap.objs.size]) ht.typeIs PyProof.Rows.slot_tuple_getitem.lookup ?_ (by with_unfolding_all rfl)
  refine HT.getItem_tuple_rev ht (Heap.IsSliceOf.new ..) ?_ (by rw [List.size_toArray]; rw [← r.length]; exact hz)
  refine ⟨.ref _, _, I4.laid (o := .tup xs.reverse) (fun b ob q => Heap.get?_push_of_some _ q) (Nat.le_refl _) ?_, rfl, q _ (I4.hok.fresh (Nat.le_refl _))⟩
  refine ⟨by rw [List.length_reverse]; exact hz, _, vals_rev r, ?_⟩
  exact IsTup.new _ _
end
end Sp1

set_option Elab.async false
set_option linter.all false
set_option maxRecDepth 100000
set_option maxHeartbeats 4000000
namespace Sp1
open PySem PySem.W PySem.Spec PyProof.Rows L2
theorem nodup_len {α : Type} {ys xs : List α} (h : ys.Nodup) (h' : ∀ k ∈ ys, k ∈ xs) : ys.length ≤ xs.length := List.Nodup.length_le_of_subset h h'
section
variable {P : Program} {w : World} {A : Around} {E : Value → Shared → Prop} {s : Shared}
/-- a text that is in it changes nothing -/
theorem addT_old {a : Addr} {k : Str} {tk : Tok} {xs : List Str} {Q : Bool → Shared → Prop} (S : SetS w s.heap a xs) (old : k ∈ xs) (q : Q false s) :
    wpAny (model P w) A (setAddHashed a (.str k tk) ((strKind P w).hash k)) Q E s := by
  obtain ⟨nd, o, es, ep, t, ho, hex, hd, g, hp, hb, hf, hr, hl⟩ := S
  have sc : (Value.str k tk).scannable = true := rfl
  have el : ElemsOf (strKind P w) es.toList := good_elemsT g
  obtain ⟨j, yes⟩ : ∃ j, List.findIdx? (fun e => (strKind P w).is k e.2) es.toList = some j := by
    cases e : List.findIdx? (fun e => (strKind P w).is k e.2) es.toList with
    | some j => exact ⟨j, rfl⟩
    | none =>
      exfalso
      obtain ⟨e', he, hk⟩ := List.mem_map.mp (hp.mem_iff.mpr old)
      have := List.findIdx?_eq_none_iff.mp e e' he
      obtain ⟨x, tk', h1, _⟩ := g e' he
      unfold skey at hk
      rw [h1] at hk this
      have hk : x = k := hk
      subst hk
      rw [strKind_is P w x tk'] at this
      cases this
  unfold setAddHashed setAddHashedIn
  refine wpAny_holding (wpAny_bind (wpAny_setState_of ho hd hf ?_))
  dsimp only
  rw [byScan_of sc hb el]
  simp only [↓reduceIte]
  unfold setAddByScan
  refine wpAny_bind (wpAny_bind (wpAny_rule (wpAny_bind (wpAny_setScan_of (strKind_is P w k tk) ho hd hf el ?_))))
  rw [yes]
  exact wpAny_pure (wpAny_pure q)
/-- one after another -/
theorem updTd {I : Addr} {fp wr : List Addr} {G : Array GenState → Array GenState → Prop} {n : Nat} {Pv : Nat → Value → Prop} {St : Nat → Shared → Prop} {R : Result → Shared → Prop} (W : WalksS P w A.in1 I fp wr G n Pv St) (S : Addr) (hS : S ∉ fp) (xs : List Str) (hn : n = xs.length)
    (hb : xs.length + 1 < scanBound) (val : ∀ i v, Pv i v → ∃ k t, xs[i]? = some k ∧ v = .str k t) : ∀ (m i : Nat) (z : Shared) (ys : List Str), n - i = m → i ≤ n → St i z → SetS w z.heap S ys → (∀ k, k ∈ ys ↔ k ∈ xs.take i) →
      (∀ z' ys, Moved (S :: wr) G z z' → SetS w z'.heap S ys → (∀ k, k ∈ ys ↔ k ∈ xs) → R (.ok (.ret .none)) z') → codeAny (model P w) A (.builtin "set.update.loop" ⟨[.ref S, .ref I], []⟩) R z := by
  have hSw : S ∉ wr := fun h => hS (W.sub _ h)
  have sub : ∀ b ∈ wr, b ∈ S :: wr := fun b => List.mem_cons_of_mem _
  intro m
  induction m with
  | zero =>
    intro i z ys hm hi hst hSet hp hR
    obtain rfl : i = n := by omega
    refine codeAny_builtin PyProof.Rows.F.entry_set_update_loop ?_
    rw [Around.under_plainId PyProof.Rows.F.plain_set_update_loop _]
    refine wpAny_bind (m := pyNext (.ref I)) (W.done z _ _ hst fun z' hm => ?_)
    rw [List.take_of_length_le (by omega)] at hp
    exact wpAny_pure (hR z' ys (hm.mono sub) (hSet.keeps fun o e => hm.heap S o hSw e) hp)
  | succ m ih =>
    intro i z ys hm hi hst hSet hp hR
    have lt : i < n := by omega
    refine codeAny_builtin PyProof.Rows.F.entry_set_update_loop ?_
    rw [Around.under_plainId PyProof.Rows.F.plain_set_update_loop _]
    refine wpAny_bind (m := pyNext (.ref I)) (W.item i z _ _ lt hst fun v z' hv hst' hm => ?_)
    obtain ⟨k, t, hk, rfl⟩ := val i v hv
    have S' := hSet.keeps (h' := z'.heap) fun o e => hm.heap S o hSw e
    have yl : ys.length ≤ i := by
      have h1 := nodup_len S'.1 fun k hk => (hp k).mp hk
      rw [List.length_take] at h1
      omega
    refine wpAny_bind (m := holding [Value.str k t] (setAdd S (.str k t))) (wpAny_holding ?_)
    unfold setAdd
    refine wpAny_holding (wpAny_bind ((strKind P w).pyHash (strKind_is P w k t) ?_))
    have next : ∀ (h' : Heap) (ys2 : List Str), Heap.SameBut S z'.heap h' → SetS w h' S ys2 → (∀ x, x ∈ ys2 ↔ x ∈ xs.take (i + 1)) → codeAny (model P w) A (.builtin "set.update.loop" ⟨[.ref S, .ref I], []⟩) R { z' with heap := h', toks := z'.toks + 1 } := fun h' ys2 sb r hp2 => by
      refine ih (i + 1) _ ys2 (by omega) lt (W.frame _ z' _ _ hst' (Nat.le_succ _) fun b hb o e => ?_) r hp2 fun z'' ys' hm'' r' p' => ?_
      · rw [sb.2 b (fun h : b = S => hS (by rw [← h]; exact hb))]
        exact e
      · refine hR z'' ys' (Moved.trans W.gtrans ((hm.mono sub).then_heap (Nat.le_succ _) fun b o hb e => ?_) hm'') r' p'
        rw [sb.2 b (fun h : b = S => hb (by rw [h]; exact List.mem_cons_self))]
        exact e
    have htk : xs.take (i + 1) = xs.take i ++ [k] := by
      rw [List.take_add_one, hk]
      rfl
    by_cases old : k ∈ ys
    · refine addT_old (s := { z' with toks := z'.toks + 1 }) S' old ?_
      refine wpAny_pure ⟨plainId_quiet PyProof.Rows.F.plain_set_update_loop _, next z'.heap ys (Heap.SameBut.refl _ _) S' fun x => ?_⟩
      rw [htk, List.mem_append, List.mem_singleton, ← hp x]
      exact ⟨.inl, fun h => h.elim id fun e => e ▸ old⟩
    · refine addT_new (s := { z' with toks := z'.toks + 1 }) S' old (by omega) fun h' sb r => ?_
      refine wpAny_pure ⟨plainId_quiet PyProof.Rows.F.plain_set_update_loop _, next h' (k :: ys) sb r fun x => ?_⟩
      rw [htk, List.mem_append, List.mem_singleton, ← hp x, List.mem_cons]
      exact ⟨Or.symm, Or.symm⟩
end
section
variable {P : Program} {w : World} {A : Around} {s : Shared}
/-- filling a new set from texts that differ, by any walk over them -/
theorem fillTd {S I : Addr} {h0 : Heap} {vs : Array Value} {xs : List Str} {it : Obj} {St : Nat → Shared → Prop} {R : Result → Shared → Prop} (hS : h0.get? S = some (set0 w)) (hI : I = h0.objs.size) {l : Addr} (W : WalksS P w A.in1 I [I, l] [I] (fun a b => b = a) vs.size (fun i v => vs[i]? = some v) St) (hl : l < h0.objs.size) (hlS : l ≠ S)
    (hv : StrsAre vs.toList xs) (hb : xs.length + 1 < scanBound) (st : St 0 { s with heap := h0.push it })
    (h1 : ∀ (h' : Heap) (tk : Nat) ys, SetS w h' S ys → (∀ k, k ∈ ys ↔ k ∈ xs) → (∀ b o, b ≠ S → h0.get? b = some o → h'.get? b = some o) → R (.ok (.ret .none)) { s with heap := h', toks := tk }) :
    codeAny (model P w) A (.builtin "set.update.loop" ⟨[.ref S, .ref I], []⟩) R { s with heap := h0.push it } := by
  have Sh : S < h0.objs.size := Heap.lt_size hS
  have size : vs.size = xs.length := (Array.length_toList.symm).trans hv.length
  have nS : S ∉ [I, l] := fun z => by
    rcases List.mem_cons.mp z with z | z
    · rw [hI] at z
      exact absurd z (Nat.ne_of_lt Sh)
    · exact hlS (List.mem_singleton.mp z).symm
  have empty : SetS w (h0.push it) S [] := ⟨List.nodup_nil, _, #[], 0, _, Heap.get?_push_of_some _ hS, ⟨rfl, rfl, rfl⟩, rfl, (fun e he => by simp at he), (List.Perm.refl _), by decide, rfl, List.Pairwise.nil, by
    cases h : w.params.followText "set-order"
    · exact .inr rfl
    · exact .inl rfl⟩
  refine updTd (P := P) (A := A) W S nS xs size hb (fun i v e => ?_) vs.size 0 _ [] rfl (Nat.zero_le _) st empty (fun k => Iff.rfl) fun s' ys m r p => ?_
  · have hi : i < xs.length := by
      have := (Array.getElem?_eq_some_iff.mp e).1
      omega
    obtain ⟨y, t, x, z⟩ := hv.item i v (by rw [Array.getElem?_toList]; exact e)
    exact ⟨y, t, z, x⟩
  · obtain ⟨hp, g, d, tk, os⟩ := s'
    obtain ⟨mh, mg, md, mo, _⟩ := m
    dsimp only at mg md mo mh r
    subst mg md mo
    refine h1 hp tk ys r p fun b o hb e => mh b o (fun z => ?_) (Heap.get?_push_of_some _ e)
    rcases List.mem_cons.mp z with z | z
    · exact hb z
    · have z := List.mem_singleton.mp z
      rw [hI] at z
      exact absurd z (Nat.ne_of_lt (Heap.lt_size e))
end
section
variable {X : Cx}
/-- set(l) of a list or a tuple of texts that differ -/
def rSetTd (K : PySem.W.Frag) (w : World) : List V → Hp → VK → Prop := fun vs H Q => ∃ (l : Addr) (xs : List Str), vs = [V.ref l] ∧ (SqL K H l (xs.map V.str) ∨ SqT K H l (xs.map V.str)) ∧ xs.length ≤ 1000 ∧
  ∀ (a : Addr) (ys : List Str), H a = none → ys.Nodup → (∀ k, k ∈ ys ↔ k ∈ xs) → Q (.ref a) (upd H a (SetSO w a ys))
theorem cr_setTd (hc : X.calm = true) : CallR X (.type "set") (rSetTd X.K X.w) := by
  intro pins s σ H vs us Q I r h
  obtain ⟨l, xs, rfl, hq, h1000, q⟩ := h
  rw [Vals.ref1 r]
  have hlt : ∀ b o, s.heap.get? b = some o → b ≠ s.heap.objs.size := fun b o e => Nat.ne_of_lt (Heap.lt_size e)
  have fin : ∀ (h' : Heap) (tk : Nat), (∃ ys, SetS X.w h' s.heap.objs.size ys ∧ ys.Nodup ∧ (∀ k, k ∈ ys ↔ k ∈ xs)) → (∀ b o, s.heap.get? b = some o → h'.get? b = some o) → EP X pins σ Q (.ref s.heap.objs.size) { s with heap := h', toks := tk } :=
    fun h' tk ⟨ys, S, p⟩ k => ⟨.ref _, upd H s.heap.objs.size (SetSO X.w s.heap.objs.size ys), I.laid (t' := tk) k (Nat.le_refl _) (setSO_new S), rfl, q _ _ (I.hok.fresh (Nat.le_refl _)) p.1 p.2⟩
  have push : ∀ b o, s.heap.get? b = some o → (s.heap.push (set0 X.w)).get? b = some o := fun b o e => Heap.get?_push_of_some _ e
  rcases hq with hl | hl
  · obtain ⟨its, rv, pl, hz⟩ := I.list hl
    obtain ⟨⟨oc, od, dt, os⟩, e1, e2, n, e3⟩ := id pl.isList
    dsimp only at e2 e3
    subst e2 e3
    refine set_of_walk (Φ := fun h' => ∃ ys, SetS X.w h' s.heap.objs.size ys ∧ ys.Nodup ∧ (∀ k, k ∈ ys ↔ k ∈ xs)) (I.ok.hd hc) e1 PySem.F.sub_list_set PySem.F.sub_list_frozenset (by decide) (fun A' R E' hh hR => ?_) fin
    have hl1 : (s.heap.push (set0 X.w)).IsList l its.toArray := ⟨_, push _ _ e1, rfl, n, rfl⟩
    have lt1 := Heap.lt_size (push _ _ e1)
    refine wpAny_pyIter_list hl1 ?_
    exact fillTd (s := s) (h0 := s.heap.push (set0 X.w)) (Heap.get?_push_size _ rfl) rfl (Walks.list (A := A'.in1) hh _ l (Nat.ne_of_lt lt1) its.toArray).toS lt1 (hlt _ _ e1) (by simpa using rv.strs) (by unfold scanBound; omega)
      ⟨⟨_, Heap.get?_push_size _ rfl, rfl, rfl⟩, hl1.push _⟩ fun h' tk ys S p k => hR h' tk ⟨ys, S, S.1, p⟩ fun b o e => k b o (hlt b o e) (push b o e)
  · obtain ⟨its, rv, pl, hz⟩ := I.tuple hl
    obtain ⟨⟨oc, od, dt, os⟩, e1, e2, n, e3⟩ := id pl
    dsimp only at e2 e3
    subst e2 e3
    refine set_of_walk (Φ := fun h' => ∃ ys, SetS X.w h' s.heap.objs.size ys ∧ ys.Nodup ∧ (∀ k, k ∈ ys ↔ k ∈ xs)) (I.ok.hd hc) e1 PySem.F.sub_tuple_set PySem.F.sub_tuple_frozenset (by decide) (fun A' R E' hh hR => ?_) fin
    have hl1 : (s.heap.push (set0 X.w)).IsTuple l its.toArray := ⟨_, push _ _ e1, rfl, n, rfl⟩
    have lt1 := Heap.lt_size (push _ _ e1)
    refine wpAny_pyIter_tuple hl1 ?_
    exact fillTd (s := s) (h0 := s.heap.push (set0 X.w)) (Heap.get?_push_size _ rfl) rfl (Walks.tuple (A := A'.in1) hh _ l (Nat.ne_of_lt lt1) its.toArray).toS lt1 (hlt _ _ e1) (by simpa using rv.strs) (by unfold scanBound; omega)
      ⟨⟨_, Heap.get?_push_size _ rfl, rfl, rfl⟩, hl1.push _⟩ fun h' tk ys S p k => hR h' tk ⟨ys, S, S.1, p⟩ fun b o e => k b o (hlt b o e) (push b o e)
end
end Sp1

set_option Elab.async false
set_option linter.all false
set_option maxRecDepth 100000
set_option maxHeartbeats 4000000
namespace PySem.SeqAt
open AutoSeq1 (wpAny_loadPart')
open MeetsSeq
theorem dict_eq_declines_str (l : Addr) (es : Array DictEntry) (n : Nat) (dd : Option Addr) (sl : Array (Option Value)) (b : Str) (u : Tok) :
    Meets (Builtin.«dict.__eq__» ⟨[.ref l, .str b u], []⟩) (fun _ R s => s.heap.get? l = some { cls := .type "dict", dict := dd, data := .dict es n, slots := sl } ∧ R (.ok (.ret .notImplemented)) s) :=
  .of_wp fun prog w A R s h => by obtain ⟨hp, g, d, tk, os⟩ := s; obtain ⟨hl, h⟩ := h; have f1 := F.sub_str_dict; wp_walk using wpAny_loadPart' hl; exact ⟨_, rfl, h⟩
theorem str_eq_declines_dict (b : Str) (u : Tok) (l : Addr) (es : Array DictEntry) (n : Nat) (dd : Option Addr) (sl : Array (Option Value)) :
    Meets (Builtin.«str.__eq__» ⟨[.str b u, .ref l], []⟩) (fun _ R s => s.heap.get? l = some { cls := .type "dict", dict := dd, data := .dict es n, slots := sl } ∧ R (.ok (.ret .notImplemented)) s) :=
  .of_wp fun prog w A R s h => by obtain ⟨hp, g, d, tk, os⟩ := s; obtain ⟨hl, h⟩ := h; wp_walk using wpAny_loadPart' hl, wpAny_load hl; exact ⟨_, rfl, h⟩
theorem dict_eq_declines_tuple (l b : Addr) (es : Array DictEntry) (items2 : Array Value) (n n2 : Nat) (dd dd2 : Option Addr) (sl sl2 : Array (Option Value)) :
    Meets (Builtin.«dict.__eq__» ⟨[.ref l, .ref b], []⟩) (fun _ R s => s.heap.get? l = some { cls := .type "dict", dict := dd, data := .dict es n, slots := sl } ∧ s.heap.get? b = some { cls := .type "tuple", dict := dd2, data := .seq items2 n2, slots := sl2 } ∧ R (.ok (.ret .notImplemented)) s) :=
  .of_wp fun prog w A R s h => by obtain ⟨hp, g, d, tk, os⟩ := s; obtain ⟨hl, hb, h⟩ := h; have f1 := F.sub_tuple_dict; wp_walk using wpAny_loadPart' hl, wpAny_loadPart' hb; exact ⟨_, rfl, h⟩
theorem tuple_eq_declines_dict (l b : Addr) (items : Array Value) (es : Array DictEntry) (n n2 : Nat) (dd dd2 : Option Addr) (sl sl2 : Array (Option Value)) :
    Meets (Builtin.«tuple.__eq__» ⟨[.ref l, .ref b], []⟩) (fun _ R s => s.heap.get? l = some { cls := .type "tuple", dict := dd, data := .seq items n, slots := sl } ∧ s.heap.get? b = some { cls := .type "dict", dict := dd2, data := .dict es n2, slots := sl2 } ∧ R (.ok (.ret .notImplemented)) s) :=
  .of_wp fun prog w A R s h => by obtain ⟨hp, g, d, tk, os⟩ := s; obtain ⟨hl, hb, h⟩ := h; have f1 := F.sub_dict_tuple; wp_walk using wpAny_loadPart' hl, wpAny_loadPart' hb; exact ⟨_, rfl, h⟩
section
variable {A : Around} {s : Shared}
theorem RcAt.dict_str {l : Addr} {es : Array DictEntry} {n : Nat} {dd : Option Addr} {sl : Array (Option Value)} (b : Str) (u : Tok) (ho : s.heap.get? l = some { cls := .type "dict", dict := dd, data := .dict es n, slots := sl }) (hu : A.units < cLine) : RcAt A s (.ref l) (.str b u) false := fun prog w E Q h => by
  exact rc_eq_decline_or (k := false) ⟨_, ho, rfl⟩ (typeIs_str s b u) (by decide) F.sub_str_dict F.slot_dict_eq F.slot_str_eq_refl
    (fun _ hq => call_meets F.slot_dict_eq ⟨_, ho, rfl⟩ F.entry_dict_eq (F.args_dict_eq_2 _ _) (dict_eq_declines_str l es n dd sl b u) ⟨ho, hq⟩)
    (fun _ hq => call_meets F.slot_str_eq_refl (typeIs_str s b u) F.entry_str_eq (F.args_str_eq_2 _ _) (str_eq_declines_dict b u l es n dd sl) ⟨ho, hq⟩)
    (fun _ hq => wpAny_of_eq (rfl : isSame (.ref l) (.str b u) = pure false) hq) (.inr hu) h
theorem RcAt.str_dict {l : Addr} {es : Array DictEntry} {n : Nat} {dd : Option Addr} {sl : Array (Option Value)} (b : Str) (u : Tok) (ho : s.heap.get? l = some { cls := .type "dict", dict := dd, data := .dict es n, slots := sl }) (hu : A.units < cLine) : RcAt A s (.str b u) (.ref l) false := fun prog w E Q h => by
  exact rc_eq_decline_or (k := false) (typeIs_str s b u) ⟨_, ho, rfl⟩ (by decide) F.sub_dict_str F.slot_str_eq (by first | exact F.slot_dict_eq_refl | exact F.slot_dict_eq)
    (fun _ hq => call_meets F.slot_str_eq (typeIs_str s b u) F.entry_str_eq (F.args_str_eq_2 _ _) (str_eq_declines_dict b u l es n dd sl) ⟨ho, hq⟩)
    (fun _ hq => call_meets F.slot_dict_eq ⟨_, ho, rfl⟩ F.entry_dict_eq (F.args_dict_eq_2 _ _) (dict_eq_declines_str l es n dd sl b u) ⟨ho, hq⟩)
    (fun _ hq => wpAny_of_eq (rfl : isSame (.str b u) (.ref l) = pure false) hq) (.inr hu) h
theorem EqAt.str_dict {l : Addr} {es : Array DictEntry} {n : Nat} {dd : Option Addr} {sl : Array (Option Value)} (b : Str) (u : Tok) (ho : s.heap.get? l = some { cls := .type "dict", dict := dd, data := .dict es n, slots := sl }) (hu : A.units < cLine) : EqAt A s (.str b u) (.ref l) false := fun prog w E Q h => by
  unfold eqBool
  refine wpAny_holding ?_
  refine wpAny_ite_split (fun hab => absurd (eq_of_beq hab) nofun) (fun _ => ?_)
  exact wpAny_bind (RcAt.str_dict b u ho hu prog w E _ (wpAny_truthy_bool h))
theorem EqAt.dict_str {l : Addr} {es : Array DictEntry} {n : Nat} {dd : Option Addr} {sl : Array (Option Value)} (b : Str) (u : Tok) (ho : s.heap.get? l = some { cls := .type "dict", dict := dd, data := .dict es n, slots := sl }) (hu : A.units < cLine) : EqAt A s (.ref l) (.str b u) false := fun prog w E Q h => by
  unfold eqBool
  refine wpAny_holding ?_
  refine wpAny_ite_split (fun hab => absurd (eq_of_beq hab) nofun) (fun _ => ?_)
  exact wpAny_bind (RcAt.dict_str b u ho hu prog w E _ (wpAny_truthy_bool h))
theorem RcAt.dict_tuple {l b : Addr} {es : Array DictEntry} {n : Nat} {dd : Option Addr} {sl : Array (Option Value)} {items2 : Array Value} (ho : s.heap.get? l = some { cls := .type "dict", dict := dd, data := .dict es n, slots := sl }) (hb : s.heap.IsTuple b items2) (hu : A.units < cLine) : RcAt A s (.ref l) (.ref b) false := fun prog w E Q h => by
  obtain ⟨⟨cls2, dd2, data2, sl2⟩, ho2, hc2, n2, hd2⟩ := id hb
  simp only at hc2 hd2
  subst hc2 hd2
  have hne : l ≠ b := fun e => by
    subst e
    have z := congrArg Obj.cls (Option.some.inj (ho.symm.trans ho2))
    simp at z
  exact (rc_eq_decline_or (k := false) ⟨_, ho, rfl⟩ ⟨_, ho2, rfl⟩ (by decide) F.sub_tuple_dict F.slot_dict_eq F.slot_tuple_eq_refl
    (fun _ hq => call_meets F.slot_dict_eq ⟨_, ho, rfl⟩ F.entry_dict_eq (F.args_dict_eq_2 _ _) (dict_eq_declines_tuple l b es items2 n n2 dd dd2 sl sl2) ⟨ho, ho2, hq⟩)
    (fun _ hq => call_meets F.slot_tuple_eq_refl ⟨_, ho2, rfl⟩ F.entry_tuple_eq (F.args_tuple_eq_2 _ _) (tuple_eq_declines_dict b l items2 es n2 n dd2 dd sl2 sl) ⟨ho2, ho, hq⟩)
    (fun _ hq => wpAny_isSame_ref_other hne ho ho2 (by simp) hq) (.inr hu) h)
end
end PySem.SeqAt

set_option Elab.async false
set_option linter.all false
set_option maxRecDepth 100000
set_option maxHeartbeats 4000000
/-! sorted of a tuple of texts -/
namespace Sp1S
open PySem PySem.Spec PyProof.Rows
section
variable {prog : Program} {w : World} {A : Around} {E : Value → Shared → Prop} {s : Shared}
theorem collect_tup {l : Addr} {vs : List Value} {Q : List Value → Shared → Prop} (hl : s.heap.IsTuple l vs.toArray)
    (h : Q vs { s with heap := (s.heap.push (seqObj "list" #[] 0)).update s.heap.objs.size (Obj.mapSeq (· ++ vs.toArray)) }) (hsz : vs.length ≤ sizeLine) :
    wpAny (model prog w) A (collect (.ref l)) Q E s := by
  obtain ⟨o, ho, hc, n, hd⟩ := id hl
  unfold collect
  refine wpAny_bind (wpAny_runValue (codeAny_builtin entry_proto_collect' ?_))
  show wpAny _ _ (do again (.builtin "list.__iadd__" ⟨[← newList [], .ref l], []⟩)) _ _ s
  refine wpAny_bind (wpAny_newList (wpAny_pure ⟨Code.quiet_builtin _ (by decide +kernel), codeAny_builtin entry_list_iadd' ?_⟩))
  show wpAny _ _ (Builtin.List.listExtendWith (.ref s.heap.objs.size) (.ref l) (.ref s.heap.objs.size)) _ _ { s with heap := s.heap.push (seqObj "list" #[] 0) }
  unfold Builtin.List.listExtendWith
  have ho' : (s.heap.push (seqObj "list" #[] 0)).get? l = some o := Heap.get?_push_of_some _ ho
  refine wpAny_bind (wpAny_typeOf (T := "tuple") ⟨o, ho', hc⟩ ?_)
  have ht : (Value.type "tuple" == Value.type "tuple") = true := by rfl
  rw [if_pos (by rw [ht]; simp)]
  refine wpAny_bind (listItems_at ho' hd ?_)
  refine wpAny_bind (listItems_at (xs := #[]) (n := 0) (Heap.get?_push_size _ rfl) rfl ?_)
  rw [if_neg (by simp)]
  refine wpAny_bind (listUpdate_at (xs := #[]) (n := 0) (Heap.get?_push_size _ rfl) rfl ?_ (Nat.zero_le _) (by show (#[] ++ vs.toArray).size ≤ sizeLine + 1; simp only [Array.size_append, List.size_toArray, List.length_nil]; omega))
  refine wpAny_pure ?_
  show wpAny (model prog w) A (do
      let o ← load s.heap.objs.size
      match o.data with
      | .seq xs _ => pure xs.toList
      | _ => unsupported "internal:collect") Q E { s with heap := (s.heap.push (seqObj "list" #[] 0)).update s.heap.objs.size (Obj.mapSeq (· ++ vs.toArray)) }
  refine wpAny_bind (wpAny_load (get?_update_seq (Heap.get?_push_size _ rfl) _) ?_)
  show wpAny _ _ (pure ((#[] : Array Value) ++ vs.toArray).toList) Q E _
  rw [show ((#[] : Array Value) ++ vs.toArray).toList = vs by simp]
  exact wpAny_pure h
theorem sortedT {κ : KeyKind} (hO : κ.OneLt) {l : Addr} {vs : List Value} {Q : Value → Shared → Prop} (hl : s.heap.IsTuple l vs.toArray) (h0 : KeysOf κ (pairsOf vs)) (hkk : ∀ v₁ v₂ rest, vs = v₁ :: v₂ :: rest → keyKind' (v₁ :: v₂ :: rest).toArray = pure oneType') (h64 : vs.length < 64)
    (h : ∀ st' : SortSt, (arrOf st').Perm (pairsOf vs) → SortedToK κ (arrOf st') (pairsOf vs).size → Q (.ref (s.heap.objs.size + 1)) { s with heap := sortedAll s.heap vs ((arrOf st').map (·.2)) }) :
    wpAny (model prog w) A (call (.builtin "sorted") [.ref l]) Q E s := by
  refine Calls.call_function_entry kind_sorted plain_sorted entry_sorted (args_sorted1 _) ?_
  unfold Builtin.«sorted»
  refine wpAny_bind (m := checkCount "sorted" 1 1 _) (wpAny_pure ?_)
  refine wpAny_bind (collect_tup hl ?_ (by rw [sizeLine_eq]; omega))
  refine wpAny_bind (wpAny_newList ?_)
  have hsz : ((s.heap.push (seqObj "list" #[] 0)).update s.heap.objs.size (Obj.mapSeq (· ++ vs.toArray))).objs.size = s.heap.objs.size + 1 := by
    rw [Heap.size_update, size_push']
  have hoL : (((s.heap.push (seqObj "list" #[] 0)).update s.heap.objs.size (Obj.mapSeq (· ++ vs.toArray))).push (seqObj "list" vs.toArray 0)).get? (s.heap.objs.size + 1) = some (seqObj "list" vs.toArray 0) := by
    rw [← hsz]; exact Heap.get?_push_size _ rfl
  show wpAny _ _ _ _ _ { s with heap := ((s.heap.push (seqObj "list" #[] 0)).update s.heap.objs.size (Obj.mapSeq (· ++ vs.toArray))).push (seqObj "list" vs.toArray 0) }
  rw [hsz]
  refine wpAny_bind (wpAny_holding (wpAny_call_entry slot_list_sort ⟨_, hoL, rfl⟩ entry_list_sort (list_sort_treeK hO hoL h0 hkk h64 fun st' a1 a2 => ⟨_, rfl, ?_⟩) (args_list_sort _)))
  exact wpAny_pure ⟨_, rfl, h st' a1 a2⟩
theorem sorted_strsT {l : Addr} {vs : List Value} {ss : List Str} {Q : Value → Shared → Prop} (hl : s.heap.IsTuple l vs.toArray) (hS : StrsAre vs ss) (h64 : vs.length < 64)
    (h : ∀ (out : Array Value) (ss' : List Str), StrsAre out.toList ss' → ss'.Perm ss → sortedS ss' = true → Q (.ref (s.heap.objs.size + 1)) { s with heap := sortedAll s.heap vs out }) :
    wpAny (model prog w) A (call (.builtin "sorted") [.ref l]) Q E s := by
  refine sortedT strKind_oneLt hl hS.keysOf (fun v₁ v₂ rest e => keyKind_strs (by rw [← e]; exact hS)) h64 fun st' hp hs => ?_
  obtain ⟨ss', h1, h2, h3⟩ := sorted_out_str hS hp hs
  exact h _ ss' h1 h2 h3
end
end Sp1S
namespace Sp1
open PySem PySem.Spec PyProof.Rows L2
section
variable {X : Cx}
/-- sorted of a list or a tuple of texts -/
def rSortedST (K : PySem.W.Frag) : List V → Hp → VK → Prop := fun vs H Q => ∃ (a : Addr) (xs : List Str), vs = [V.ref a] ∧ (SqL K H a (xs.map V.str) ∨ SqT K H a (xs.map V.str)) ∧ xs.length < 64 ∧
  ∀ (ys : List Str) (p : Addr), ys.Perm xs → sortedS ys = true → H p = none → Q (.ref p) (upd H p (.lst (ys.map V.str)))
theorem cr_sortedST : CallR X (.builtin "sorted") (rSortedST X.K) := by
  intro pins s σ H vs us Q I r h
  obtain ⟨a, xs, rfl, hs | hs, h64, q⟩ := h
  · exact cr_sortedS pins s σ H _ us Q I r ⟨a, xs, rfl, hs, h64, q⟩
  obtain ⟨its, rv, hl, _⟩ := I.tuple hs
  rw [Vals.ref1 r]
  have hlen0 := rv.length
  rw [List.length_map] at hlen0
  refine Sp1S.sorted_strsT hl rv.strs (by rw [← hlen0]; exact h64) fun out ys h1 h2 h3 => ?_
  obtain ⟨ep, he'⟩ := PyProof.Rows.sortedAll_at s.heap its out
  have hlen : (ys.map V.str).length ≤ sizeLine := by rw [List.length_map, h2.length_eq]; exact small64 h64
  exact ⟨.ref _, upd H (s.heap.objs.size + 1) (.lst (ys.map V.str)), I.laid (t' := s.toks) (fun _ _ => PyProof.Rows.sortedAll_old) (Nat.le_succ _) ⟨hlen, out.toList, ep, vals_of_strs h1, he'⟩, rfl, q ys _ h2 h3 (I.hok.fresh (Nat.le_succ _))⟩
end
end Sp1

set_option Elab.async false
set_option linter.all false
set_option maxRecDepth 100000
set_option maxHeartbeats 4000000
namespace Sp1
open PySem PySem.Spec PyProof.Rows L2
section
variable {X : Cx}
/-- an int or a truth, times a small int -/
def rMulB : R2 := fun x y H Q => ∃ j : Int, y = .int j ∧ (-(2 ^ 64) < j ∧ j < 2 ^ 64) ∧ ((∃ i, x = .int i ∧ Q (.int (i * j)) H) ∨ ∃ b : Bool, x = .bl b ∧ Q (.int ((if b = true then (1 : Int) else 0) * j)) H)
theorem op_mulB : OpR X (binaryOp .Mult) rMulB := by
  intro pins s σ H x y v u Q I rx ry h
  obtain ⟨j, rfl, hj, ⟨i, rfl, q⟩ | ⟨b, rfl, q⟩⟩ := h
  · exact op_mul pins s σ H _ _ v u Q I rx ry ⟨i, j, rfl, rfl, by first | exact .inr hj | exact Or.inr hj, q⟩
  · cases rx
    obtain ⟨t, rfl⟩ := ry
    exact IntBool.mul_bool_int ⟨.int _, H, I.tok _, ⟨_, rfl⟩, q⟩
def nines : Str := ⟨(List.replicate 300 (("9" : Str)).cps).foldl (· ++ ·) #[]⟩
/-- '9' * 300 -/
theorem op_mulNines : OpR X (binaryOp .Mult) (fun x y H Q => x = .str "9" ∧ y = .int 300 ∧ Q (.str nines) H) := by
  intro pins s σ H x y v u Q I rx ry h
  obtain ⟨rfl, rfl, q⟩ := h
  obtain ⟨t, rfl⟩ := rx
  obtain ⟨t', rfl⟩ := ry
  refine PySem.P.mul_str (by decide) (fun _ _ => ?_) (fun _ _ => ?_) ?_
  · have e : ((("9" : String) : Str)).length = 1 := by decide +kernel
    rw [e]
    decide
  · have e : ((("9" : String) : Str)).length = 1 := by decide +kernel
    rw [e]
    decide +kernel
  · have e : ((300 : Int) == 1 || (("9" : String) : Str).length == 0) = false := by decide +kernel
    rw [if_neg (by decide), if_neg (by rw [e]; decide)]
    exact ⟨by rw [sizeLine_eq]; decide +kernel, .str nines, H, I.tok _, ⟨_, rfl⟩, q⟩
theorem nines_int : PySem.intText? nines = some ((10 : Int) ^ 60 * 10 ^ 60 * 10 ^ 60 * 10 ^ 60 * 10 ^ 60 - 1) := by decide +kernel
theorem nines_len : nines.length ≤ 640 := by decide +kernel
end
end Sp1

set_option Elab.async false
set_option linter.all false
set_option maxRecDepth 100000
set_option maxHeartbeats 4000000
namespace Sp1
open PySem PySem.Spec PyProof.Rows L2
theorem cut_whole {xs : List V} {lo hi : Option Int} (h : HT.sIx xs.length 0 lo = 0 ∧ HT.sIx xs.length xs.length hi = xs.length) : cutV xs lo hi = xs := by
  show (xs.drop (HT.sIx xs.length 0 lo)).take (HT.sIx xs.length xs.length hi - HT.sIx xs.length 0 lo) = xs
  rw [h.1, h.2, List.drop_zero, Nat.sub_zero, List.take_length]
theorem cut_to (xs : List V) (j : Nat) : cutV xs none (some (j : Int)) = xs.take j := by
  show (xs.drop 0).take (HT.sIx xs.length xs.length (some (j : Int)) - 0) = _
  have e : HT.sIx xs.length xs.length (some (j : Int)) = min j xs.length := by
    show (if (j : Int) < 0 then ((j : Int) + (xs.length : Int)).toNat else min (j : Int).toNat xs.length) = _
    rw [if_neg (by omega), Int.toNat_natCast]
  rw [e, List.drop_zero, Nat.sub_zero]
  by_cases h : j ≤ xs.length
  · rw [Nat.min_eq_left h]
  · rw [Nat.min_eq_right (by omega), List.take_length, List.take_of_length_le (by omega)]
theorem cut_from (xs : List V) (j : Nat) : cutV xs (some (j : Int)) none = xs.drop j := by
  show (xs.drop (HT.sIx xs.length 0 (some (j : Int)))).take (xs.length - HT.sIx xs.length 0 (some (j : Int))) = _
  have e : HT.sIx xs.length 0 (some (j : Int)) = min j xs.length := by
    show (if (j : Int) < 0 then ((j : Int) + (xs.length : Int)).toNat else min (j : Int).toNat xs.length) = _
    rw [if_neg (by omega), Int.toNat_natCast]
  rw [e]
  by_cases h : j ≤ xs.length
  · rw [Nat.min_eq_left h, List.take_of_length_le (by rw [List.length_drop]; omega)]
  · rw [Nat.min_eq_right (by omega), List.drop_length, List.drop_eq_nil_of_le (by omega), List.take_nil]
/-- a slice of a tuple, wherever it lies -/
def rSlU (K : PySem.W.Frag) : V → Option Int → Option Int → Hp → VK → Prop := fun x lo hi H Q => ∃ a xs, x = .ref a ∧ SqT K H a xs ∧ ∀ p H', Same H H' → SqT K H' p (cutV xs lo hi) → Q (.ref p) H'
section
variable {X : Cx}
theorem sl_tupU : SlR X (rSlU X.K) := by
  intro pins s σ H x v vl vu lo hi sl Q I rx hs pl pu h
  obtain ⟨a, xs, rfl, hx, q⟩ := h
  exact sl_tupA pins s σ H _ v vl vu lo hi sl Q I rx hs pl pu ⟨a, xs, rfl, hx, fun hw => q a H (Same.refl _) (by rw [cut_whole hw]; exact hx), fun _ p np => q p _ (same_new np) (SqT.of upd_same)⟩
end
section
variable {X : Cx} {CX : CXT} {k : Nat} {f C : Addr} {fd : FuncData} {ps : List Str} {sp : Sp} {E : L2.St → XK} {x : Str} {p pos : Pos} {e : Expr} {es : List Expr} {t : TA}
def tMakeS (C : Addr) (sp : Sp) (E : L2.St → XK) (t : TA) : TE := fun σ H Q => t σ H fun vs H1 => ∀ x dx, H1 x = none → H1 dx = none → dx ≠ x →
  sp (.ref x :: vs) (upd (upd H1 dx (.own x)) x (.ins C dx [])) (fun v H2 => v = .non ∧ Q (.ref x) H2) (E σ)
/-- C(..), what it raises told by the slots -/
theorem pe_makeS (M : Mk X.K C f) (F : FnOk X.prog X.w X.K X.mg X.base CX k f fd ps sp) (hr : Room (k + 1) X.A) (hg : Gl X x) (hm : X.mg x = some (.ref C)) (hb : Binds X.K fd ps []) (hx : ∀ σ, PassesAt CX X σ (E σ))
    (ha : PA X (e :: es) t) (hdb : (x == ("__debug__" : Str)) = false := by decide) (he : starEach (e :: es) X.env = (false, eval e X.env) :: starEach es X.env := by rfl) (hpl : (backTo pos (starEach es X.env)).any (·.1) = false := by rfl) :
    PE X (.Call (.Name x p) (e :: es) [] pos) (tMakeS C sp E t) := by
  refine ⟨fun pins s σ H Q I h => ?_⟩
  refine wpAny_Call_Name_kw (ld_glob I hg hm ?_ hdb)
  refine PySem.W.callWith_K (h₀ := X.base) I.ok.mod.kin M.kp (thn (ha.run pos pins s σ H _ I h) fun us s1 ⟨vs, H1, I1, r, q⟩ => ⟨I1.kIn, ?_⟩) he hpl
  have hq := q (s1.heap.objs.size + 1) s1.heap.objs.size (I1.hok.fresh (Nat.le_succ _)) (I1.hok.fresh (Nat.le_refl _)) (Nat.ne_of_lt (Nat.lt_succ_self _))
  have I2 := Inv.made (C := C) I1
  have r2 : Vals (V.ref (s1.heap.objs.size + 1) :: vs) (Value.ref (s1.heap.objs.size + 1) :: us) := .cons rfl r
  have hl : (Value.ref (s1.heap.objs.size + 1) :: us ++ []).length = ps.length := by
    rw [List.append_nil]
    have e := r2.length
    rw [F.len _ _ _ _ hq] at e
    exact e.symm
  have b := hb _ (Value.ref (s1.heap.objs.size + 1) :: us) I2.kIn hl
  rw [List.append_nil] at b
  refine wpAny_call (make_map (f := f) I1.kIn M.makes M.init (beq_iff_eq.mp M.fn) (codeAny_mono (F.run _ X.stack _ _ ⟨Value.ref (s1.heap.objs.size + 1) :: us, []⟩ (Value.ref (s1.heap.objs.size + 1) :: us) _ _ (E σ) (hr.make C us [])
    (I2.env0.make C us []) b r2 hq) fun r s' hq' => ?_))
  cases r with
  | error e => exact hx σ pins _ _ e s' I2 hq'
  | ok fl =>
    cases fl with
    | ret u =>
      obtain ⟨v, H', I3, rv, ev, q3⟩ := I2.after hq'
      subst ev
      exact ⟨rv, ⟨V.ref (s1.heap.objs.size + 1), H', I3, rfl, q3⟩⟩
    | next => exact False.elim hq'
    | brk => exact False.elim hq'
    | cont => exact False.elim hq'
end
end Sp1

set_option Elab.async false
set_option linter.all false
set_option maxRecDepth 100000
set_option maxHeartbeats 4000000
/-! tuples whose object is known: their methods; t.index(x, i) of data -/
namespace Sp1
open PySem PySem.Spec PyProof.Rows L2
/-- a tuple, its object a plain one -/
def FzT (H : Hp) (a : Addr) (xs : List V) : Prop := ∃ o : Obj, H a = some (.frz o (.tup xs)) ∧ o.cls = .type "tuple" ∧ o.dict = none
theorem FzT.sqt {K : PySem.W.Frag} {H : Hp} {a : Addr} {xs : List V} (h : FzT H a xs) : SqT K H a xs := by
  obtain ⟨o, h, _⟩ := h
  exact .inl (.inr ⟨o, h⟩)
theorem FzT.tk {H H' : Hp} {a : Addr} {xs : List V} (h : FzT H a xs) (s : TK H H') : FzT H' a xs := by
  obtain ⟨o, h, r⟩ := h
  exact ⟨o, s.2 _ _ _ h, r⟩
section
variable {X : Cx}
/-- tuple(l), l a list: a new one, its object plain -/
theorem cr_tupleF : CallR X (.type "tuple") (fun xs H Q => ∃ p ys, xs = [.ref p] ∧ SqL X.K H p ys ∧ ∀ l o, H l = none → FzT (upd H l (.frz o (.tup ys))) l ys → Q (.ref l) (upd H l (.frz o (.tup ys)))) := by
  intro pins s σ H xs us Q I r h
  obtain ⟨p, ys, rfl, hq, q⟩ := h
  obtain ⟨u, rfl, rx⟩ := vals1 r
  cases rx
  obtain ⟨its, r', pl, hz⟩ := I.list hq
  have hlen := r'.length
  refine call_tuple_list pl.isList (fun h' kp => ?_) (by simp only [List.size_toArray] <;> omega)
  have I1 : Inv X pins σ H { s with heap := h' } := I.kept (t' := s.toks) kp
  have I2 : Inv X pins σ (upd H h'.objs.size (.frz { cls := .type "tuple", data := .seq its.toArray } (.tup ys))) { s with heap := h'.push { cls := .type "tuple", data := .seq its.toArray } } :=
    I1.laid (t' := s.toks) (fun b o e => Heap.get?_push_of_some _ e) (Nat.le_refl _) (show ObjOk X.prog X.w _ _ _ (.frz _ (.tup ys)) from ⟨Heap.get?_push_size _ rfl, hz, its, r', IsTup.new _ _⟩)
  exact ⟨.ref h'.objs.size, _, I2, rfl, q _ _ (I1.hok.fresh (Nat.le_refl _)) ⟨_, upd_same, rfl, rfl⟩⟩
end
section
variable {X : Cx} {o e : Expr} {es : List Expr} {to : TE} {t : TA} {name : Str} {apos cpos : Pos} {id : String} {r : V → List V → Hp → VK → Prop}
def tTM (r : V → List V → Hp → VK → Prop) (to : TE) (t : TA) : TE := fun σ H Q => to σ H fun x H1 => (∃ a ys, x = .ref a ∧ FzT H1 a ys) ∧ t σ H1 fun xs H2 => r x xs H2 Q
/-- t.m(..), t such a tuple -/
theorem pe_tm (slot : Slot "tuple" name id) (hty : typeOf (.builtin id) = pure (.type "method_descriptor")) (hm : MtR X id r) (ho : PE X o to) (ha : PA X (e :: es) t)
    (hbase : attributeBase o name X.env (eval o X.env) = eval o X.env := by rfl)
    (hfew : ((backTo cpos (starEach (e :: es) X.env)).all (fun x => !x.1) && (backToKw cpos (keywordEach [] X.env)).all (fun x => x.1.isSome)
      && decide ((e :: es).length + ([] : List Keyword).length + (if ([] : List Keyword).isEmpty then 0 else 1) < 30)) = true := by rfl)
    (hline : (apos.endLine == cpos.line) = true := by rfl) (hs : starEach (e :: es) X.env = (false, eval e X.env) :: starEach es X.env := by rfl) (hplain : (backTo cpos (starEach es X.env)).any (·.1) = false := by rfl) :
    PE X (.Call (.Attribute o name apos) (e :: es) [] cpos) (tTM r to t) := by
  refine ⟨fun pins s σ H Q I h => ?_⟩
  refine wpAny_Call_method_late hbase hfew hline rfl (thn (ho.run pins s σ H _ I h) fun v s1 ⟨x, H1, I1, r1, ty, q1⟩ => ?_)
  obtain ⟨a, ys, rfl, ob, hob, hc, hd⟩ := ty
  cases r1
  obtain ⟨hg, _⟩ := I1.hok _ _ hob
  refine ⟨"tuple", id, PySem.F.plainAttrs_tuple, slot, hty, ⟨ob, hg, hc⟩, fun b e => ?_, ?_⟩
  · cases e
    exact ⟨ob, hg, hd⟩
  have hA := ha.run cpos pins s1 σ H1 _ I1 q1
  rw [hs] at hA ⊢
  refine Calls.callWith_builtin (by show (false || (backTo cpos (starEach es X.env)).any (·.1)) = false; rw [hplain] <;> rfl) (Calls.evalArgs_plain ?_)
  exact thn hA fun us s2 ⟨vs, H2, I2, r2, q2⟩ => hm pins s2 σ H2 _ vs _ us Q I2 (show RelV (.ref a) (.ref a) from rfl) r2 q2
end
section
variable {X : Cx}
/-- t.index(x, k): the first place from k on that holds an equal one -/
def rTupIx3 (K : PySem.W.Frag) : V → List V → Hp → VK → Prop := fun x xs H Q => ∃ (a : Addr) (ws : List V) (y : V) (d : PyData) (ds : List PyData) (k j : Nat) (z : PyData), x = V.ref a ∧ xs = [y, .int (k : Int)] ∧ SqT K H a ws ∧ DpAll K H ws ds ∧ Dp K H y d ∧
  SeqAt.shaped (.tuple ds) = true ∧ SeqAt.shaped d = true ∧ k ≤ j ∧ ds[j]? = some z ∧ PyData.eqv z d = true ∧ (∀ (m : Nat) (z' : PyData), k ≤ m → m < j → ds[m]? = some z' → PyData.eqv z' d = false) ∧ Q (.int (j : Nat)) H
theorem mt_tupIx3 (hu : X.A.units + 65 < cLine) : MtR X "tuple.index" (rTupIx3 X.K) := by
  intro pins s σ H x xs v us Q I rx rxs h
  obtain ⟨a, ws, y, d, ds, k, j, z, rfl, rfl, hq, ha, hy, sl, sd, hkj, hz, hzj, hno, q⟩ := h
  cases rx
  obtain ⟨uy, uk, rfl, ry, rk⟩ := vals2 rxs
  obtain ⟨t, rfl⟩ := rk
  obtain ⟨bs, r1⟩ := Dp.reads I d y uy hy ry
  have hxs : PyData.canLayAll0 ds = true := by
    have := SeqAt.canLay_of_shaped sl
    simpa [PyData.canLay0] using this
  have hroom : X.A.units + 1 + min (PyData.depthAll ds) d.depth < cLine := room_in_shaped sd hu
  obtain ⟨its, rv, ⟨⟨cls, dd, data, sls⟩, ho, hc, n, hdt⟩, hlen⟩ := I.tuple hq
  simp only at hc hdt
  subst hc hdt
  obtain ⟨as, h4⟩ := Dp.readsAll I ds _ its ha rv
  have hn : its.length = ds.length := SeqAt.ReadsAll.length ds its as h4
  have hmap : its.map (SeqAt.readOf s.heap) = ds := SeqAt.readsAll_map ds its as hxs h4
  obtain ⟨hjd, _⟩ := List.getElem?_eq_some_iff.mp hz
  have hjl : j < its.length := by omega
  have hj : j < its.toArray.size := by simpa using hjl
  have at_ : ∀ (m : Nat) (hm : m < its.toArray.size) (z' : PyData), ds[m]? = some z' → SeqAt.readOf s.heap its.toArray[m] = z' := by
    intro m hm z' hz'
    have hml : m < its.length := by simpa using hm
    rw [← hmap, List.getElem?_map, List.getElem?_eq_getElem hml] at hz'
    have e1 : SeqAt.readOf s.heap its[m] = z' := Option.some.inj (show some (SeqAt.readOf s.heap its[m]) = some z' from hz')
    simpa using e1
  have sf : SeqAt.searchFrom (k : Int) its.toArray.size = k := SeqAt.searchFrom_nat _ _
  refine call_meets PySem.F.slot_tuple_index ⟨_, ho, rfl⟩ PySem.F.entry_tuple_index (PySem.F.args_tuple_index_3 _ _ _)
    (SeqAt.tuple_index3_found a its.toArray n dd sls uy (fun m => PyData.eqv (SeqAt.readOf s.heap (its.toArray.getD m .none)) d) (k : Int) t j hj (by rw [sf]; exact hkj) hj ?_ ?_) ⟨ho, fun m hm => ?_, ?_⟩
  · show PyData.eqv (SeqAt.readOf s.heap (its.toArray.getD j .none)) d = true
    rw [← Array.getElem_eq_getD (h := hj), at_ j hj z hz]
    exact hzj
  · intro m hm hkm hmj
    rw [sf] at hkm
    have hmd : m < ds.length := by omega
    have hz' : ds[m]? = some ds[m] := List.getElem?_eq_getElem hmd
    show PyData.eqv (SeqAt.readOf s.heap (its.toArray.getD m .none)) d = false
    rw [← Array.getElem_eq_getD (h := hm), at_ m hm _ hz']
    exact hno m _ hkm hmj hz'
  · have := SeqAt.items_eqAt (vs := its.toArray) (A := X.A) (show ReadsAll s.heap its.toArray.toList ds as from h4) r1 hxs (SeqAt.canLay_of_shaped sd) hroom its.toArray[m] (Array.getElem_mem hm)
    rw [Array.getElem_eq_getD (h := hm) .none] at this ⊢
    exact this
  · exact ⟨.int (j : Nat), H, I.tok _, ⟨_, rfl⟩, q⟩
end
end Sp1

set_option Elab.async false
set_option linter.all false
set_option maxRecDepth 100000
set_option maxHeartbeats 4000000
namespace Pg
open PySem
def retD : PyData := .tuple [.str "return"]
def stopD : PyData := .tuple [.str "stop"]
def prsCode : List Pr → Int → List PyData
  | [], _ => []
  | p :: r, k => blCode p.2 k ++ (retD :: prsCode r (k + blSz p.2 + 1))
def prsEnt : List Pr → Int → List (Str × Int)
  | [], _ => []
  | p :: r, k => (p.1, k) :: prsEnt r (k + blSz p.2 + 1)
def prsSz : List Pr → Nat
  | [] => 0
  | p :: r => blSz p.2 + 1 + prsSz r
def pgCode (m : List St) (ps : List Pr) : List PyData := blCode m 0 ++ (stopD :: prsCode ps (blSz m + 1))
def pgEnt (m : List St) (ps : List Pr) : List (Str × Int) := prsEnt ps (blSz m + 1)
theorem prsCode_len : ∀ (ps : List Pr) (k : Int), (prsCode ps k).length = prsSz ps
  | [], k => rfl
  | p :: r, k => by
    simp only [prsCode, prsSz, List.length_append, List.length_cons, blCode_len, prsCode_len r]
    omega
theorem pgCode_len (m : List St) (ps : List Pr) : (pgCode m ps).length = blSz m + 1 + prsSz ps := by
  simp only [pgCode, List.length_append, List.length_cons, blCode_len, prsCode_len]
  omega
theorem prsCode_snoc : ∀ (ps : List Pr) (p : Pr) (k : Int), prsCode (ps ++ [p]) k = prsCode ps k ++ (blCode p.2 (k + prsSz ps) ++ [retD])
  | [], p, k => by simp [prsCode, prsSz]
  | x :: r, p, k => by
    simp only [List.cons_append, prsCode, prsCode_snoc r p, prsSz, List.append_assoc]
    congr 5
    push_cast
    omega
theorem prsEnt_snoc : ∀ (ps : List Pr) (p : Pr) (k : Int), prsEnt (ps ++ [p]) k = prsEnt ps k ++ [(p.1, k + prsSz ps)]
  | [], p, k => by simp [prsEnt, prsSz]
  | x :: r, p, k => by
    simp only [List.cons_append, prsEnt, prsEnt_snoc r p, prsSz]
    congr 4
    push_cast
    omega
theorem prsSz_snoc : ∀ (ps : List Pr) (p : Pr), prsSz (ps ++ [p]) = prsSz ps + blSz p.2 + 1
  | [], p => by simp [prsSz]
  | x :: r, p => by
    simp only [List.cons_append, prsSz, prsSz_snoc r p]
    omega
theorem prsSz_le : ∀ {ps : List Pr} {n : Nat}, (∀ p ∈ ps, blSz p.2 ≤ n) → prsSz ps ≤ ps.length * (n + 1)
  | [], n, _ => by simp [prsSz]
  | p :: r, n, h => by
    have h1 := h p List.mem_cons_self
    have h2 := prsSz_le fun q hq => h q (List.mem_cons_of_mem _ hq)
    simp only [prsSz, List.length_cons, Nat.add_mul]
    omega
theorem prsEnt_names : ∀ (ps : List Pr) (k : Int), (prsEnt ps k).map (·.1) = ps.map (·.1)
  | [], k => rfl
  | p :: r, k => by simp only [prsEnt, List.map_cons, prsEnt_names r]
theorem ret_tup : tupD retD = true := by decide +kernel
theorem stop_tup : tupD stopD = true := by decide +kernel
theorem prsCode_tup {names procs : List Str} (hN : Names names) (hP : Names procs) {n : Nat} : ∀ (ps : List Pr) (k : Int), (∀ p ∈ ps, blOk names procs n p.2) → tupAll (prsCode ps k) = true
  | [], k, _ => by simp [prsCode, tupAll]
  | p :: r, k, h => by
    simp only [prsCode, tupAll_app, tupAll, ret_tup, blCode_tup hN hP n p.2 k (h p List.mem_cons_self), prsCode_tup hN hP r _ fun q hq => h q (List.mem_cons_of_mem _ hq)]
    rfl
theorem pgCode_tup {names : List Str} (hN : Names names) {m : List St} {ps : List Pr} (h : PrsOk names ps) (hm : blOk names (ps.map (·.1)) 7 m) : tupAll (pgCode m ps) = true := by
  simp only [pgCode, tupAll_app, tupAll, stop_tup, blCode_tup hN h.N 7 m 0 hm, prsCode_tup hN h.N ps _ fun p hp => (h.bl p hp).1]
  rfl
end Pg
namespace Sp1
open PySem PySem.Spec PyProof.Rows L2 Pg
section
variable {X : Cx} {pos : Pos} {o : Expr} {ta : TE} {f : Str}
/-- o.f as a target among others -/
def gFld (K : PySem.W.Frag) (ta : TE) (f : Str) : TG := fun y σ H Q => ta σ H fun x H2 => ∃ a C dx fs, x = .ref a ∧ H2 a = some (.ins C dx fs) ∧ Cls K C ∧ NoAttr K C f ∧ fs.length < 1000 ∧ Q σ (upd H2 a (.ins C dx (putF f y fs)))
theorem pg_fld (ha : PE X o ta) (hs : ∀ v, assign (.Attribute o f pos) X.env v = (do
      let ov ← holding [v] (eval o X.env)
      standAt pos.atName
      holding [v, ov] (setAttr ov f v)
      release [v, ov] []) := by intro _; rfl) : PG X (.Attribute o f pos) (gFld X.K ta f) := by
  refine ⟨fun pins s σ H v u Q I r h => ?_⟩
  rw [hs]
  refine wpAny_bind (wpAny_holding (thn (ha.run pins s σ H _ I h) fun ov s1 ⟨x, H1, I1, rx, a, C, dx, fs, ex, ea, c, n, l, q⟩ => ?_))
  subst ex
  obtain rfl : ov = Value.ref a := rx
  refine wpAny_bind (wpAny_standAt (wpAny_bind (wpAny_holding (setattr_ok I1 ea c n l r fun s3 I3 => ?_))))
  exact wpAny_release ⟨σ, _, I3, q⟩
end
section
variable {P : Program} {w : World} {K : PySem.W.Frag} {mg : Str → Option Value} {base : Heap}
def entD (e : Str × Int) : Key × V := (Sum.inr e.1, .int e.2)
theorem ent_put {es : List (Str × Int)} {x : Str} {k : Int} (h : x ∉ es.map (·.1)) : putK (es.map entD) (Sum.inr x) (.int k) = (es ++ [(x, k)]).map entD := by
  unfold putK
  rw [if_neg, List.map_append]
  · rfl
  · rw [List.any_map]
    intro z
    obtain ⟨e, he, hx⟩ := List.any_eq_true.mp z
    have hx := of_decide_eq_true hx
    exact h (List.mem_map.mpr ⟨e, he, Sum.inr.inj hx⟩)
theorem tk_dk {H : Hp} {D : Addr} {kvs : List (Key × V)} {o : HO} (h : H D = some (.dK kvs)) : TK H (upd H D o) := ⟨fun b ys e => by rw [upd_ne (ne_of e h (by intro z; cases z))]; exact e, fun b ob u e => by rw [upd_ne (ne_of e h (by intro z; cases z))]; exact e⟩
theorem int_eq {a b : Int} (h : a = b) : V.int a = V.int b := by rw [h]
/-- what stands behind a program: its code, its entries -/
def sp_program_code (K : PySem.W.Frag) : Sp := fun vs H Q _ => ∃ (v mv : V) (ps : List Pr) (m : List Pg.St) (names : List Str), vs = [v, mv] ∧ Dp K H v (prsD ps) ∧ Dp K H mv (bD m) ∧ Names names ∧ PrsOk names ps ∧ blOk names (ps.map (·.1)) 7 m ∧ blSz m ≤ 1000 ∧
  ∀ H' t c d, Same H H' → H t = none → SqT K H' t [.ref c, .ref d] → (∃ ys, FzT H' c ys ∧ DpAll K H' ys (pgCode m ps)) → H d = none → H' d = some (.dK ((pgEnt m ps).map entD)) → Q (.ref t) H'
theorem ok_program_code (T : PgF K mg) : FnOk P w K mg base CX0 26 T.f_program_code T.fd_program_code ["procedures", "main"] (sp_program_code K) := by
  refine T.D_program_code.F.ok sc_program_code (fun vs H Q E h => ?_) (fun cdv A outer s H vs Q E hr h => ?_)
  · obtain ⟨v, mv, ps, m, names, rfl, _⟩ := h
    rfl
  · obtain ⟨v, mv, ps, m, names, rfl, hd, hm, hN, ok, okm, hsz, q⟩ := h
    have nd := sc_program_code.nd
    obtain ⟨a, ys, rfl, hS1, hA⟩ := dp_tup hd
    have yl : ys.length = ps.length := by rw [dpAll_len hA, List.length_map]
    have h6 := ok.len
    have hps : prsSz ps ≤ 6 * 1001 := Nat.le_trans (prsSz_le fun p hp => (ok.bl p hp).2) (Nat.mul_le_mul_right _ h6)
    refine ⟨_, (pss_cons (ps_set (i := 2) nd rfl (.inl rfl) (pe_call ((ok_codes T 8).mono (by decide)) hr (by rfl) T.D_block_code.g T.D_block_code.kp T.D_block_code.b .nil pass0 (pa_cons (pv 1) (pa_cons pe_int pa_nil))))
      (pss_cons (ps_expr (pe_bm PySem.F.plainAttrs_list PySem.F.slot_list_append PySem.F.type_list_append mt_append (pv 2) (pa_cons (pe_tup (pa_cons pe_str pa_nil)) pa_nil)))
      (pss_cons (ps_set (i := 3) nd rfl (.inl rfl) pe_dnewK)
      (pss_cons (ps_for PassesOwn.never rfl (pi_tup (pv 0)) (pg_tup rfl (pgs_cons (pg_name (i := 4) nd rfl (.inl rfl)) (pgs_cons (pg_name (i := 5) nd rfl (.inl rfl)) pgs_nil)))
      (pss_cons (ps_dput (hu_of hr) (pv 3) (pv 4) (pe_callB call_len_seq (by rfl) T.m_len PySem.boot_len (pa_cons (pv 2) pa_nil)) rfl)
        (pss_cons (ps_expr (pe_bm PySem.F.plainAttrs_list PySem.F.slot_list_extend PySem.F.type_list_extend mt_extend (pv 2) (pa_cons (pe_call ((ok_codes T 8).mono (by decide)) hr (by rfl) T.D_block_code.g T.D_block_code.kp T.D_block_code.b .nil pass0 (pa_cons (pv 5) (pa_cons (pe_callB call_len_seq (by rfl) T.m_len PySem.boot_len (pa_cons (pv 2) pa_nil)) pa_nil))) pa_nil)))
        (pss_one (ps_expr (pe_bm PySem.F.plainAttrs_list PySem.F.slot_list_append PySem.F.type_list_append mt_append (pv 2) (pa_cons (pe_tup (pa_cons pe_str pa_nil)) pa_nil)))))))
      (pss_one (ps_ret (pe_tup (pa_cons (pe_callTy cr_tupleF (by rfl) T.m_tuple (by decide +kernel) (pa_cons (pv 2) pa_nil)) (pa_cons (pv 3) pa_nil))))))))), ?_⟩
    refine ⟨_, rfl, mv, 0, m, names, ps.map (·.1), rfl, hm, hN, ok.N, okm, hsz, fun H1 c xs0 s1 nc hc hx0 => ?_⟩
    refine ⟨_, rfl, .inl ⟨rfl, _, SqL.of hc⟩, small (by decide), fun ta nta => ?_⟩
    have l0 := dpAll_len hx0
    rw [blCode_len] at l0
    refine ⟨c, xs0, _, rfl, rfl, (same_new nta) _ _ hc, by rw [sizeLine_eq]; omega, ?_⟩
    have sta := same_new (o := .tup [.str "stop"]) nta
    have hta : SqT K (upd H1 ta (.tup [.str "stop"])) ta [.str "stop"] := SqT.of upd_same
    generalize hH2 : upd H1 ta (.tup [.str "stop"]) = H2 at sta hta ⊢
    have tk3 : TK H2 (upd H2 c (.lst (xs0 ++ [.ref ta]))) := tk_lst (sta _ _ hc)
    have s3 : Same H (upd H2 c (.lst (xs0 ++ [.ref ta]))) := same_at nc (s1.trans sta)
    have hc3 : (upd H2 c (.lst (xs0 ++ [.ref ta]))) c = some (.lst (xs0 ++ [.ref ta])) := upd_same
    have hx3 : DpAll K (upd H2 c (.lst (xs0 ++ [.ref ta]))) (xs0 ++ [.ref ta]) (blCode m 0 ++ [stopD]) :=
      dpAll_app (dpAll_keep ((Same.tk sta).trans tk3) hx0 (blCode_tup hN ok.N 7 m 0 okm)) (.cons (.tup (tk3.sqt hta) (.cons (.str _) .nil)) .nil)
    generalize upd H2 c (.lst (xs0 ++ [.ref ta])) = H3 at tk3 s3 hc3 hx3 ⊢
    refine fun d nd' => ?_
    have s4 := s3.trans (same_new (o := .dK []) nd')
    have hc4 := same_new (o := .dK []) nd' _ _ hc3
    have hx4 := dpAll_keep (Same.tk (same_new (o := .dK []) nd')) hx3 (by
      rw [tupAll_app, blCode_tup hN ok.N 7 m 0 okm]
      simp only [tupAll, stop_tup]
      rfl)
    have hd4 : (upd H3 d (.dK [])) d = some (.dK []) := upd_same
    have ndH : H d = none := s3.free nd'
    have hcd : c ≠ d := ne_of_none hc3 nd'
    generalize upd H3 d (.dK []) = H4 at s4 hc4 hx4 hd4 ⊢
    have hxl := dpAll_len hx4
    rw [List.length_append, List.length_append, blCode_len] at hxl
    refine ⟨_, rfl, a, rfl, ⟨_, Same.sqt s4 hS1⟩, for_tup (K := K) (a := a) (xs := ys)
      (fun i σ H' => Same H H' ∧ ∃ xs y4 y5, σ = [some (.ref a), some mv, some (.ref c), some (.ref d), y4, y5] ∧ H' c = some (.lst xs) ∧ DpAll K H' xs (pgCode m (ps.take i)) ∧ H' d = some (.dK ((pgEnt m (ps.take i)).map entD)))
      ⟨s4, _, none, none, rfl, hc4, hx4, hd4⟩ (fun i σ H' _ h => Same.sqt h.1 hS1) ?_ ?_⟩
    · rintro i x σ H5 hx ⟨s5, xs, y4, y5, rfl, hc5, hx5, hd5⟩
      obtain ⟨d', hd', hdp⟩ := dpAll_at hA hx
      rw [List.getElem?_map] at hd'
      obtain ⟨p, hp, rfl⟩ := Option.map_eq_some_iff.mp hd'
      have hpm := List.mem_of_getElem? hp
      have htk : ps.take (i + 1) = ps.take i ++ [p] := by rw [List.take_add_one, hp]; rfl
      have xl := dpAll_len hx5
      rw [pgCode_len] at xl
      have okt : ∀ q ∈ ps.take i, blOk names (ps.map (·.1)) 7 q.2 := fun q hq => (ok.bl q (List.mem_of_mem_take hq)).1
      have hti : prsSz (ps.take i) ≤ 6 * 1001 := Nat.le_trans (prsSz_le fun q hq => (ok.bl q (List.mem_of_mem_take hq)).2) (Nat.mul_le_mul_right _ (by rw [List.length_take]; omega))
      have hb1000 := (ok.bl p hpm).2
      have tp : tupAll (pgCode m (ps.take i)) = true := by
        simp only [pgCode, tupAll_app, tupAll, stop_tup, blCode_tup hN ok.N 7 m 0 okm, prsCode_tup hN ok.N _ _ okt]
        rfl
      obtain ⟨b, y, rfl, hb, hy⟩ := dp_prD (dp_keep (Same.tk s5) hdp (prD_tup hN ok hpm))
      refine ⟨b, _, rfl, hb, rfl, _, _, rfl, _, _, rfl, rfl, ?_⟩
      refine ⟨_, rfl, c, xs, rfl, .inl (SqL.of hc5), _, rfl, _, rfl, d, _, rfl, DPut.k (k := Sum.inr p.1) hd5 (by rw [List.length_map, sizeLine_eq, pgEnt, ← List.length_map (f := (·.1)), prsEnt_names, List.length_map, List.length_take]; omega), ?_⟩
      have fresh : p.1 ∉ (pgEnt m (ps.take i)).map (·.1) := by
        rw [pgEnt, prsEnt_names]
        intro z
        obtain ⟨j, hj, e⟩ := List.mem_iff_getElem.mp z
        rw [List.length_map, List.length_take] at hj
        rw [List.getElem_map, List.getElem_take] at e
        obtain ⟨hi', e2⟩ := List.getElem?_eq_some_iff.mp hp
        have := List.pairwise_iff_getElem.mp ok.nd j i (by rw [List.length_map]; omega) (by rw [List.length_map]; omega) (by omega)
        rw [List.getElem_map, List.getElem_map, e, e2] at this
        exact this rfl
      rw [ent_put fresh]
      have hcd5 : c ≠ d := hcd
      have tk6 : TK H5 (upd H5 d (.dK ((pgEnt m (ps.take i) ++ [(p.1, (xs.length : Int))]).map entD))) := tk_dk hd5
      have s6 : Same H (upd H5 d (.dK ((pgEnt m (ps.take i) ++ [(p.1, (xs.length : Int))]).map entD))) := same_at ndH s5
      have hc6 : (upd H5 d (.dK ((pgEnt m (ps.take i) ++ [(p.1, (xs.length : Int))]).map entD))) c = some (.lst xs) := by rw [upd_ne hcd5]; exact hc5
      have hd6 : (upd H5 d (.dK ((pgEnt m (ps.take i) ++ [(p.1, (xs.length : Int))]).map entD))) d = some (.dK ((pgEnt m (ps.take i) ++ [(p.1, (xs.length : Int))]).map entD)) := upd_same
      generalize upd H5 d (.dK ((pgEnt m (ps.take i) ++ [(p.1, (xs.length : Int))]).map entD)) = H6 at tk6 s6 hc6 hd6 ⊢
      refine ⟨_, rfl, .inl ⟨rfl, _, SqL.of hc6⟩, _, rfl, _, rfl, c, xs, rfl, .inl (SqL.of hc6), y, (xs.length : Int), p.2, names, ps.map (·.1), rfl, dp_keep tk6 hy (bD_tup hN ok.N (ok.bl p hpm).1), hN, ok.N, (ok.bl p hpm).1, hb1000, fun H7 e zs s7 ne he hz => ?_⟩
      have zl := dpAll_len hz
      rw [blCode_len] at zl
      have hc7 := s7 _ _ hc6
      refine ⟨c, e, xs, zs, rfl, rfl, hc7, he, by rw [sizeLine_eq]; omega, ?_⟩
      have tk8 : TK H7 (upd H7 c (.lst (xs ++ zs))) := tk_lst hc7
      have s8 : Same H (upd H7 c (.lst (xs ++ zs))) := same_at nc (s6.trans s7)
      have hc8 : (upd H7 c (.lst (xs ++ zs))) c = some (.lst (xs ++ zs)) := upd_same
      have hd8 : (upd H7 c (.lst (xs ++ zs))) d = some (.dK ((pgEnt m (ps.take i) ++ [(p.1, (xs.length : Int))]).map entD)) := by rw [upd_ne hcd5.symm]; exact s7 _ _ hd6
      generalize upd H7 c (.lst (xs ++ zs)) = H8 at tk8 s8 hc8 hd8 ⊢
      refine ⟨_, rfl, .inl ⟨rfl, _, SqL.of hc8⟩, small (by decide), fun tb ntb => ?_⟩
      have s9 := same_new (o := .tup [.str "return"]) ntb
      have ht9 : SqT K (upd H8 tb (.tup [.str "return"])) tb [.str "return"] := SqT.of upd_same
      generalize upd H8 tb (.tup [.str "return"]) = H9 at s9 ht9 ⊢
      have hc9 := s9 _ _ hc8
      refine ⟨c, _, _, rfl, rfl, hc9, by rw [sizeLine_eq, List.length_append]; omega, ?_⟩
      have tk10 : TK H9 (upd H9 c (.lst (xs ++ zs ++ [.ref tb]))) := tk_lst hc9
      have e1 : (xs.length : Int) = (blSz m : Int) + 1 + (prsSz (ps.take i) : Int) := by rw [xl]; push_cast; omega
      refine ⟨same_at nc (s8.trans s9), _, some (.str p.1), some y, rfl, upd_same, ?_, ?_⟩
      · have k1 := dpAll_keep (tk6.trans ((Same.tk s7).trans (tk8.trans ((Same.tk s9).trans tk10)))) hx5 tp
        have k2 := dpAll_keep (tk8.trans ((Same.tk s9).trans tk10)) hz (blCode_tup hN ok.N 7 p.2 _ (ok.bl p hpm).1)
        have k3 : Dp K (upd H9 c (.lst (xs ++ zs ++ [.ref tb]))) (.ref tb) retD := .tup (tk10.sqt ht9) (.cons (.str _) .nil)
        have e2 : pgCode m (ps.take (i + 1)) = pgCode m (ps.take i) ++ blCode p.2 (xs.length : Int) ++ [retD] := by
          rw [htk, e1]
          simp only [pgCode, prsCode_snoc, List.append_assoc, List.cons_append]
        rw [e2]
        exact dpAll_snoc (dpAll_app k1 k2) k3
      · rw [upd_ne hcd5.symm]
        have e2 : pgEnt m (ps.take (i + 1)) = pgEnt m (ps.take i) ++ [(p.1, (xs.length : Int))] := by
          rw [htk, e1]
          simp only [pgEnt, prsEnt_snoc]
        rw [e2]
        exact s9 _ _ hd8
    · rintro σ H5 ⟨s5, xs, y4, y5, rfl, hc5, hx5, hd5⟩
      rw [yl, List.take_length] at hx5 hd5
      have xl := dpAll_len hx5
      rw [pgCode_len] at xl
      refine ⟨_, rfl, c, xs, rfl, SqL.of hc5, fun tc ob ntc htc => ?_⟩
      have s6 := same_new (o := .frz ob (.tup xs)) ntc
      generalize upd H5 tc (.frz ob (.tup xs)) = H6 at s6 htc ⊢
      refine ⟨_, rfl, small (by show 2 ≤ 5000; decide), fun t nt => ?_⟩
      have s7 := same_new (o := .tup [.ref tc, .ref d]) nt
      refine q _ t tc d ((s5.trans s6).trans s7) ((s5.trans s6).free nt) (SqT.of upd_same) ?_ ndH (s7 _ _ (s6 _ _ hd5))
      exact ⟨xs, htc.tk (Same.tk s7), dpAll_keep (Same.tk (s6.trans s7)) hx5 (pgCode_tup hN ok okm)⟩
end
end Sp1

set_option Elab.async false
set_option linter.all false
set_option maxRecDepth 100000
set_option maxHeartbeats 4000000
namespace Pg
open PySem
def isCall : PyData → Bool
  | .tuple (.str x :: _) => decide (x = "call")
  | _ => false
def Instr (d : PyData) : Prop := ∃ x r, d = .tuple (.str x :: r)
end Pg
namespace Sp1
open PySem PySem.Spec PyProof.Rows L2 Pg
section
variable {X : Cx}
/-- t + u, whichever is empty -/
def rCatU (K : PySem.W.Frag) : R2 := fun x y H Q => ∃ a b xs ys, x = .ref a ∧ y = .ref b ∧ SqT K H a xs ∧ SqT K H b ys ∧ xs.length + ys.length ≤ sizeLine ∧ ∀ p H', Same H H' → SqT K H' p (xs ++ ys) → Q (.ref p) H'
theorem op_catU : OpR X (binaryOp .Add) (rCatU X.K) := by
  intro pins s σ H x y v u Q I rx ry h
  obtain ⟨a, b, xs, ys, e1, e2, ha, hb, hz, q⟩ := h
  refine op_catA pins s σ H x y v u Q I rx ry ⟨a, b, xs, ys, e1, e2, ha, hb, hz, fun e => ?_, fun _ e => ?_, fun _ _ p np => ?_⟩
  · subst e
    exact q b H (Same.refl H) hb
  · subst e
    exact q a H (Same.refl H) (by rw [List.append_nil]; exact ha)
  · exact q p _ (same_new np) (SqT.of upd_same)
end
section
variable {P : Program} {w : World} {K : PySem.W.Frag} {mg : Str → Option Value} {base : Heap}
def sp_check_names (K : PySem.W.Frag) : Sp := fun vs H Q _ => ∃ (gv vv : V) (given vars : List Str), vs = [gv, vv] ∧ Ts K H gv given ∧ Ts K H vv vars ∧ Names (given ++ vars) ∧ (given ++ vars).Nodup ∧ 1 ≤ given.length + vars.length ∧ given.length + vars.length ≤ 4 ∧ ∀ H', Same H H' → Q .non H'
theorem ok_check_names (T : PgF K mg) : FnOk P w K mg base CX0 3 T.f_check_names T.fd_check_names ["given", "variables"] (sp_check_names K) := by
  refine T.D_check_names.F.ok sc_check_names (fun vs H Q E h => ?_) (fun cdv A outer s H vs Q E hr h => ?_)
  · obtain ⟨v, mv, ps, m, rfl, _⟩ := h
    rfl
  · obtain ⟨gv, vv, given, vars, rfl, ⟨ga, rfl, hg⟩, ⟨va, rfl, hv⟩, hN, hnd, h1, h4, q⟩ := h
    have nd := sc_check_names.nd
    refine ⟨_, (pss_cons (ps_if (pt_not (pt_val (pe_call ((ok_are_names T).mono (by decide)) hr (by rfl) T.D_are_names.g T.D_are_names.kp T.D_are_names.b .nil pass0 (pa_cons (pv 0) pa_nil))))
      (pss_one ps_never)
      pss_nil)
      (pss_cons (ps_if (PW.pt (pw_or (pt_not (pt_val (pe_callB call_isi (by rfl) T.m_isinstance (by decide +kernel) (pa_cons (pv 1) (pa_cons (pe_ty (n := "tuple") (by rfl) T.m_tuple (by decide +kernel)) pa_nil))))) (pw_or1 (pt_not (pt_val (pe_call ((ok_are_names T).mono (by decide)) hr (by rfl) T.D_are_names.g T.D_are_names.kp T.D_are_names.b .nil pass0 (pa_cons (pe_op op_catU (pv 0) (pv 1)) pa_nil)))))))
      (pss_one ps_never)
      pss_nil)
      (pss_one (ps_if (pt_not (pt_chain op_le op_le pe_int (pe_op op_add (pe_callB call_len_seq (by rfl) T.m_len PySem.boot_len (pa_cons (pv 0) pa_nil)) (pe_callB call_len_seq (by rfl) T.m_len PySem.boot_len (pa_cons (pv 1) pa_nil))) (pe_glob (v := .int 4) rfl T.c_MAX_NAMES ⟨_, rfl⟩) ))
      (pss_one ps_never)
      pss_nil)))), ?_⟩
    refine ⟨_, rfl, .ref ga, given, rfl, ⟨ga, rfl, hg⟩, fun x hx => hN x (List.mem_append_left _ hx), (List.nodup_append.mp hnd).1, by omega, fun H1 s1 => ?_⟩
    refine ⟨true, rfl, iteF ?_⟩
    refine ⟨_, rfl, .ref va, .ty "tuple", _, _, true, rfl, .ty _, tyx_tupS (Same.sqt s1 hv), kit_ty (by decide +kernel), true, rfl, iteF ?_⟩
    refine ⟨_, rfl, _, rfl, ga, va, _, _, rfl, rfl, Same.sqt s1 hg, Same.sqt s1 hv, by rw [List.length_map, List.length_map, sizeLine_eq]; omega, fun p H2 s2 hp => ?_⟩
    rw [← List.map_append] at hp
    refine ⟨.ref p, given ++ vars, rfl, ⟨p, rfl, hp⟩, hN, hnd, by rw [List.length_append]; omega, fun H3 s3 => ?_⟩
    refine ⟨true, rfl, iteF ?_⟩
    have s13 := (s1.trans s2).trans s3
    refine ⟨_, rfl, ga, _, rfl, .inr (Same.sqt s13 hg), _, rfl, va, _, rfl, .inr (Same.sqt s13 hv), ?_⟩
    refine ⟨_, _, rfl, rfl, _, _, rfl, rfl, _, rfl, ?_⟩
    rw [List.length_map, List.length_map, decide_eq_true (by omega)]
    refine iteT ⟨_, _, rfl, rfl, _, rfl, ?_⟩
    rw [decide_eq_true (by omega)]
    exact iteF (q _ s13)
def sp_check_blocks (K : PySem.W.Frag) : Sp := fun vs H Q _ => ∃ (nv pv mv : V) (names : List Str) (ps : List Pr) (m : List Pg.St), vs = [nv, pv, mv] ∧ Ts K H nv names ∧ Dp K H pv (prsD ps) ∧ Dp K H mv (bD m) ∧ Names names ∧ PrsOk names ps ∧ blOk names (ps.map (·.1)) 7 m ∧ blSz m ≤ 1000 ∧ ∀ H', Same H H' → Q .non H'
theorem ok_check_blocks (T : PgF K mg) : FnOk P w K mg base CX0 33 T.f_check_blocks T.fd_check_blocks ["names", "procedures", "main"] (sp_check_blocks K) := by
  refine T.D_check_blocks.F.ok sc_check_blocks (fun vs H Q E h => ?_) (fun cdv A outer s H vs Q E hr h => ?_)
  · obtain ⟨v, mv, ps, m, x1, x2, rfl, _⟩ := h
    rfl
  · obtain ⟨nv, qv, mv, names, ps, m, rfl, hn, hp, hm, hN, ok, okm, hsz, q⟩ := h
    have nd := sc_check_blocks.nd
    have hp0 := hp
    have h6 := ok.len
    refine ⟨_, (pss_cons (ps_if (pt_not (pt_val (pe_call ((ok_are_procedures T).mono (by decide)) hr (by rfl) T.D_are_procedures.g T.D_are_procedures.kp T.D_are_procedures.b .nil pass0 (pa_cons (pv 1) (pa_cons (pv 0) pa_nil)))))
      (pss_one ps_never)
      pss_nil)
      (pss_one (ps_if (pt_not (pt_val (pe_call ((ok_blocks T 8).mono (by decide)) hr (by rfl) T.g_is_block T.F_is_block.kp T.b3_is_block T.v3_is_block pass0 (pa_cons (pv 2) (pa_cons (pv 0) (pa_cons (pe_lc (own := [("name", 3), ("_", 4)]) (g := (gTup K 2 (gCons (gName 3) (gCons (gName 4) gNil)))) (tt := tYes) rfl nd (pi_tup (pv 1)) (blkOk_by (N := N_check_blocks) (sc := defScope s_check_blocks) (by decide +kernel)) (fun _ _ _ _ _ => (pg_tup rfl (pgs_cons (pg_name (i := 3) nd rfl (.inl rfl)) (pgs_cons (pg_name (i := 4) nd rfl (.inl rfl)) pgs_nil)))) (fun _ _ _ _ _ => pts_nil) (fun _ _ _ _ _ => (pv 3))) pa_nil))))))
      (pss_one ps_never)
      pss_nil))), ?_⟩
    refine ⟨_, rfl, _, rfl, _, _, ps, names, rfl, hp, hn.tl, hN, ok, fun H1 s1 => ?_⟩
    refine ⟨true, rfl, iteF ?_⟩
    obtain ⟨a, ys, rfl, hS1, hA⟩ := dp_tup hp
    have yl : ys.length = ps.length := by rw [dpAll_len hA, List.length_map]
    refine ⟨_, rfl, _, rfl, _, rfl, a, rfl, ⟨_, Same.sqt s1 hS1⟩, fun D nD => ?_⟩
    refine lc_it (walk_tup (K := K) (a := a) (xs := ys)) (Acc H1 D fun i => (((ps.map (·.1)).map V.str)[i]?).getD .non) (Acc.start nD) (fun i H' _ h' => Same.sqt (s1.trans h'.1) hS1) ?_ ?_
    · rintro i v H3 H4 hi h' ⟨rfl, hv⟩
      obtain ⟨d', hd', hdp⟩ := dpAll_at hA hv
      rw [List.getElem?_map] at hd'
      obtain ⟨p, hp, rfl⟩ := Option.map_eq_some_iff.mp hd'
      obtain ⟨b, y, rfl, h1, h2⟩ := dp_prD (dp_keep (Same.tk (s1.trans h'.1)) hdp (prD_tup hN ok (List.mem_of_getElem? hp)))
      refine ⟨b, _, rfl, h1, rfl, _, _, rfl, _, _, rfl, rfl, rfl, ?_⟩
      dsimp only [tYes]
      refine iteT ⟨_, rfl, ?_⟩
      refine h'.turn nD (Same.refl _) (by omega) ?_
      rw [List.getElem?_map, List.getElem?_map, hp]
      rfl
    · rintro H3 h'
      have hD2 := acc_get h' (by rw [List.length_map, List.length_map, yl])
      have s3 := s1.trans h'.1
      refine ⟨mv, nv, .ref D, 1, m, names, ps.map (·.1), rfl, dp_keep (Same.tk s3) hm (bD_tup hN ok.N okm), ⟨hn.tl.same s3, ⟨D, rfl, .inl (SqL.of hD2)⟩, hN, ok.N⟩, okm, by decide, hsz, fun H4 s4 => ?_⟩
      exact ⟨true, rfl, iteF (q _ (s3.trans s4))⟩
def sp_check_size (K : PySem.W.Frag) : Sp := fun vs H Q _ => ∃ (v : V) (ds : List PyData), vs = [v] ∧ Dp K H v (.tuple ds) ∧ tupAll ds = true ∧ (∀ d ∈ ds, Instr d) ∧ ds.length ≤ 120 ∧ (ds.filter isCall).length ≤ 8 ∧ ∀ H', Same H H' → Q .non H'
theorem ok_check_size (T : PgF K mg) : FnOk P w K mg base CX0 1 T.f_check_size T.fd_check_size ["code"] (sp_check_size K) := by
  refine T.D_check_size.F.ok sc_check_size (fun vs H Q E h => ?_) (fun cdv A outer s H vs Q E hr h => ?_)
  · obtain ⟨v, ds, rfl, _⟩ := h
    rfl
  · obtain ⟨v, ds, rfl, hd, ht, hI, h120, h8, q⟩ := h
    have nd := sc_check_size.nd
    obtain ⟨a, ys, rfl, hS1, hA⟩ := dp_tup hd
    have yl := dpAll_len hA
    refine ⟨_, (pss_cons (ps_setLc (i := 1) (own := [("instruction", 2)]) (g := (gName 2)) rfl nd rfl rfl (sw_true rfl rfl rfl (by decide +kernel)) (pi_tup (pv 0)) (blkOk_by (N := N_check_size) (sc := defScope s_check_size) (by decide +kernel)) (fun _ _ _ _ _ => (pg_name (i := 2) nd rfl (.inl rfl))) (fun _ _ _ _ _ => (pts_one (pt_cmpR op_eq (pe_ix (r := rIxT K) ix_tup (pv 2) pe_int (fun _ _ => rfl)) pe_str (nomark _)))) (fun _ _ _ _ _ => (pv 2)))
      (pss_one (ps_if (PW.pt (pw_or (pt_cmpR op_gt (pe_callB call_len_seq (by rfl) T.m_len PySem.boot_len (pa_cons (pv 0) pa_nil)) (pe_glob (v := .int 120) rfl T.c_MAX_CODE ⟨_, rfl⟩) (nomark _)) (pw_or1 (pt_cmpR op_gt (pe_callB call_len_seq (by rfl) T.m_len PySem.boot_len (pa_cons (pv 1) pa_nil)) (pe_glob (v := .int 8) rfl T.c_MAX_CALLS ⟨_, rfl⟩) (nomark _)))))
      (pss_one ps_never)
      pss_nil))), ?_⟩
    refine ⟨_, rfl, a, rfl, ⟨_, hS1⟩, fun D nD => ?_⟩
    refine lc_it (walk_tup (K := K) (a := a) (xs := ys)) (fun i H' => Same H H' ∧ ∃ acc, H' D = some (.lst acc) ∧ acc.length = ((ds.take i).filter isCall).length) ⟨same_new nD, [], upd_same, rfl⟩ (fun i H' _ h' => Same.sqt h'.1 hS1) ?_ ?_
    · rintro i v H3 H4 hi ⟨s3, acc, hacc, hl⟩ ⟨rfl, hv⟩
      obtain ⟨d', hd', hdp⟩ := dpAll_at hA hv
      have hm := List.mem_of_getElem? hd'
      obtain ⟨x, r, rfl⟩ := hI _ hm
      obtain ⟨b, zs, rfl, hb, hz⟩ := dp_tup (dp_keep (Same.tk s3) hdp (tupAll_iff.mp ht _ hm))
      obtain ⟨zs, rfl⟩ : ∃ r, zs = .str x :: r := by
        cases hz with
        | cons h1 h2 =>
          obtain rfl := dp_str h1
          exact ⟨_, rfl⟩
      have htk : ds.take (i + 1) = ds.take i ++ [.tuple (.str x :: r)] := by rw [List.take_add_one, hd']; rfl
      have hle : ((ds.take i).filter isCall).length ≤ 120 := Nat.le_trans (List.length_filter_le _ _) (by rw [List.length_take]; omega)
      refine ⟨rfl, ?_⟩
      refine ⟨_, rfl, b, _, _, _, rfl, rfl, hb, atI_nat (j := 0) rfl, rfl, _, rfl, ?_⟩
      have hw : decide (V.str x = V.str "call") = decide (x = "call") := decide_eq_decide.mpr ⟨fun z => V.str.inj z, fun z => by rw [z]⟩
      rw [htk, List.filter_append, List.length_append]
      refine ite2 (fun e => ?_) (fun e => ?_)
      · rw [hw] at e
        refine ⟨_, rfl, acc, hacc, by rw [sizeLine_eq]; omega, same_at nD s3, _, upd_same, ?_⟩
        have : ([PyData.tuple (.str x :: r)].filter isCall).length = 1 := by
          simp [List.filter, isCall, e]
        rw [this, List.length_append, hl]
        rfl
      · rw [hw] at e
        refine ⟨s3, acc, hacc, ?_⟩
        have : ([PyData.tuple (.str x :: r)].filter isCall).length = 0 := by
          simp [List.filter, isCall, e]
        rw [this, hl]
        rfl
    · rintro H3 ⟨s3, acc, hacc, hl⟩
      rw [yl, List.take_length] at hl
      refine ⟨_, rfl, a, _, rfl, .inr (Same.sqt s3 hS1), _, _, rfl, rfl, _, rfl, ?_⟩
      rw [decide_eq_false (by omega)]
      refine iteF ?_
      refine ⟨_, rfl, D, _, rfl, .inl (SqL.of hacc), _, _, rfl, rfl, _, rfl, ?_⟩
      rw [decide_eq_false (by omega)]
      exact iteF (q _ s3)
end
end Sp1

set_option Elab.async false
set_option linter.all false
set_option maxRecDepth 100000
set_option maxHeartbeats 4000000
namespace Sp1
open PySem PySem.Spec PyProof.Rows L2 Pg
abbrev s_init : Stmt := inClass (top 49) 0
abbrev N_init : List Str := ["self", "given", "variables", "procedures", "main"]
theorem sc_init : FnScope N_init ["self", "given", "variables", "procedures", "main"] (defScope s_init) := ⟨rfl, rfl, rfl, by decide +kernel, rfl, by decide +kernel, by decide +kernel⟩
abbrev s_given : Stmt := inClass (top 49) 1
abbrev N_given : List Str := ["self"]
theorem sc_given : FnScope N_given ["self"] (defScope s_given) := ⟨rfl, rfl, rfl, by decide +kernel, rfl, by decide +kernel, by decide +kernel⟩
abbrev s_variables : Stmt := inClass (top 49) 2
abbrev N_variables : List Str := ["self"]
theorem sc_variables : FnScope N_variables ["self"] (defScope s_variables) := ⟨rfl, rfl, rfl, by decide +kernel, rfl, by decide +kernel, by decide +kernel⟩
abbrev s_procedures : Stmt := inClass (top 49) 3
abbrev N_procedures : List Str := ["self"]
theorem sc_procedures : FnScope N_procedures ["self"] (defScope s_procedures) := ⟨rfl, rfl, rfl, by decide +kernel, rfl, by decide +kernel, by decide +kernel⟩
abbrev s_main : Stmt := inClass (top 49) 4
abbrev N_main : List Str := ["self"]
theorem sc_main : FnScope N_main ["self"] (defScope s_main) := ⟨rfl, rfl, rfl, by decide +kernel, rfl, by decide +kernel, by decide +kernel⟩
abbrev s_names : Stmt := inClass (top 49) 5
abbrev N_names : List Str := ["self"]
theorem sc_names : FnScope N_names ["self"] (defScope s_names) := ⟨rfl, rfl, rfl, by decide +kernel, rfl, by decide +kernel, by decide +kernel⟩
abbrev s_code : Stmt := inClass (top 49) 6
abbrev N_code : List Str := ["self"]
theorem sc_code : FnScope N_code ["self"] (defScope s_code) := ⟨rfl, rfl, rfl, by decide +kernel, rfl, by decide +kernel, by decide +kernel⟩
abbrev s_eq : Stmt := inClass (top 49) 8
abbrev N_eq : List Str := ["self", "other"]
theorem sc_eq : FnScope N_eq ["self", "other"] (defScope s_eq) := ⟨rfl, rfl, rfl, by decide +kernel, rfl, by decide +kernel, by decide +kernel⟩
/-- the class of programs -/
structure PgC (K : PySem.W.Frag) (mg : Str → Option Value) where
  C : Addr
  g : mg "Program" = some (.ref C)
  cl : Cls K C
  is : ObIs K C
  n_code : NoAttr K C "_code"
  n_entries : NoAttr K C "_entries"
  n_given : NoAttr K C "_given"
  n_variables : NoAttr K C "_variables"
  n_procedures : NoAttr K C "_procedures"
  n_main : NoAttr K C "_main"
  f_init : Addr
  fd_init : FuncData
  M : Mk K C f_init
  F_init : Fun K "__init__" "Program.__init__" s_init f_init fd_init
  b_init : L2.Binds K fd_init ["self", "given", "variables", "procedures", "main"] []
  f_eq : Addr
  fd_eq : FuncData
  F_eq : Fun K "__eq__" "Program.__eq__" s_eq f_eq fd_eq
  b_eq : L2.Binds K fd_eq ["self", "other"] []
  a_eq : PySem.W.findIn K (.ref C) "__eq__" = some (some (.ref f_eq))
  i_eq : PySem.W.isFn K (.ref f_eq) = true
  a_ne : PySem.W.findIn K (.ref C) "__ne__" = some (some (.builtin "object.__ne__"))
  p_given : Addr
  f_given : Addr
  fd_given : FuncData
  P_given : PropOf K C "given" p_given f_given
  F_given : Fun K "given" "Program.given" s_given f_given fd_given
  b_given : L2.Binds K fd_given ["self"] []
  p_variables : Addr
  f_variables : Addr
  fd_variables : FuncData
  P_variables : PropOf K C "variables" p_variables f_variables
  F_variables : Fun K "variables" "Program.variables" s_variables f_variables fd_variables
  b_variables : L2.Binds K fd_variables ["self"] []
  p_procedures : Addr
  f_procedures : Addr
  fd_procedures : FuncData
  P_procedures : PropOf K C "procedures" p_procedures f_procedures
  F_procedures : Fun K "procedures" "Program.procedures" s_procedures f_procedures fd_procedures
  b_procedures : L2.Binds K fd_procedures ["self"] []
  p_main : Addr
  f_main : Addr
  fd_main : FuncData
  P_main : PropOf K C "main" p_main f_main
  F_main : Fun K "main" "Program.main" s_main f_main fd_main
  b_main : L2.Binds K fd_main ["self"] []
  p_names : Addr
  f_names : Addr
  fd_names : FuncData
  P_names : PropOf K C "names" p_names f_names
  F_names : Fun K "names" "Program.names" s_names f_names fd_names
  b_names : L2.Binds K fd_names ["self"] []
  p_code : Addr
  f_code : Addr
  fd_code : FuncData
  P_code : PropOf K C "code" p_code f_code
  F_code : Fun K "code" "Program.code" s_code f_code fd_code
  b_code : L2.Binds K fd_code ["self"] []
def pgF (cv ev gv vv qv mv : V) : List (Str × V) := putF "_main" mv (putF "_procedures" qv (putF "_variables" vv (putF "_given" gv (putF "_entries" ev (putF "_code" cv [])))))

theorem pgF_code (cv ev gv vv qv mv : V) : (pgF cv ev gv vv qv mv).lookup ("_code" : Str) = some cv := by
  unfold pgF
  rw [lookup_putF, if_neg (by decide +kernel), lookup_putF, if_neg (by decide +kernel), lookup_putF, if_neg (by decide +kernel), lookup_putF, if_neg (by decide +kernel), lookup_putF, if_neg (by decide +kernel), lookup_putF, if_pos rfl]
theorem pgF_entries (cv ev gv vv qv mv : V) : (pgF cv ev gv vv qv mv).lookup ("_entries" : Str) = some ev := by
  unfold pgF
  rw [lookup_putF, if_neg (by decide +kernel), lookup_putF, if_neg (by decide +kernel), lookup_putF, if_neg (by decide +kernel), lookup_putF, if_neg (by decide +kernel), lookup_putF, if_pos rfl]
theorem pgF_given (cv ev gv vv qv mv : V) : (pgF cv ev gv vv qv mv).lookup ("_given" : Str) = some gv := by
  unfold pgF
  rw [lookup_putF, if_neg (by decide +kernel), lookup_putF, if_neg (by decide +kernel), lookup_putF, if_neg (by decide +kernel), lookup_putF, if_pos rfl]
theorem pgF_variables (cv ev gv vv qv mv : V) : (pgF cv ev gv vv qv mv).lookup ("_variables" : Str) = some vv := by
  unfold pgF
  rw [lookup_putF, if_neg (by decide +kernel), lookup_putF, if_neg (by decide +kernel), lookup_putF, if_pos rfl]
theorem pgF_procedures (cv ev gv vv qv mv : V) : (pgF cv ev gv vv qv mv).lookup ("_procedures" : Str) = some qv := by
  unfold pgF
  rw [lookup_putF, if_neg (by decide +kernel), lookup_putF, if_pos rfl]
theorem pgF_main (cv ev gv vv qv mv : V) : (pgF cv ev gv vv qv mv).lookup ("_main" : Str) = some mv := by
  unfold pgF
  rw [lookup_putF, if_pos rfl]
end Sp1

set_option Elab.async false
set_option linter.all false
set_option maxRecDepth 100000
set_option maxHeartbeats 4000000
namespace Pg
open PySem
/-- the parts of a program -/
structure Pt where
  given : List Str
  vars : List Str
  ps : List Pr
  m : List St
abbrev Pt.names (p : Pt) : List Str := p.given ++ p.vars
def Pt.code (p : Pt) : List PyData := pgCode p.m p.ps
def Pt.ent (p : Pt) : List (Str × Int) := pgEnt p.m p.ps
/-- all but the size -/
structure Pt.Fine (p : Pt) : Prop where
  N : Names p.names
  nd : p.names.Nodup
  l1 : 1 ≤ p.given.length + p.vars.length
  l4 : p.given.length + p.vars.length ≤ 4
  prs : PrsOk p.names p.ps
  mn : blOk p.names (p.ps.map (·.1)) 7 p.m
  msz : blSz p.m ≤ 1000
structure Pt.Small (p : Pt) : Prop where
  sz : p.code.length ≤ 120
  calls : (p.code.filter isCall).length ≤ 8
theorem st_instr (s : St) : Instr s.D := by cases s <;> exact ⟨_, _, by simp only [St.D]; rfl⟩
mutual
theorem code_instr : ∀ (s : St) (n : Int), ∀ d ∈ s.code n, Instr d
  | .ite e a b, n => by
    intro d hd
    simp only [St.code, List.mem_cons, List.mem_append, List.not_mem_nil, or_false] at hd
    rcases hd with rfl | hd | rfl | hd | rfl
    · exact ⟨_, _, rfl⟩
    · exact blCode_instr a _ d hd
    · exact ⟨_, _, rfl⟩
    · exact blCode_instr b _ d hd
    · exact ⟨_, _, rfl⟩
  | .whl e b, n => by
    intro d hd
    simp only [St.code, List.mem_cons, List.mem_append, List.not_mem_nil, or_false] at hd
    rcases hd with rfl | rfl | hd | rfl
    · exact ⟨_, _, rfl⟩
    · exact ⟨_, _, rfl⟩
    · exact blCode_instr b _ d hd
    · exact ⟨_, _, rfl⟩
  | .rep e b, n => by
    intro d hd
    simp only [St.code, List.mem_cons, List.mem_append, List.not_mem_nil, or_false] at hd
    rcases hd with rfl | rfl | hd | rfl
    · exact ⟨_, _, rfl⟩
    · exact ⟨_, _, rfl⟩
    · exact blCode_instr b _ d hd
    · exact ⟨_, _, rfl⟩
  | .set x e, n => by
    intro d hd
    simp only [St.code, List.mem_singleton] at hd
    rw [hd]
    exact st_instr _
  | .swap x e, n => by
    intro d hd
    simp only [St.code, List.mem_singleton] at hd
    rw [hd]
    exact st_instr _
  | .print e, n => by
    intro d hd
    simp only [St.code, List.mem_singleton] at hd
    rw [hd]
    exact st_instr _
  | .call e, n => by
    intro d hd
    simp only [St.code, List.mem_singleton] at hd
    rw [hd]
    exact st_instr _
theorem blCode_instr : ∀ (b : List St) (n : Int), ∀ d ∈ blCode b n, Instr d
  | [], n => by intro d hd; simp [blCode] at hd
  | s :: r, n => by
    intro d hd
    simp only [blCode, List.mem_append] at hd
    rcases hd with hd | hd
    · exact code_instr s n d hd
    · exact blCode_instr r _ d hd
end
theorem prsCode_instr : ∀ (ps : List Pr) (k : Int), ∀ d ∈ prsCode ps k, Instr d
  | [], k => by intro d hd; simp [prsCode] at hd
  | p :: r, k => by
    intro d hd
    simp only [prsCode, List.mem_append, List.mem_cons] at hd
    rcases hd with hd | rfl | hd
    · exact blCode_instr p.2 k d hd
    · exact ⟨_, _, rfl⟩
    · exact prsCode_instr r _ d hd
theorem pgCode_instr (m : List St) (ps : List Pr) : ∀ d ∈ pgCode m ps, Instr d := by
  intro d hd
  simp only [pgCode, List.mem_append, List.mem_cons] at hd
  rcases hd with hd | rfl | hd
  · exact blCode_instr m 0 d hd
  · exact ⟨_, _, rfl⟩
  · exact prsCode_instr ps _ d hd
end Pg
namespace Sp1
open PySem PySem.Spec PyProof.Rows L2 Pg
/-- a program's parts at four values -/
structure PvAt (K : PySem.W.Frag) (H : Hp) (gv vv qv mv : V) (p : Pt) : Prop where
  g : Ts K H gv p.given
  v : Ts K H vv p.vars
  q : Dp K H qv (prsD p.ps)
  m : Dp K H mv (bD p.m)
theorem PvAt.tk {K : PySem.W.Frag} {H H' : Hp} {gv vv qv mv : V} {p : Pt} (h : PvAt K H gv vv qv mv p) (f : p.Fine) (s : TK H H') : PvAt K H' gv vv qv mv p :=
  ⟨h.g.tk s, h.v.tk s, dp_keep s h.q (prsD_tup f.N f.prs), dp_keep s h.m (bD_tup f.N f.prs.N f.mn)⟩
/-- a code at a plain tuple -/
def CdV (K : PySem.W.Frag) (H : Hp) (cv : V) (ds : List PyData) : Prop := ∃ c ys, cv = .ref c ∧ FzT H c ys ∧ DpAll K H ys ds
theorem CdV.tk {K : PySem.W.Frag} {H H' : Hp} {cv : V} {ds : List PyData} (h : CdV K H cv ds) (t : tupAll ds = true) (s : TK H H') : CdV K H' cv ds := by
  obtain ⟨c, ys, e, h1, h2⟩ := h
  exact ⟨c, ys, e, h1.tk s, dpAll_keep s h2 t⟩
theorem CdV.dp {K : PySem.W.Frag} {H : Hp} {cv : V} {ds : List PyData} (h : CdV K H cv ds) : Dp K H cv (.tuple ds) := by
  obtain ⟨c, ys, rfl, h1, h2⟩ := h
  exact .tup h1.sqt h2
/-- a program at x -/
def PgAt (K : PySem.W.Frag) (C : Addr) (H : Hp) (x : V) (p : Pt) : Prop := ∃ a dx cv d gv vv qv mv, x = .ref a ∧ H a = some (.ins C dx (pgF cv (.ref d) gv vv qv mv)) ∧ PvAt K H gv vv qv mv p ∧ CdV K H cv p.code ∧ H d = some (.dK (p.ent.map entD))
theorem code_tupD {p : Pt} (f : p.Fine) : tupAll p.code = true := pgCode_tup f.N f.prs f.mn
theorem PgAt.same {K : PySem.W.Frag} {C : Addr} {H H' : Hp} {x : V} {p : Pt} (h : PgAt K C H x p) (f : p.Fine) (s : Same H H') : PgAt K C H' x p := by
  obtain ⟨a, dx, cv, d, gv, vv, qv, mv, e, h1, h2, h3, h4⟩ := h
  exact ⟨a, dx, cv, d, gv, vv, qv, mv, e, s _ _ h1, h2.tk f (Same.tk s), h3.tk (code_tupD f) (Same.tk s), s _ _ h4⟩
theorem putF_lt {f : Str} {v : V} : ∀ {fs : List (Str × V)} {n : Nat}, fs.length < n → (putF f v fs).length < n + 1
  | [], n, h => by show 1 < n + 1; exact Nat.succ_lt_succ h
  | (g, x) :: r, n, h => by
    unfold putF
    split
    · exact Nat.lt_succ_of_lt h
    · cases n with
      | zero => cases h
      | succ n => exact Nat.succ_lt_succ (putF_lt (Nat.lt_of_succ_lt_succ h))
theorem tk_ins {H : Hp} {x C dx : Addr} {fs : List (Str × V)} {o : HO} (h : H x = some (.ins C dx fs)) : TK H (upd H x o) := ⟨fun b ys e => by rw [upd_ne (ne_of e h (by intro z; cases z))]; exact e, fun b ob u e => by rw [upd_ne (ne_of e h (by intro z; cases z))]; exact e⟩
section
variable {P : Program} {w : World} {K : PySem.W.Frag} {mg : Str → Option Value} {base : Heap}
def sp_init (K : PySem.W.Frag) (C : Addr) : Sp := fun vs H Q _ => ∃ (x dx : Addr) (gv vv qv mv : V) (p : Pt), vs = [.ref x, gv, vv, qv, mv] ∧ H x = some (.ins C dx []) ∧ PvAt K H gv vv qv mv p ∧ p.Fine ∧ p.Small ∧
  ∀ H', (∀ b o, b ≠ x → H b = some o → H' b = some o) → PgAt K C H' (.ref x) p → Q .non H'
theorem ok_init (T : PgF K mg) (C : PgC K mg) : FnOk P w K mg base CX0 34 C.f_init C.fd_init ["self", "given", "variables", "procedures", "main"] (sp_init K C.C) := by
  refine C.F_init.ok sc_init (fun vs H Q E h => ?_) (fun cdv A outer s H vs Q E hr h => ?_)
  · obtain ⟨x, dx, gv, vv, qv, mv, p, rfl, _⟩ := h
    rfl
  · obtain ⟨x, dx, gv, vv, qv, mv, p, rfl, hx, hp, f, sm, q⟩ := h
    have nd := sc_init.nd
    have l4 := f.l4
    refine ⟨_, (pss_cons (ps_expr (pe_call ((ok_check_names T).mono (by decide)) hr (by rfl) T.D_check_names.g T.D_check_names.kp T.D_check_names.b .nil pass0 (pa_cons (pv 1) (pa_cons (pv 2) pa_nil))))
      (pss_cons (ps_expr (pe_call ((ok_check_blocks T).mono (by decide)) hr (by rfl) T.D_check_blocks.g T.D_check_blocks.kp T.D_check_blocks.b .nil pass0 (pa_cons (pe_op op_catU (pv 1) (pv 2)) (pa_cons (pv 3) (pa_cons (pv 4) pa_nil)))))
      (pss_cons (ps_asg (pe_call ((ok_program_code T).mono (by decide)) hr (by rfl) T.D_program_code.g T.D_program_code.kp T.D_program_code.b .nil pass0 (pa_cons (pv 3) (pa_cons (pv 4) pa_nil))) (pg_tup rfl (pgs_cons (pg_fld (pv 0)) (pgs_cons (pg_fld (pv 0)) pgs_nil))))
      (pss_cons (ps_expr (pe_call ((ok_check_size T).mono (by decide)) hr (by rfl) T.D_check_size.g T.D_check_size.kp T.D_check_size.b .nil pass0 (pa_cons (pe_fld (pv 0) rfl) pa_nil)))
      (pss_cons (ps_fld (pv 0) (pv 1) rfl)
      (pss_cons (ps_fld (pv 0) (pv 2) rfl)
      (pss_cons (ps_fld (pv 0) (pv 3) rfl)
      (pss_one (ps_fld (pv 0) (pv 4) rfl))))))))), ?_⟩
    refine ⟨_, rfl, _, rfl, gv, vv, p.given, p.vars, rfl, hp.g, hp.v, f.N, f.nd, f.l1, l4, fun H1 s1 => ?_⟩
    have hp1 := hp.tk f (Same.tk s1)
    obtain ⟨ga, rfl, hg⟩ := hp1.g
    obtain ⟨va, rfl, hv⟩ := hp1.v
    refine ⟨_, rfl, _, rfl, ga, va, _, _, rfl, rfl, hg, hv, by rw [List.length_map, List.length_map, sizeLine_eq]; omega, fun np H2 s2 hnp => ?_⟩
    rw [← List.map_append] at hnp
    have hp2 := hp1.tk f (Same.tk s2)
    refine ⟨_, rfl, _, rfl, .ref np, qv, mv, p.names, p.ps, p.m, rfl, ⟨np, rfl, hnp⟩, hp2.q, hp2.m, f.N, f.prs, f.mn, f.msz, fun H3 s3 => ?_⟩
    have hp3 := hp2.tk f (Same.tk s3)
    refine ⟨_, rfl, _, rfl, qv, mv, p.ps, p.m, p.names, rfl, hp3.q, hp3.m, f.N, f.prs, f.mn, f.msz, fun H4 t c d s4 nt ht hc nd4 hd => ?_⟩
    have hp4 := hp3.tk f (Same.tk s4)
    have s14 := ((s1.trans s2).trans s3).trans s4
    have hx4 := s14 _ _ hx
    refine ⟨t, _, rfl, ht, rfl, _, _, rfl, _, rfl, x, C.C, dx, [], rfl, hx4, C.cl, C.n_code, by decide, ?_⟩
    have z0 : ([] : List (Str × V)).length < 1 := by decide
    have z1 := putF_lt (f := "_code") (v := .ref c) z0
    have z2 := putF_lt (f := "_entries") (v := .ref d) z1
    have z3 := putF_lt (f := "_given") (v := .ref ga) z2
    have z4 := putF_lt (f := "_variables") (v := .ref va) z3
    have z5 := putF_lt (f := "_procedures") (v := qv) z4
    generalize hf1 : putF "_code" (V.ref c) [] = f1 at z1 z2 z3 z4 z5 ⊢
    refine ⟨_, _, rfl, _, rfl, x, C.C, dx, f1, rfl, upd_same, C.cl, C.n_entries, by omega, rfl, ?_⟩
    have tk5 : TK H4 (upd (upd H4 x (.ins C.C dx f1)) x (.ins C.C dx (putF "_entries" (V.ref d) f1))) := (tk_ins hx4).trans (tk_ins upd_same)
    have e5 : ∀ b o, b ≠ x → H4 b = some o → (upd (upd H4 x (.ins C.C dx f1)) x (.ins C.C dx (putF "_entries" (V.ref d) f1))) b = some o := fun b o hb e => by
      rw [upd_ne hb, upd_ne hb]
      exact e
    have hx5 : (upd (upd H4 x (.ins C.C dx f1)) x (.ins C.C dx (putF "_entries" (V.ref d) f1))) x = some (.ins C.C dx (putF "_entries" (V.ref d) f1)) := upd_same
    generalize upd (upd H4 x (.ins C.C dx f1)) x (.ins C.C dx (putF "_entries" (V.ref d) f1)) = H5 at tk5 e5 hx5 ⊢
    have lk : (putF "_entries" (V.ref d) f1).lookup ("_code" : Str) = some (.ref c) := by
      rw [lookup_putF, if_neg (by decide +kernel), ← hf1, lookup_putF, if_pos rfl]
    have hc4 : CdV K H4 (.ref c) p.code := by
      obtain ⟨ys, h1, h2⟩ := hc
      exact ⟨c, ys, rfl, h1, h2⟩
    have hc5v := hc4.tk (code_tupD f) tk5
    have hc5 := hc5v.dp
    refine ⟨_, rfl, x, C.C, dx, _, _, rfl, hx5, C.cl, C.n_code, lk, .ref c, p.code, rfl, hc5, code_tupD f, pgCode_instr _ _, sm.sz, sm.calls, fun H6 s6 => ?_⟩
    have hx6 := s6 _ _ hx5
    have hdx : d ≠ x := fun z => by rw [z, hx4] at hd; cases hd
    have hd6 := s6 _ _ (e5 _ _ hdx hd)
    have e6 : ∀ b o, b ≠ x → H b = some o → H6 b = some o := fun b o hb e => s6 _ _ (e5 _ _ hb (s14 _ _ e))
    have tk6 : TK H4 H6 := tk5.trans (Same.tk s6)
    have hc6 := hc5v.tk (code_tupD f) (Same.tk s6)
    refine ⟨_, rfl, _, rfl, x, C.C, dx, _, rfl, hx6, C.cl, C.n_given, by omega, ?_⟩
    refine ⟨_, rfl, _, rfl, x, C.C, dx, _, rfl, upd_same, C.cl, C.n_variables, by omega, ?_⟩
    refine ⟨_, rfl, _, rfl, x, C.C, dx, _, rfl, upd_same, C.cl, C.n_procedures, by omega, ?_⟩
    refine ⟨_, rfl, _, rfl, x, C.C, dx, _, rfl, upd_same, C.cl, C.n_main, by omega, ?_⟩
    have tk7 := (((tk_ins (o := .ins C.C dx (putF "_given" (V.ref ga) (putF "_entries" (V.ref d) f1))) hx6).trans (tk_ins (o := .ins C.C dx (putF "_variables" (V.ref va) (putF "_given" (V.ref ga) (putF "_entries" (V.ref d) f1)))) upd_same)).trans
      (tk_ins (o := .ins C.C dx (putF "_procedures" qv (putF "_variables" (V.ref va) (putF "_given" (V.ref ga) (putF "_entries" (V.ref d) f1))))) upd_same)).trans (tk_ins (o := .ins C.C dx (putF "_main" mv (putF "_procedures" qv (putF "_variables" (V.ref va) (putF "_given" (V.ref ga) (putF "_entries" (V.ref d) f1)))))) upd_same)
    refine q _ (fun b o hb e => ?_) ⟨x, dx, .ref c, d, .ref ga, .ref va, qv, mv, rfl, ?_, hp4.tk f (tk6.trans tk7), hc6.tk (code_tupD f) tk7, ?_⟩
    · rw [upd_ne hb, upd_ne hb, upd_ne hb, upd_ne hb]
      exact e6 b o hb e
    · rw [upd_same, ← hf1]
      rfl
    · rw [upd_ne hdx, upd_ne hdx, upd_ne hdx, upd_ne hdx]
      exact hd6
end
end Sp1

set_option Elab.async false
set_option linter.all false
set_option maxRecDepth 100000
set_option maxHeartbeats 4000000
namespace Pg
open PySem
theorem depth_str (x : Str) : (PyData.str x).depth = 0 := by simp [PyData.depth]
theorem depth_int (i : Int) : (PyData.int i).depth = 0 := by simp [PyData.depth]
theorem depth_tup (ds : List PyData) : (PyData.tuple ds).depth = PyData.depthAll ds + 1 := by simp [PyData.depth]
theorem depthAll_nil : PyData.depthAll [] = 0 := by simp [PyData.depthAll]
theorem depthAll_cons (d : PyData) (ds : List PyData) : PyData.depthAll (d :: ds) = max d.depth (PyData.depthAll ds) := by simp [PyData.depthAll]
mutual
theorem st_depth {names procs : List Str} : ∀ (n : Nat) (s : St), St.Ok names procs n s → s.D.depth ≤ 5 + 2 * n
  | n, .set x e, h => by
    have := e.depth
    simp only [St.D, depth_tup, depthAll_cons, depthAll_nil, depth_str]
    omega
  | n, .swap x y, h => by
    simp only [St.D, depth_tup, depthAll_cons, depthAll_nil, depth_str]
    omega
  | n, .print e, h => by
    have := e.depth
    simp only [St.D, depth_tup, depthAll_cons, depthAll_nil, depth_str]
    omega
  | n, .call x, h => by
    simp only [St.D, depth_tup, depthAll_cons, depthAll_nil, depth_str]
    omega
  | n, .ite e a b, h => by
    obtain ⟨_, m, rfl, h1, h2⟩ := h
    have := e.depth
    have := blD_depth m a h1
    have := blD_depth m b h2
    simp only [St.D, depth_tup, depthAll_cons, depthAll_nil, depth_str]
    omega
  | n, .whl e b, h => by
    obtain ⟨_, m, rfl, h2⟩ := h
    have := e.depth
    have := blD_depth m b h2
    simp only [St.D, depth_tup, depthAll_cons, depthAll_nil, depth_str]
    omega
  | n, .rep e b, h => by
    obtain ⟨_, m, rfl, h2⟩ := h
    have := e.depth
    have := blD_depth m b h2
    simp only [St.D, depth_tup, depthAll_cons, depthAll_nil, depth_str]
    omega
theorem blD_depth {names procs : List Str} : ∀ (n : Nat) (b : List St), blOk names procs n b → PyData.depthAll (blD b) ≤ 5 + 2 * n
  | n, [], _ => by simp only [blD, depthAll_nil]; omega
  | n, s :: r, h => by
    have := st_depth n s h.1
    have := blD_depth n r h.2
    simp only [blD, depthAll_cons]
    omega
end
theorem bD_depth {names procs : List Str} {n : Nat} {b : List St} (h : blOk names procs n b) : (bD b).depth ≤ 6 + 2 * n := by
  have := blD_depth n b h
  rw [blD_map] at this
  unfold bD
  rw [depth_tup]
  omega
theorem prsD_depth {names : List Str} {ps : List Pr} (h : PrsOk names ps) : (prsD ps).depth ≤ 22 := by
  unfold prsD
  rw [depth_tup]
  have : PyData.depthAll (ps.map prD) ≤ 21 := depthAll_le fun d hd => by
    obtain ⟨p, hp, rfl⟩ := List.mem_map.mp hd
    have := bD_depth (h.bl p hp).1
    simp only [prD, depth_tup, depthAll_cons, depthAll_nil, depth_str]
    omega
  omega
theorem strsD_depth (xs : List Str) : (PyData.tuple (xs.map sD)).depth ≤ 1 := by
  rw [depth_tup]
  have : PyData.depthAll (xs.map sD) ≤ 0 := depthAll_le fun d hd => by
    obtain ⟨p, hp, rfl⟩ := List.mem_map.mp hd
    rw [depth_str]
    exact Nat.le_refl _
  omega
theorem strsD_tup {xs : List Str} (h : Names xs) : tupD (.tuple (xs.map sD)) = true := by
  rw [tupD_tuple]
  exact tupAll_iff.mpr fun d hd => by
    obtain ⟨x, hx, rfl⟩ := List.mem_map.mp hd
    exact (h x hx).tup
def strsD (xs : List Str) : PyData := .tuple (xs.map sD)
def eqPt (p q : Pt) : Bool := PyData.eqv (strsD p.given) (strsD q.given) && (PyData.eqv (strsD p.vars) (strsD q.vars) && (PyData.eqv (prsD p.ps) (prsD q.ps) && PyData.eqv (bD p.m) (bD q.m)))
structure Pt.Sh (p : Pt) : Prop where
  g : SeqAt.shaped (strsD p.given) = true
  v : SeqAt.shaped (strsD p.vars) = true
  q : SeqAt.shaped (prsD p.ps) = true
  m : SeqAt.shaped (bD p.m) = true
theorem Pt.Fine.sh {p : Pt} (f : p.Fine) : p.Sh := by
  have hg : Names p.given := fun x hx => f.N x (List.mem_append_left _ hx)
  have hv : Names p.vars := fun x hx => f.N x (List.mem_append_right _ hx)
  have d1 := strsD_depth p.given
  have d2 := strsD_depth p.vars
  have d3 := prsD_depth f.prs
  have d4 := bD_depth f.mn
  exact ⟨shaped_of (strsD_tup hg) (Nat.le_trans d1 (by decide)), shaped_of (strsD_tup hv) (Nat.le_trans d2 (by decide)), shaped_of (prsD_tup f.N f.prs) (by omega), shaped_of (bD_tup f.N f.prs.N f.mn) (by omega)⟩
theorem eqPt_self {p : Pt} (f : p.Fine) : eqPt p p = true := by
  have s := f.sh
  unfold eqPt
  rw [Sp1.eqv_same s.g, Sp1.eqv_same s.v, Sp1.eqv_same s.q, Sp1.eqv_same s.m]
  rfl
end Pg
namespace Sp1
open PySem PySem.Spec PyProof.Rows L2 Pg
section
variable {P : Program} {w : World} {K : PySem.W.Frag} {mg : Str → Option Value} {base : Heap}
theorem ok_code (C : PgC K mg) : FnOk P w K mg base CX0 1 C.f_code C.fd_code ["self"] (getSp C.C "_code") := by
  refine C.F_code.ok sc_code (fun vs H Q E h => ?_) (fun cdv A outer s H vs Q E hr h => ?_)
  · obtain ⟨a, dx, fs, v, rfl, _⟩ := h
    rfl
  · obtain ⟨a, dx, fs, v, rfl, ea, l, q⟩ := h
    exact ⟨_, pss_one (ps_ret (pe_fld (pv 0) rfl)), .ref a, rfl, a, C.C, dx, fs, v, rfl, ea, C.cl, C.n_code, l, q⟩
theorem ok_given (C : PgC K mg) : FnOk P w K mg base CX0 1 C.f_given C.fd_given ["self"] (getSp C.C "_given") := by
  refine C.F_given.ok sc_given (fun vs H Q E h => ?_) (fun cdv A outer s H vs Q E hr h => ?_)
  · obtain ⟨a, dx, fs, v, rfl, _⟩ := h
    rfl
  · obtain ⟨a, dx, fs, v, rfl, ea, l, q⟩ := h
    exact ⟨_, pss_one (ps_ret (pe_fld (pv 0) rfl)), .ref a, rfl, a, C.C, dx, fs, v, rfl, ea, C.cl, C.n_given, l, q⟩
theorem ok_variables (C : PgC K mg) : FnOk P w K mg base CX0 1 C.f_variables C.fd_variables ["self"] (getSp C.C "_variables") := by
  refine C.F_variables.ok sc_variables (fun vs H Q E h => ?_) (fun cdv A outer s H vs Q E hr h => ?_)
  · obtain ⟨a, dx, fs, v, rfl, _⟩ := h
    rfl
  · obtain ⟨a, dx, fs, v, rfl, ea, l, q⟩ := h
    exact ⟨_, pss_one (ps_ret (pe_fld (pv 0) rfl)), .ref a, rfl, a, C.C, dx, fs, v, rfl, ea, C.cl, C.n_variables, l, q⟩
theorem ok_procedures (C : PgC K mg) : FnOk P w K mg base CX0 1 C.f_procedures C.fd_procedures ["self"] (getSp C.C "_procedures") := by
  refine C.F_procedures.ok sc_procedures (fun vs H Q E h => ?_) (fun cdv A outer s H vs Q E hr h => ?_)
  · obtain ⟨a, dx, fs, v, rfl, _⟩ := h
    rfl
  · obtain ⟨a, dx, fs, v, rfl, ea, l, q⟩ := h
    exact ⟨_, pss_one (ps_ret (pe_fld (pv 0) rfl)), .ref a, rfl, a, C.C, dx, fs, v, rfl, ea, C.cl, C.n_procedures, l, q⟩
theorem ok_main (C : PgC K mg) : FnOk P w K mg base CX0 1 C.f_main C.fd_main ["self"] (getSp C.C "_main") := by
  refine C.F_main.ok sc_main (fun vs H Q E h => ?_) (fun cdv A outer s H vs Q E hr h => ?_)
  · obtain ⟨a, dx, fs, v, rfl, _⟩ := h
    rfl
  · obtain ⟨a, dx, fs, v, rfl, ea, l, q⟩ := h
    exact ⟨_, pss_one (ps_ret (pe_fld (pv 0) rfl)), .ref a, rfl, a, C.C, dx, fs, v, rfl, ea, C.cl, C.n_main, l, q⟩
def sp_names (K : PySem.W.Frag) (C : Addr) : Sp := fun vs H Q _ => ∃ (x : V) (p : Pt), vs = [x] ∧ PgAt K C H x p ∧ p.given.length + p.vars.length ≤ 4 ∧ ∀ H' v, Same H H' → Ts K H' v p.names → Q v H'
theorem ok_names (C : PgC K mg) : FnOk P w K mg base CX0 1 C.f_names C.fd_names ["self"] (sp_names K C.C) := by
  refine C.F_names.ok sc_names (fun vs H Q E h => ?_) (fun cdv A outer s H vs Q E hr h => ?_)
  · obtain ⟨x, p, rfl, _⟩ := h
    rfl
  · obtain ⟨x, p, rfl, ⟨a, dx, cv, d, gv, vv, qv, mv, rfl, h1, h2, h3, h4⟩, l4, q⟩ := h
    obtain ⟨ga, rfl, hg⟩ := h2.g
    obtain ⟨va, rfl, hv⟩ := h2.v
    refine ⟨_, (pss_one (ps_ret (pe_op op_catU (pe_fld (pv 0) rfl) (pe_fld (pv 0) rfl)))), ?_⟩
    refine ⟨_, rfl, a, C.C, dx, _, _, rfl, h1, C.cl, C.n_given, pgF_given _ _ _ _ _ _, _, rfl, a, C.C, dx, _, _, rfl, h1, C.cl, C.n_variables, pgF_variables _ _ _ _ _ _, ga, va, _, _, rfl, rfl, hg, hv, by rw [List.length_map, List.length_map, sizeLine_eq]; omega, fun p H2 s2 hp => ?_⟩
    rw [← List.map_append] at hp
    exact q _ _ s2 ⟨p, rfl, hp⟩
def sp_eq (K : PySem.W.Frag) (C : Addr) : Sp := fun vs H Q _ => ∃ (x y : V) (p : Pt), vs = [x, y] ∧ PgAt K C H x p ∧ p.Sh ∧
  ((∃ t, TyX K H y t ∧ PySem.W.kitOne K t (.ref C) = some false ∧ Q (.bl false) H) ∨ ∃ p', PgAt K C H y p' ∧ p'.Sh ∧ Q (.bl (eqPt p p')) H)
theorem ok_eq (T : PgF K mg) (C : PgC K mg) : FnOk P w K mg base CX0 1 C.f_eq C.fd_eq ["self", "other"] (sp_eq K C.C) := by
  refine C.F_eq.ok sc_eq (fun vs H Q E h => ?_) (fun cdv A outer s H vs Q E hr h => ?_)
  · obtain ⟨x, y, p, rfl, _⟩ := h
    rfl
  · obtain ⟨x, y, p, rfl, ⟨a, dx, cv, d, gv, vv, qv, mv, rfl, h1, h2, h3, h4⟩, sh, h⟩ := h
    refine ⟨_, (pss_one (ps_ret (pe_and (pe_callB call_isi (by rfl) T.m_isinstance (by decide +kernel) (pa_cons (pv 1) (pa_cons (pe_glob (v := .ref C.C) rfl C.g rfl) pa_nil))) (pe_and (pe_cmpR (op_eqD hr.units) (pe_fld (pv 0) rfl) (pe_fld (pv 1) rfl) (nomark _)) (pe_and (pe_cmpR (op_eqD hr.units) (pe_fld (pv 0) rfl) (pe_fld (pv 1) rfl) (nomark _)) (pe_and (pe_cmpR (op_eqD hr.units) (pe_fld (pv 0) rfl) (pe_fld (pv 1) rfl) (nomark _)) (pe_one (pe_cmpR (op_eqD hr.units) (pe_fld (pv 0) rfl) (pe_fld (pv 1) rfl) (nomark _))))))))), ?_⟩
    rcases h with ⟨t, ty, kt, q⟩ | ⟨p', ⟨a', dx', cv', d', gv', vv', qv', mv', rfl, h1', h2', h3', h4'⟩, sh', q⟩
    · exact ⟨_, rfl, y, .ref C.C, t, _, false, rfl, .own C.C, ty, kt, false, rfl, iteF q⟩
    · have ty := ty_ins h1' C.cl C.is
      refine ⟨_, rfl, .ref a', .ref C.C, _, _, true, rfl, .own C.C, ty, kit_self, true, rfl, iteT ?_⟩
      unfold eqPt at q
      refine ⟨_, rfl, a, C.C, dx, _, _, rfl, h1, C.cl, C.n_given, pgF_given _ _ _ _ _ _, _, rfl, a', C.C, dx', _, _, rfl, h1', C.cl, C.n_given, pgF_given _ _ _ _ _ _, _, _, h2.g.dp, h2'.g.dp, sh.g, sh'.g, _, rfl, ite2 (fun e1 => ?_) (fun e1 => ?_)⟩
      · rw [show PyData.eqv (strsD p.given) (strsD p'.given) = true from e1, Bool.true_and] at q
        refine ⟨_, rfl, a, C.C, dx, _, _, rfl, h1, C.cl, C.n_variables, pgF_variables _ _ _ _ _ _, _, rfl, a', C.C, dx', _, _, rfl, h1', C.cl, C.n_variables, pgF_variables _ _ _ _ _ _, _, _, h2.v.dp, h2'.v.dp, sh.v, sh'.v, _, rfl, ite2 (fun e2 => ?_) (fun e2 => ?_)⟩
        · rw [show PyData.eqv (strsD p.vars) (strsD p'.vars) = true from e2, Bool.true_and] at q
          refine ⟨_, rfl, a, C.C, dx, _, _, rfl, h1, C.cl, C.n_procedures, pgF_procedures _ _ _ _ _ _, _, rfl, a', C.C, dx', _, _, rfl, h1', C.cl, C.n_procedures, pgF_procedures _ _ _ _ _ _, _, _, h2.q, h2'.q, sh.q, sh'.q, _, rfl, ite2 (fun e3 => ?_) (fun e3 => ?_)⟩
          · rw [e3, Bool.true_and] at q
            exact ⟨_, rfl, a, C.C, dx, _, _, rfl, h1, C.cl, C.n_main, pgF_main _ _ _ _ _ _, _, rfl, a', C.C, dx', _, _, rfl, h1', C.cl, C.n_main, pgF_main _ _ _ _ _ _, _, _, h2.m, h2'.m, sh.m, sh'.m, q⟩
          · rw [show PyData.eqv (prsD p.ps) (prsD p'.ps) = false from Bool.eq_false_iff.mpr e3, Bool.false_and] at q
            exact q
        · rw [show PyData.eqv (strsD p.vars) (strsD p'.vars) = false from Bool.eq_false_iff.mpr e2, Bool.false_and] at q
          exact q
      · rw [show PyData.eqv (strsD p.given) (strsD p'.given) = false from Bool.eq_false_iff.mpr e1, Bool.false_and] at q
        exact q
end
end Sp1

set_option Elab.async false
set_option linter.all false
set_option maxRecDepth 100000
set_option maxHeartbeats 4000000
namespace Sp1
open PySem PySem.Spec PyProof.Rows L2 Pg
/-! the pool that the law draws from: two numbers, a budget, calls -/
abbrev s_l_pool : Stmt := top 69
abbrev N_l_pool : List Str := ["_law_script", "_law_k", "_law_cell", "_law_size", "_law_mixed"]
theorem sc_l_pool : FnScope N_l_pool ["_law_script", "_law_k"] (defScope s_l_pool) := ⟨rfl, rfl, rfl, by decide +kernel, rfl, by decide +kernel, by decide +kernel⟩
abbrev s_l_draw : Stmt := top 70
abbrev N_l_draw : List Str := ["_law_pool_here", "_law_count", "_law_found"]
theorem sc_l_draw : FnScope N_l_draw ["_law_pool_here", "_law_count"] (defScope s_l_draw) := ⟨rfl, rfl, rfl, by decide +kernel, rfl, by decide +kernel, by decide +kernel⟩
abbrev s_l_names : Stmt := top 71
abbrev N_l_names : List Str := ["_law_pool_here", "_law_many", "_law_letters", "_law_found", "_law_k", "_law_word", "_law_turn"]
theorem sc_l_names : FnScope N_l_names ["_law_pool_here", "_law_many"] (defScope s_l_names) := ⟨rfl, rfl, rfl, by decide +kernel, rfl, by decide +kernel, by decide +kernel⟩
abbrev s_l_divisor : Stmt := top 72
abbrev N_l_divisor : List Str := ["_law_numbers", "_law_found", "_law_number", "_law_one", "_law_other"]
theorem sc_l_divisor : FnScope N_l_divisor ["_law_numbers"] (defScope s_l_divisor) := ⟨rfl, rfl, rfl, by decide +kernel, rfl, by decide +kernel, by decide +kernel⟩
abbrev s_l_sum : Stmt := top 73
abbrev N_l_sum : List Str := ["_law_pool_here", "_law_names_here", "_law_factors", "_law_name", "_law_constant", "_law_divisor_here", "_law_common", "_law_pairs", "_law_terms", "_law_at", "_law_factor"]
theorem sc_l_sum : FnScope N_l_sum ["_law_pool_here", "_law_names_here"] (defScope s_l_sum) := ⟨rfl, rfl, rfl, by decide +kernel, rfl, by decide +kernel, by decide +kernel⟩
abbrev s_l_expression : Stmt := top 74
abbrev N_l_expression : List Str := ["_law_pool_here", "_law_names_here", "_law_words", "_law_word", "_law_one"]
theorem sc_l_expression : FnScope N_l_expression ["_law_pool_here", "_law_names_here"] (defScope s_l_expression) := ⟨rfl, rfl, rfl, by decide +kernel, rfl, by decide +kernel, by decide +kernel⟩
abbrev s_l_simple : Stmt := top 75
abbrev N_l_simple : List Str := ["_law_pool_here", "_law_names_here", "_law_calls", "_law_way", "_law_name", "_law_other"]
theorem sc_l_simple : FnScope N_l_simple ["_law_pool_here", "_law_names_here", "_law_calls"] (defScope s_l_simple) := ⟨rfl, rfl, rfl, by decide +kernel, rfl, by decide +kernel, by decide +kernel⟩
abbrev s_l_statement : Stmt := top 76
abbrev N_l_statement : List Str := ["_law_pool_here", "_law_names_here", "_law_calls", "_law_depth", "_law_way", "_law_expression_here", "_law_first_here"]
theorem sc_l_statement : FnScope N_l_statement ["_law_pool_here", "_law_names_here", "_law_calls", "_law_depth"] (defScope s_l_statement) := ⟨rfl, rfl, rfl, by decide +kernel, rfl, by decide +kernel, by decide +kernel⟩
abbrev s_l_block : Stmt := top 77
abbrev N_l_block : List Str := ["_law_pool_here", "_law_names_here", "_law_calls", "_law_depth", "_law_most", "_law_found", "_law_turn"]
theorem sc_l_block : FnScope N_l_block ["_law_pool_here", "_law_names_here", "_law_calls", "_law_depth", "_law_most"] (defScope s_l_block) := ⟨rfl, rfl, rfl, by decide +kernel, rfl, by decide +kernel, by decide +kernel⟩
abbrev s_l_program : Stmt := top 78
abbrev N_l_program : List Str := ["_law_pool_here", "_law_budget", "_law_most", "_law_calls", "_law_names_here", "_law_cut", "_law_procedures", "_law_name", "_law_main"]
theorem sc_l_program : FnScope N_l_program ["_law_pool_here", "_law_budget", "_law_most"] (defScope s_l_program) := ⟨rfl, rfl, rfl, by decide +kernel, rfl, by decide +kernel, by decide +kernel⟩
structure PlF (K : PySem.W.Frag) (mg : Str → Option Value) extends PgF K mg where
  m_max : mg "max" = none
  m_min : mg "min" = none
  m_range : mg "range" = none
  m_enumerate : mg "enumerate" = none
  m_abs : mg "abs" = none
  f__law_pool : Addr
  fd__law_pool : FuncData
  D__law_pool : Dn K mg "_law_pool" s_l_pool ["_law_script", "_law_k"] f__law_pool fd__law_pool
  f__law_draw : Addr
  fd__law_draw : FuncData
  D__law_draw : Dn K mg "_law_draw" s_l_draw ["_law_pool_here", "_law_count"] f__law_draw fd__law_draw
  f__law_names : Addr
  fd__law_names : FuncData
  D__law_names : Dn K mg "_law_names" s_l_names ["_law_pool_here", "_law_many"] f__law_names fd__law_names
  f__law_divisor : Addr
  fd__law_divisor : FuncData
  D__law_divisor : Dn K mg "_law_divisor" s_l_divisor ["_law_numbers"] f__law_divisor fd__law_divisor
  f__law_sum : Addr
  fd__law_sum : FuncData
  D__law_sum : Dn K mg "_law_sum" s_l_sum ["_law_pool_here", "_law_names_here"] f__law_sum fd__law_sum
  f__law_expression : Addr
  fd__law_expression : FuncData
  D__law_expression : Dn K mg "_law_expression" s_l_expression ["_law_pool_here", "_law_names_here"] f__law_expression fd__law_expression
  f__law_simple : Addr
  fd__law_simple : FuncData
  D__law_simple : Dn K mg "_law_simple" s_l_simple ["_law_pool_here", "_law_names_here", "_law_calls"] f__law_simple fd__law_simple
  f__law_statement : Addr
  fd__law_statement : FuncData
  D__law_statement : Dn K mg "_law_statement" s_l_statement ["_law_pool_here", "_law_names_here", "_law_calls", "_law_depth"] f__law_statement fd__law_statement
  f__law_block : Addr
  fd__law_block : FuncData
  D__law_block : Dn K mg "_law_block" s_l_block ["_law_pool_here", "_law_names_here", "_law_calls", "_law_depth", "_law_most"] f__law_block fd__law_block
  f__law_program : Addr
  fd__law_program : FuncData
  D__law_program : Dn K mg "_law_program" s_l_program ["_law_pool_here", "_law_budget", "_law_most"] f__law_program fd__law_program
def Pl (H : Hp) (p : Addr) (u d : Int) : Prop := ∃ a b : Int, H p = some (.lst [.int a, .int b, .int u, .int d]) ∧ 0 ≤ a ∧ 0 ≤ b ∧ b < 2147483647
section
variable {H H' : Hp} {p q : Addr} {u d : Int} {o : HO}
theorem Pl.lst (h : Pl H p u d) : ∃ xs, H p = some (.lst xs) := by
  obtain ⟨a, b, h, _⟩ := h
  exact ⟨_, h⟩
theorem Pl.new (h : Pl H p u d) (n : H q = none) : Pl (upd H q o) p u d := by
  obtain ⟨a, b, e, r⟩ := h
  exact ⟨a, b, by rw [upd_ne (ne_of_none e n)]; exact e, r⟩
theorem Pl.put (h : Pl H p u d) (n : p ≠ q) : Pl (upd H q o) p u d := by
  obtain ⟨a, b, e, r⟩ := h
  exact ⟨a, b, by rw [upd_ne n]; exact e, r⟩
theorem Pl.ne (h : Pl H p u d) (n : H q = none) : q ≠ p := by
  obtain ⟨xs, e⟩ := h.lst
  exact (ne_of_none e n).symm
theorem Pl.same (h : Pl H p u d) (s : Same H H') : Pl H' p u d := by
  obtain ⟨a, b, e, r⟩ := h
  exact ⟨a, b, s _ _ e, r⟩
theorem SX.tkP (s : SX p H H') (h : Pl H p u d) : TK H H' := by
  obtain ⟨xs, h⟩ := h.lst
  exact ⟨fun b ys e => s b _ (ne_of e h (by intro z; cases z)) e, fun b o u e => s b _ (ne_of e h (by intro z; cases z)) e⟩
end
section
variable {P : Program} {w : World} {K : PySem.W.Frag} {mg : Str → Option Value} {base : Heap}
def sp_pool (K : PySem.W.Frag) : Sp := fun vs H Q _ => ∃ (a : Addr) (ns : List Int) (k : Nat), vs = [.ref a, .int (k : Nat)] ∧ SqL K H a (ns.map V.int) ∧ k ≤ 1000 ∧ ∀ p H', Same H H' → H p = none → Pl H' p 0 4 → Q (.ref p) H'
theorem ok__law_pool (T : PlF K mg) : FnOk P w K mg base CX0 1 T.f__law_pool T.fd__law_pool ["_law_script", "_law_k"] (sp_pool K) := by
  refine T.D__law_pool.F.ok sc_l_pool (fun vs H Q E h => ?_) (fun cdv A outer s H vs Q E hr h => ?_)
  · obtain ⟨a, ns, k, rfl, _⟩ := h
    rfl
  · obtain ⟨a, ns, k, rfl, hS, hk, q⟩ := h
    have nd := sc_l_pool.nd
    refine ⟨_, (pss_cons (ps_set (i := 2) nd rfl (.inl rfl) pe_int)
      (pss_cons (ps_if (pt_cmpR op_lt (pv 1) (pe_callB call_len_seq (by rfl) T.m_len PySem.boot_len (pa_cons (pv 0) pa_nil)) (nomark _))
      (pss_one (ps_set (i := 2) nd rfl (.inl rfl) (pe_ix ix_list (pv 0) (pv 1) (fun _ _ => rfl))))
      pss_nil)
      (pss_cons (ps_set (i := 3) nd rfl (.inl rfl) (pe_callB (call_max2 rfl) (by rfl) T.m_max (by decide +kernel) (pa_cons (pv 2) (pa_cons (pe_op op_sub (pe_un un_neg pe_int) (pv 2)) pa_nil))))
      (pss_cons (ps_set (i := 4) nd rfl (.inl rfl) (pe_op op_mod (pe_op op_mul (pe_op op_add (pe_op op_add (pe_op op_mod (pv 3) pe_int) (pe_op op_mul pe_int (pv 1))) pe_int) pe_int) pe_int))
      (pss_one (ps_ret (pe_lst (pa_cons (pe_op op_mul (pv 3) (pe_callTy call_int1 (by rfl) T.m_int (by decide +kernel) (pa_cons (pe_cmpR op_ge (pv 3) (pe_op op_pow pe_int pe_int) (nomark _)) pa_nil))) (pa_cons (pv 4) (pa_cons pe_int (pa_cons pe_int pa_nil))))))))))), ?_⟩
    have fin : ∀ (c : Int), ∃ z : Int, (if (-1 - c) > c then (-1 - c) else c) = z ∧ 0 ≤ z := fun c => ⟨_, rfl, by split <;> omega⟩
    have tail : ∀ (z : Int), 0 ≤ z → ∀ p, H p = none → ∀ m : Int, 0 ≤ m → m < 2147483647 → Q (.ref p) (upd H p (.lst [.int (z * (if decide ((10 : Int) ^ (18 : Int).toNat ≤ z) = true then 1 else 0)), .int m, .int 0, .int 4])) := by
      intro z h0 p np m m0 m1
      refine q p _ (same_new np) np ⟨_, _, upd_same, ?_, m0, m1⟩
      split
      · omega
      · omega
    refine ⟨_, rfl, _, rfl, a, _, rfl, .inl hS, _, _, rfl, rfl, _, rfl, ite2 (fun e => ?_) fun e => ?_⟩
    · have hlt : k < ns.length := by
        have := of_decide_eq_true e
        rw [List.length_map] at this
        omega
      refine ⟨_, rfl, _, rfl, a, _, _, _, rfl, rfl, hS, atI_nat (j := k) (by rw [List.getElem?_map, List.getElem?_eq_getElem hlt]; rfl), ?_⟩
      generalize ns[k] = c
      refine ⟨_, rfl, 1, rfl, _, rfl, _, _, rfl, rfl, ?_⟩
      refine ⟨_, _, rfl, ?_⟩
      obtain ⟨z, hz, h0⟩ := fin c
      rw [show (if -1 - c > c then -1 - c else c : Int) = z from hz]
      have b0 := Int.emod_nonneg z (show (2147483629 : Int) ≠ 0 by decide)
      have b1 := Int.emod_lt_of_pos z (show (0 : Int) < 2147483629 by decide)
      refine ⟨_, rfl, _, _, rfl, rfl, (by decide : (0 : Int) < 2147483629), _, rfl, _, _, rfl, rfl, .inl ⟨by decide, by decide⟩, _, _, rfl, rfl, _, _, rfl, rfl, _, _, rfl, rfl, .inr ⟨by decide, by decide⟩, _, _, rfl, rfl, (by decide : (0 : Int) < 2147483647), ?_⟩
      refine ⟨_, rfl, _, rfl, _, _, rfl, rfl, ⟨by decide, by decide, by decide⟩, _, _, rfl, rfl, .inr ⟨_, rfl, ?_⟩⟩
      refine ⟨_, _, rfl, rfl, .inr ?_, _, rfl, small (by show 4 ≤ 5000; decide), fun p np => tail z h0 p np _ (Int.emod_nonneg _ (by decide)) (Int.emod_lt_of_pos _ (by decide))⟩
      split <;> exact ⟨by decide, by decide⟩
    · refine ⟨_, rfl, 1, rfl, _, rfl, _, _, rfl, rfl, ?_⟩
      refine ⟨_, _, rfl, ?_⟩
      obtain ⟨z, hz, h0⟩ := fin 0
      rw [show (if -1 - 0 > 0 then -1 - 0 else 0 : Int) = z from hz]
      have b0 := Int.emod_nonneg z (show (2147483629 : Int) ≠ 0 by decide)
      have b1 := Int.emod_lt_of_pos z (show (0 : Int) < 2147483629 by decide)
      refine ⟨_, rfl, _, _, rfl, rfl, (by decide : (0 : Int) < 2147483629), _, rfl, _, _, rfl, rfl, .inl ⟨by decide, by decide⟩, _, _, rfl, rfl, _, _, rfl, rfl, _, _, rfl, rfl, .inr ⟨by decide, by decide⟩, _, _, rfl, rfl, (by decide : (0 : Int) < 2147483647), ?_⟩
      refine ⟨_, rfl, _, rfl, _, _, rfl, rfl, ⟨by decide, by decide, by decide⟩, _, _, rfl, rfl, .inr ⟨_, rfl, ?_⟩⟩
      refine ⟨_, _, rfl, rfl, .inr ?_, _, rfl, small (by show 4 ≤ 5000; decide), fun p np => tail z h0 p np _ (Int.emod_nonneg _ (by decide)) (Int.emod_lt_of_pos _ (by decide))⟩
      split <;> exact ⟨by decide, by decide⟩
def sp_dr : Sp := fun vs H Q _ => ∃ (p : Addr) (c u d : Int), vs = [.ref p, .int c] ∧ Pl H p u d ∧ 0 < c ∧ c < 2 ^ 100 ∧ ∀ r H', 0 ≤ r → r < c → SX p H H' → Pl H' p u d → Q (.int r) H'
theorem ok__law_draw (T : PlF K mg) : FnOk P w K mg base CX0 1 T.f__law_draw T.fd__law_draw ["_law_pool_here", "_law_count"] sp_dr := by
  refine T.D__law_draw.F.ok sc_l_draw (fun vs H Q E h => ?_) (fun cdv A outer s H vs Q E hr h => ?_)
  · obtain ⟨p, c, u, d, rfl, _⟩ := h
    rfl
  · obtain ⟨p, c, u, d, rfl, ⟨a, b, hp, ha, hb0, hb1⟩, hc, hc2, q⟩ := h
    have nd := sc_l_draw.nd
    have cdiv : ∀ i, CDivW i c := fun i => wide_div (b := 100) hc (by omega) (by decide) (by decide)
    have ix0 : ∀ {x y z t : V}, atI [x, y, z, t] 0 = some x := fun {x y z t} => atI_nat (j := 0) rfl
    have ix1 : ∀ {x y z t : V}, atI [x, y, z, t] 1 = some y := fun {x y z t} => atI_nat (j := 1) rfl
    refine ⟨_, (pss_cons (ps_if (pt_cmpR op_gt (pe_ix ix_list (pv 0) pe_int (fun _ _ => rfl)) pe_int (nomark _))
      (pss_cons (ps_set (i := 2) nd rfl (.inl rfl) (pe_op op_mod (pe_ix ix_list (pv 0) pe_int (fun _ _ => rfl)) (pv 1)))
        (pss_cons (ps_asg (pe_op op_fdivW (pe_ix ix_list (pv 0) pe_int (fun _ _ => rfl)) (pv 1)) (pg_sub (pv 0) pe_int set_list))
        (pss_one (ps_ret (pv 2)))))
      pss_nil)
      (pss_cons (ps_asg (pe_op op_mod (pe_op op_add (pe_op op_mul (pe_ix ix_list (pv 0) pe_int (fun _ _ => rfl)) pe_int) pe_int) pe_int) (pg_sub (pv 0) pe_int set_list))
      (pss_one (ps_ret (pe_op op_mod (pe_op op_fdiv (pe_op op_mod (pe_op op_mul (pe_ix ix_list (pv 0) pe_int (fun _ _ => rfl)) (pe_ix ix_list (pv 0) pe_int (fun _ _ => rfl))) pe_int) pe_int) (pv 1)))))), ?_⟩
    refine ⟨_, rfl, p, _, _, _, rfl, rfl, SqL.of hp, ix0, _, _, rfl, rfl, _, rfl, ite2 (fun e => ?_) fun e => ?_⟩
    · have e0 : 0 < a := of_decide_eq_true e
      refine ⟨_, rfl, p, _, _, _, rfl, rfl, SqL.of hp, ix0, _, rfl, _, _, rfl, rfl, hc, ?_⟩
      refine ⟨_, rfl, p, _, _, _, rfl, rfl, SqL.of hp, ix0, _, rfl, _, _, rfl, rfl, cdiv _, ?_⟩
      refine ⟨_, rfl, p, _, _, 0, rfl, rfl, hp, rfl, ?_⟩
      refine ⟨_, rfl, q _ _ (Int.emod_nonneg _ (by omega)) (Int.emod_lt_of_pos _ hc) sx_put ⟨a / c, b, upd_same, Int.ediv_nonneg ha (by omega), hb0, hb1⟩⟩
    · refine ⟨_, rfl, p, _, _, _, rfl, rfl, SqL.of hp, ix1, _, _, rfl, rfl, .inl ⟨by omega, by omega⟩, _, _, rfl, rfl, _, _, rfl, rfl, (by decide : (0 : Int) < 2147483647), ?_⟩
      refine ⟨_, rfl, p, _, _, 1, rfl, rfl, hp, rfl, ?_⟩
      have h1 : (upd H p (.lst [.int a, .int ((b * 69621 + 5) % 2147483647), .int u, .int d])) p = some (.lst [.int a, .int ((b * 69621 + 5) % 2147483647), .int u, .int d]) := upd_same
      have c0 := Int.emod_nonneg (b * 69621 + 5) (show (2147483647 : Int) ≠ 0 by decide)
      have c1 := Int.emod_lt_of_pos (b * 69621 + 5) (show (0 : Int) < 2147483647 by decide)
      refine ⟨_, rfl, p, _, _, _, rfl, rfl, SqL.of h1, ix1, _, rfl, p, _, _, _, rfl, rfl, SqL.of h1, ix1, _, _, rfl, rfl, .inl ⟨by omega, by omega⟩, _, _, rfl, rfl, (by decide : (0 : Int) < 2147483629), _, _, rfl, rfl, ⟨by decide, by decide⟩, _, rfl, _, _, rfl, rfl, hc, ?_⟩
      exact q _ _ (Int.emod_nonneg _ (by omega)) (Int.emod_lt_of_pos _ hc) sx_put ⟨a, _, h1, ha, c0, c1⟩
end
end Sp1

set_option Elab.async false
set_option linter.all false
set_option maxRecDepth 100000
set_option maxHeartbeats 4000000
namespace Pg
open PySem PySem.Spec L2 TL
/-! the law's names: up to three letters, and signs q behind them -/
structure Wd (x : Str) (n : Nat) : Prop where
  l1 : 1 ≤ x.length
  ln : x.length ≤ n
  ch : ∀ c ∈ tl x, 97 ≤ c ∧ c ≤ 122
abbrev sq : Str := Str.ofString "q"
theorem tl_q : tl sq = [113] := by decide +kernel
theorem len_q : sq.length = 1 := by decide +kernel
theorem len_ap (a b : Str) : (a ++ b).length = a.length + b.length := by rw [len_tl, tl_append, List.length_append, ← len_tl, ← len_tl]
theorem Wd.app {x y : Str} {n m : Nat} (h : Wd x n) (g : Wd y m) : Wd (x ++ y) (n + m) := by
  have h1 := h.l1
  have h2 := h.ln
  have h3 := g.ln
  refine ⟨by rw [len_ap]; omega, by rw [len_ap]; omega, fun c hc => ?_⟩
  rw [tl_append] at hc
  rcases List.mem_append.mp hc with hc | hc
  · exact h.ch c hc
  · exact g.ch c hc
theorem wd_q : Wd sq 1 := ⟨by rw [len_q]; decide, by rw [len_q]; decide, by rw [tl_q]; decide⟩
theorem Wd.mono {x : Str} {n m : Nat} (h : Wd x n) (l : n ≤ m) : Wd x m := ⟨h.l1, Nat.le_trans h.ln l, h.ch⟩
abbrev few : List Str := ["if", "var", "end", "set"]
theorem words_short : ∀ w ∈ words, w.length ≤ 3 → w ∈ few := by decide +kernel
theorem words_q : ∀ w ∈ words, (tl w).getLast? ≠ some 113 := by decide +kernel
theorem q_free (x : Str) : (x ++ sq) ∉ words := fun h => by
  refine words_q _ h ?_
  rw [tl_append, tl_q, List.getLast?_append]
  rfl
def addQ (x : Str) : Nat → Str
  | 0 => x
  | n + 1 => addQ x n ++ sq
theorem addQ_len (x : Str) : ∀ n, (addQ x n).length = x.length + n
  | 0 => rfl
  | n + 1 => by rw [addQ, len_ap, addQ_len x n, len_q]; omega
theorem addQ_wd {x : Str} {m : Nat} (h : Wd x m) : ∀ n, Wd (addQ x n) (m + n)
  | 0 => h
  | n + 1 => (addQ_wd h n).app wd_q
theorem addQ_free {x : Str} (h : x ∉ words) : ∀ n, addQ x n ∉ words
  | 0 => h
  | n + 1 => q_free _
theorem Wd.nm {x : Str} (h : Wd x 8) (f : x ∉ words) : Nm x := ⟨h.l1, h.ln, h.ch, f⟩
theorem words3 {x : Str} (h : Wd x 3) (n : x ∉ few) : x ∉ words := fun z => n (words_short x z h.ln)
/-- what the turns of q do -/
def QAt (found : List Str) (w0 : Str) (t : Nat) (x : Str) : Prop := ∃ s ≤ t, x = addQ w0 s ∧ (∀ r < s, addQ w0 r ∈ found) ∧ (x ∉ found ∨ s = t)
theorem QAt.start (found : List Str) (w0 : Str) : QAt found w0 0 w0 := ⟨0, Nat.le_refl _, rfl, (fun r h => by omega), .inr rfl⟩
theorem QAt.turn {found : List Str} {w0 x : Str} {t : Nat} (h : QAt found w0 t x) (hx : x ∈ found) : QAt found w0 (t + 1) (x ++ sq) := by
  obtain ⟨s, hs, rfl, h1, h2⟩ := h
  obtain rfl : s = t := h2.resolve_left fun z => z hx
  refine ⟨s + 1, Nat.le_refl _, rfl, fun r hr => ?_, .inr rfl⟩
  by_cases e : r = s
  · rw [e]; exact hx
  · exact h1 r (by omega)
theorem QAt.stay {found : List Str} {w0 x : Str} {t : Nat} (h : QAt found w0 t x) (hx : x ∉ found) : QAt found w0 (t + 1) x := by
  obtain ⟨s, hs, e, h1, _⟩ := h
  exact ⟨s, by omega, e, h1, .inl hx⟩
theorem QAt.done {found : List Str} {w0 x : Str} {t : Nat} (h : QAt found w0 t x) (nd : found.Nodup) (hl : found.length = t) : ∃ s ≤ t, x = addQ w0 s ∧ x ∉ found := by
  obtain ⟨s, hs, rfl, h1, h2⟩ := h
  refine ⟨s, hs, rfl, fun hx => ?_⟩
  obtain rfl : s = t := h2.resolve_left fun z => z hx
  have hnd : ((List.range (s + 1)).map (addQ w0)).Nodup := by
    rw [List.nodup_iff_pairwise_ne, List.pairwise_map]
    refine List.nodup_range.imp fun {a b} n e => n ?_
    have := congrArg Str.length e
    rw [addQ_len, addQ_len] at this
    omega
  have := List.Nodup.length_le_of_subset (l₂ := found) hnd fun y hy => by
    obtain ⟨r, hr, rfl⟩ := List.mem_map.mp hy
    rw [List.mem_range] at hr
    by_cases e : r = s
    · rw [e]; exact hx
    · exact h1 r (by omega)
  rw [List.length_map, List.length_range] at this
  omega
abbrev letters : Str := Str.ofString "abcdefghijklmnopqrstuvwxyz"
theorem letter_at : ∀ i < 26, letters.cps.toList[i]? = some (97 + i) := by decide +kernel
theorem letter_wd {i : Nat} (h : i < 26) : Wd ⟨#[97 + i]⟩ 1 := ⟨Nat.le_refl _, Nat.le_refl _, fun c hc => by
  have : c = 97 + i := List.mem_singleton.mp hc
  omega⟩
end Pg
namespace Sp1
open PySem PySem.Spec PyProof.Rows L2 Pg TL
/-- two ways that meet again -/
theorem meet2 {α β : Type} {G : α → β → Prop} {I : α → β → Prop} {W : Prop} (h1 : (∀ b H, I b H → G b H) → W) (h2 : ∀ b H, I b H → G b H) : W := h1 h2
theorem meet1 {β : Type} {G : β → Prop} {I : β → Prop} {W : Prop} (h1 : (∀ H, I H → G H) → W) (h2 : ∀ H, I H → G H) : W := h1 h2
section
variable {P : Program} {w : World} {K : PySem.W.Frag} {mg : Str → Option Value} {base : Heap}
def sp_lnames : Sp := fun vs H Q _ => ∃ (p : Addr) (m : Nat) (u d : Int), vs = [.ref p, .int (m : Int)] ∧ Pl H p u d ∧ m ≤ 3 ∧ ∀ H' l (xs : List Str), SX p H H' → Pl H' p u d → l ≠ p → H' l = some (.lst (xs.map V.str)) → Names xs → xs.Nodup → xs.length = m → Q (.ref l) H'
theorem ok__law_names (T : PlF K mg) : FnOk P w K mg base CX0 2 T.f__law_names T.fd__law_names ["_law_pool_here", "_law_many"] sp_lnames := by
  refine T.D__law_names.F.ok sc_l_names (fun vs H Q E h => ?_) (fun cdv A outer s H vs Q E hr h => ?_)
  · obtain ⟨p, m, u, d, rfl, _⟩ := h
    rfl
  · obtain ⟨p, m, u, d, rfl, hp, hm, q⟩ := h
    have nd := sc_l_names.nd
    have lS : sizeLine = 16777216 := sizeLine_eq
    refine ⟨_, (pss_cons (ps_set (i := 2) nd rfl (.inl rfl) pe_str)
      (pss_cons (ps_set (i := 3) nd rfl (.inl rfl) (pe_lst pa_nil))
      (pss_cons (ps_for PassesOwn.never rfl (pi_range1 (by rfl) T.m_range (pa_cons (pv 1) pa_nil)) (pg_name (i := 4) nd rfl (.inl rfl))
      (pss_cons (ps_set (i := 5) nd rfl (.inl rfl) (pe_ix (r := rIxS) ix_str (pv 2) (pe_call ((ok__law_draw T).mono (by decide)) hr (by rfl) T.D__law_draw.g T.D__law_draw.kp T.D__law_draw.b .nil pass0 (pa_cons (pv 0) (pa_cons pe_int pa_nil))) (fun _ _ => rfl)))
        (pss_cons (ps_for PassesOwn.never rfl (pi_range1 (by rfl) T.m_range (pa_cons (pe_call ((ok__law_draw T).mono (by decide)) hr (by rfl) T.D__law_draw.g T.D__law_draw.kp T.D__law_draw.b .nil pass0 (pa_cons (pv 0) (pa_cons pe_int pa_nil))) pa_nil)) (pg_name (i := 6) nd rfl (.inl rfl))
        (pss_one (ps_set (i := 5) nd rfl (.inl rfl) (pe_op op_add_str (pv 5) (pe_ix (r := rIxS) ix_str (pv 2) (pe_call ((ok__law_draw T).mono (by decide)) hr (by rfl) T.D__law_draw.g T.D__law_draw.kp T.D__law_draw.b .nil pass0 (pa_cons (pv 0) (pa_cons pe_int pa_nil))) (fun _ _ => rfl))))))
        (pss_cons (ps_if (pt_cmpR op_in_seq (pv 5) (pe_lst (pa_cons pe_str (pa_cons pe_str (pa_cons pe_str (pa_cons pe_str pa_nil))))) (by with_unfolding_all rfl))
        (pss_one (ps_set (i := 5) nd rfl (.inl rfl) (pe_op op_add_str (pv 5) pe_str)))
        pss_nil)
        (pss_cons (ps_for PassesOwn.never rfl (pi_range1 (by rfl) T.m_range (pa_cons (pv 4) pa_nil)) (pg_name (i := 6) nd rfl (.inl rfl))
        (pss_one (ps_if (pt_cmpR op_in_seq (pv 5) (pv 3) (by with_unfolding_all rfl))
          (pss_one (ps_set (i := 5) nd rfl (.inl rfl) (pe_op op_add_str (pv 5) pe_str)))
          pss_nil)))
        (pss_one (ps_expr (pe_bm PySem.F.plainAttrs_list PySem.F.slot_list_append PySem.F.type_list_append mt_append (pv 3) (pa_cons (pv 5) pa_nil)))))))))
      (pss_one (ps_ret (pv 3)))))), ?_⟩
    refine ⟨small (by decide), fun D nD => ?_⟩
    have s1 := same_new (o := HO.lst []) nD
    have hD : (upd H D (HO.lst [])) D = some (HO.lst []) := upd_same
    generalize upd H D (HO.lst []) = H1 at s1 hD ⊢
    have nDp := hp.ne nD
    have hp1 := hp.same s1
    refine ⟨_, rfl, (m : Int), rfl, by omega, by omega, ?_⟩
    refine for_range (lo := 0) (n := ((m : Int)).toNat) (fun i σ H' => SX p H H' ∧ Pl H' p u d ∧ ∃ (xs : List Str) (y4 y5 y6 : Option V), H' D = some (.lst (xs.map V.str)) ∧ Names xs ∧ xs.Nodup ∧ xs.length = i ∧ σ = [some (.ref p), some (.int (m : Int)), some (.str letters), some (.ref D), y4, y5, y6]) ⟨Same.sx s1, hp1, [], _, _, _, hD, (fun x h => by cases h), List.nodup_nil, rfl, rfl⟩ ?_ ?_
    · rintro i σ H2 hi ⟨sx2, hp2, xs, y4, y5, y6, hD2, hN, hnd, hl, rfl⟩
      refine ⟨_, rfl, _, rfl, p, 26, u, d, rfl, hp2, by decide, by decide, fun r H3 r0 r1 sx3 hp3 => ?_⟩
      obtain ⟨j, rfl⟩ : ∃ j : Nat, r = (j : Int) := ⟨r.toNat, by omega⟩
      have hj : j < 26 := by omega
      refine ⟨_, _, _, rfl, rfl, by rw [lS]; decide +kernel, atI_nat (letter_at j hj), ?_⟩
      have w1 := letter_wd hj
      generalize (⟨#[97 + j]⟩ : Str) = x1 at w1 ⊢
      refine ⟨_, rfl, p, 3, u, d, rfl, hp3, by decide, by decide, fun r H4 r2 r3 sx4 hp4 => ?_⟩
      obtain ⟨k, rfl⟩ : ∃ k : Nat, r = (k : Int) := ⟨r.toNat, by omega⟩
      have hD4 := sx4 _ _ nDp (sx3 _ _ nDp hD2)
      refine ⟨(k : Int), rfl, by omega, by omega, ?_⟩
      refine for_range (lo := 0) (n := ((k : Int)).toNat) (fun t σ H' => SX p H4 H' ∧ Pl H' p u d ∧ ∃ (x : Str) (y6 : Option V), Wd x (1 + t) ∧ σ = [some (.ref p), some (.int (m : Int)), some (.str letters), some (.ref D), some (.int (i : Int)), some (.str x), y6]) ⟨SX.refl _ _, hp4, x1, y6, w1, by simp⟩ ?_ ?_
      · rintro t σ H5 ht ⟨sx5, hp5, x, y6, wx, rfl⟩
        refine ⟨_, rfl, _, rfl, _, rfl, p, 26, u, d, rfl, hp5, by decide, by decide, fun r H6 r4 r5 sx6 hp6 => ?_⟩
        obtain ⟨j2, rfl⟩ : ∃ j : Nat, r = (j : Int) := ⟨r.toNat, by omega⟩
        have hj2 : j2 < 26 := by omega
        refine ⟨_, _, _, rfl, rfl, by rw [lS]; decide +kernel, atI_nat (letter_at j2 hj2), ?_⟩
        have w2 := letter_wd hj2
        generalize (⟨#[97 + j2]⟩ : Str) = x2 at w2 ⊢
        have e1 := wx.ln
        have e2 := w2.ln
        refine ⟨_, _, rfl, rfl, by rw [lS]; omega, ?_⟩
        exact ⟨sx5.trans sx6, hp6, x ++ x2, _, wx.app w2, rfl⟩
      · rintro σ H5 ⟨sx5, hp5, x, y6, wx, rfl⟩
        have wx3 : Wd x 3 := wx.mono (by omega)
        have hD5 := sx5 _ _ nDp hD4
        apply meet2 (α := L2.St) (β := Hp) (I := fun σ H6 => ∃ x0 : Str, Same H5 H6 ∧ Wd x0 4 ∧ x0 ∉ words ∧ σ = [some (.ref p), some (.int (m : Int)), some (.str letters), some (.ref D), some (.int (i : Int)), some (.str x0), y6])
        · intro fin
          refine ⟨_, rfl, small (by show 4 ≤ 5000; decide), fun l nl => ?_⟩
          have s6 := same_new (o := HO.lst [.str "if", .str "var", .str "end", .str "set"]) nl
          have hl6 : (upd H5 l (HO.lst [.str "if", .str "var", .str "end", .str "set"])) l = some (HO.lst [.str "if", .str "var", .str "end", .str "set"]) := upd_same
          generalize upd H5 l (HO.lst [.str "if", .str "var", .str "end", .str "set"]) = H6 at s6 hl6 ⊢
          have hl6 : SqL K H6 l (few.map V.str) := SqL.of hl6
          refine ⟨l, _, rfl, .inl hl6, rfl, flat_strs _, _, rfl, ?_⟩
          rw [inV_strs]
          refine ite2 (fun e => ?_) (fun e => ?_)
          · have e1 := wx3.ln
            refine ⟨_, rfl, _, _, rfl, rfl, by rw [lS, len_q]; omega, ?_⟩
            exact fin _ _ ⟨x ++ sq, s6, wx3.app wd_q, q_free x, rfl⟩
          · exact fin _ _ ⟨x, s6, wx3.mono (by decide), words3 wx3 (fun z => e (decide_eq_true z)), rfl⟩
        · rintro σ H6 ⟨x0, s6, wx0, fx0, rfl⟩
          have hp6 := hp5.same s6
          have hD6 := s6 _ _ hD5
          refine ⟨_, rfl, (i : Int), rfl, by omega, by omega, ?_⟩
          refine for_range (lo := 0) (n := ((i : Int)).toNat) (fun t σ H' => Same H6 H' ∧ ∃ (x : Str) (y6 : Option V), QAt xs x0 t x ∧ σ = [some (.ref p), some (.int (m : Int)), some (.str letters), some (.ref D), some (.int (i : Int)), some (.str x), y6]) ⟨Same.refl _, x0, y6, QAt.start _ _, by simp⟩ ?_ ?_
          · rintro t σ H7 ht ⟨s7, x, y6, qa, rfl⟩
            have xl : x.length ≤ 10 := by
              obtain ⟨s, hs, rfl, _⟩ := id qa
              rw [addQ_len]
              have := wx0.ln
              omega
            refine ⟨_, rfl, _, rfl, D, _, rfl, .inl (SqL.of (s7 _ _ hD6)), rfl, flat_strs _, _, rfl, ?_⟩
            rw [inV_strs]
            refine ite2 (fun e => ?_) (fun e => ?_)
            · refine ⟨_, rfl, _, _, rfl, rfl, by rw [lS, len_q]; omega, ?_⟩
              exact ⟨s7, x ++ sq, _, qa.turn (of_decide_eq_true e), rfl⟩
            · exact ⟨s7, x, _, qa.stay (fun z => e (decide_eq_true z)), rfl⟩
          · rintro σ H7 ⟨s7, x, y6, qa, rfl⟩
            have qa : QAt xs x0 i x := by
              have : ((i : Int)).toNat = i := by omega
              rw [this] at qa
              exact qa
            obtain ⟨s, hs, rfl, hx⟩ := qa.done hnd hl
            have hD7 := s7 _ _ hD6
            have nx : Nm (addQ x0 s) := ((addQ_wd wx0 s).mono (by omega)).nm (addQ_free fx0 s)
            refine ⟨_, rfl, .inl ⟨rfl, _, SqL.of hD7⟩, _, rfl, D, _, _, rfl, rfl, hD7, by rw [lS, List.length_map]; omega, ?_⟩
            have sx7 : SX p H H7 := sx2.trans (sx3.trans (sx4.trans (sx5.trans (Same.sx (s6.trans s7)))))
            refine ⟨sx7.new nD, (hp6.same s7).put nDp.symm, xs ++ [addQ x0 s], _, _, _, by rw [List.map_append]; exact upd_same, fun y hy => ?_, ?_, by rw [List.length_append, hl]; rfl, rfl⟩
            · rcases List.mem_append.mp hy with hy | hy
              · exact hN y hy
              · rw [List.mem_singleton.mp hy]
                exact nx
            · refine List.nodup_append.mpr ⟨hnd, List.nodup_cons.mpr ⟨by simp, List.nodup_nil⟩, fun a ha b hb e => ?_⟩
              rw [List.mem_singleton.mp hb] at e
              exact hx (e ▸ ha)
    · rintro σ H2 ⟨sx2, hp2, xs, y4, y5, y6, hD2, hN, hnd, hl, rfl⟩
      exact ⟨_, rfl, q _ _ _ sx2 hp2 nDp hD2 hN hnd (by rw [hl]; simp)⟩
end
end Sp1

set_option Elab.async false
set_option linter.all false
set_option maxRecDepth 100000
set_option maxHeartbeats 4000000
namespace Sp1
open PySem PySem.Spec PyProof.Rows L2 Pg
section
variable {P : Program} {w : World} {K : PySem.W.Frag} {mg : Str → Option Value} {base : Heap}
def sp_ldiv (K : PySem.W.Frag) : Sp := fun vs H Q _ => ∃ (g : Addr) (u : List Int), vs = [.ref g] ∧ SqL K H g (u.map V.int) ∧ Q (.int (gcdL u : Nat)) H
theorem ok__law_divisor (T : PlF K mg) : FnOk P w K mg base CX0 1 T.f__law_divisor T.fd__law_divisor ["_law_numbers"] (sp_ldiv K) := by
  refine T.D__law_divisor.F.ok sc_l_divisor (fun vs H Q E h => ?_) (fun cdv A outer s H vs Q E hr h => ?_)
  · obtain ⟨g, u, rfl, _⟩ := h
    rfl
  · obtain ⟨g, u, rfl, hg, q⟩ := h
    have nd := sc_l_divisor.nd
    refine ⟨_, (pss_cons (ps_set (i := 1) nd rfl (.inl rfl) pe_int)
      (pss_cons (ps_for PassesOwn.never rfl (pi_list (pv 0)) (pg_name (i := 2) nd rfl (.inl rfl))
      (pss_cons (ps_par (i := 3) (j := 4) rfl nd rfl rfl (by decide) rfl rfl (pa_cons (pv 1) (pa_cons (pe_callB call_abs (by rfl) T.m_abs (by decide +kernel) (pa_cons (pv 2) pa_nil)) pa_nil)) rfl)
        (pss_cons (ps_while PassesOwn.never (pt_cmpR op_gt (pv 4) pe_int (nomark _))
        (pss_one (ps_par (i := 3) (j := 4) rfl nd rfl rfl (by decide) rfl rfl (pa_cons (pv 4) (pa_cons (pe_op op_mod (pv 3) (pv 4)) pa_nil)) rfl)))
        (pss_one (ps_set (i := 1) nd rfl (.inl rfl) (pv 3))))))
      (pss_one (ps_ret (pv 1))))), ?_⟩
    refine ⟨_, rfl, g, rfl, ⟨_, hg⟩, for_list (K := K) (a := g) (xs := u.map V.int) (fun i σ H' => H' = H ∧ ∃ y2 y3 y4, σ = [some (.ref g), some (.int (gcdL (u.take i) : Nat)), y2, y3, y4])
      ⟨rfl, none, none, none, rfl⟩ (fun i σ H' _ h => by rw [h.1]; exact hg) ?_ ?_⟩
    · rintro i x σ H1 hx ⟨rfl, y2, y3, y4, rfl⟩ 
      obtain ⟨hi, rfl⟩ := int_of hx
      refine ⟨_, rfl, _, rfl, _, rfl, ?_⟩
      refine ⟨_, _, rfl, ?_⟩
      rw [gcdL_take hi]
      generalize gcdL (u.take i) = a0
      have e0 : (if u[i] < 0 then -u[i] else u[i]) = (u[i].natAbs : Int) := by split <;> omega
      rw [e0]
      generalize u[i].natAbs = b0
      generalize (V.int u[i]) = y2
      refine ⟨fun n σ H' => H' = H1 ∧ ∃ a b : Nat, n = b ∧ Nat.gcd a b = Nat.gcd a0 b0 ∧ ∃ y1, σ = [some (.ref g), y1, some y2, some (.int (a : Int)), some (.int (b : Int))], ⟨_, rfl, a0, b0, rfl, rfl, _, rfl⟩, ?_⟩
      rintro n σ H' ⟨rfl, a, b, rfl, hab, y1, rfl⟩
      refine ⟨_, rfl, _, _, rfl, rfl, _, rfl, ite2 (fun e => ?_) (fun e => ?_)⟩
      · have hb : (0 : Int) < (n : Int) := of_decide_eq_true e
        have hn : 0 < n := by omega
        refine ⟨fun σ' H'' => H'' = H' ∧ σ' = [some (.ref g), y1, some y2, some (.int (n : Int)), some (.int ((a % n : Nat) : Int))], ?_, _, rfl, _, rfl, _, rfl, _, _, rfl, rfl, hb, _, _, rfl, rfl, ?_⟩
        · rintro σ' H'' ⟨rfl, rfl⟩
          exact ⟨a % n, Nat.mod_lt _ hn, rfl, n, a % n, rfl, by rw [← hab, Nat.gcd_comm n, ← Nat.gcd_rec, Nat.gcd_comm], y1, rfl⟩
        · rfl
      · have hn : n = 0 := by
          have : ¬ (0 : Int) < (n : Int) := fun z => e (decide_eq_true z)
          omega
        subst hn
        rw [Nat.gcd_zero_right] at hab
        subst hab
        exact ⟨_, rfl, rfl, _, _, _, rfl⟩
    · rintro σ H' ⟨rfl, y2, y3, y4, rfl⟩
      refine ⟨_, rfl, ?_⟩
      rw [List.length_map, List.take_length]
      exact q
def sp_ldivU (K : PySem.W.Frag) : Sp := fun vs H Q _ => ∃ (g : Addr) (u : List Int), vs = [.ref g] ∧ SqT K H g (u.map V.int) ∧ Q (.int (gcdL u : Nat)) H
theorem okU__law_divisor (T : PlF K mg) : FnOk P w K mg base CX0 1 T.f__law_divisor T.fd__law_divisor ["_law_numbers"] (sp_ldivU K) := by
  refine T.D__law_divisor.F.ok sc_l_divisor (fun vs H Q E h => ?_) (fun cdv A outer s H vs Q E hr h => ?_)
  · obtain ⟨g, u, rfl, _⟩ := h
    rfl
  · obtain ⟨g, u, rfl, hg, q⟩ := h
    have nd := sc_l_divisor.nd
    refine ⟨_, (pss_cons (ps_set (i := 1) nd rfl (.inl rfl) pe_int)
      (pss_cons (ps_for PassesOwn.never rfl (pi_tup (pv 0)) (pg_name (i := 2) nd rfl (.inl rfl))
      (pss_cons (ps_par (i := 3) (j := 4) rfl nd rfl rfl (by decide) rfl rfl (pa_cons (pv 1) (pa_cons (pe_callB call_abs (by rfl) T.m_abs (by decide +kernel) (pa_cons (pv 2) pa_nil)) pa_nil)) rfl)
        (pss_cons (ps_while PassesOwn.never (pt_cmpR op_gt (pv 4) pe_int (nomark _))
        (pss_one (ps_par (i := 3) (j := 4) rfl nd rfl rfl (by decide) rfl rfl (pa_cons (pv 4) (pa_cons (pe_op op_mod (pv 3) (pv 4)) pa_nil)) rfl)))
        (pss_one (ps_set (i := 1) nd rfl (.inl rfl) (pv 3))))))
      (pss_one (ps_ret (pv 1))))), ?_⟩
    refine ⟨_, rfl, g, rfl, ⟨_, hg⟩, for_it (walk_tup (K := K) (a := g) (xs := u.map V.int)) (fun i σ H' => H' = H ∧ ∃ y2 y3 y4, σ = [some (.ref g), some (.int (gcdL (u.take i) : Nat)), y2, y3, y4])
      ⟨rfl, none, none, none, rfl⟩ (fun i σ H' _ h => by rw [h.1]; exact hg) ?_ ?_⟩
    · rintro i x σ H2 H1 hi0 ⟨rfl, y2, y3, y4, rfl⟩ ⟨rfl, hx⟩
      obtain ⟨hi, rfl⟩ := int_of hx
      refine ⟨_, rfl, _, rfl, _, rfl, ?_⟩
      refine ⟨_, _, rfl, ?_⟩
      rw [gcdL_take hi]
      generalize gcdL (u.take i) = a0
      have e0 : (if u[i] < 0 then -u[i] else u[i]) = (u[i].natAbs : Int) := by split <;> omega
      rw [e0]
      generalize u[i].natAbs = b0
      generalize (V.int u[i]) = y2
      refine ⟨fun n σ H' => H' = H1 ∧ ∃ a b : Nat, n = b ∧ Nat.gcd a b = Nat.gcd a0 b0 ∧ ∃ y1, σ = [some (.ref g), y1, some y2, some (.int (a : Int)), some (.int (b : Int))], ⟨_, rfl, a0, b0, rfl, rfl, _, rfl⟩, ?_⟩
      rintro n σ H' ⟨rfl, a, b, rfl, hab, y1, rfl⟩
      refine ⟨_, rfl, _, _, rfl, rfl, _, rfl, ite2 (fun e => ?_) (fun e => ?_)⟩
      · have hb : (0 : Int) < (n : Int) := of_decide_eq_true e
        have hn : 0 < n := by omega
        refine ⟨fun σ' H'' => H'' = H' ∧ σ' = [some (.ref g), y1, some y2, some (.int (n : Int)), some (.int ((a % n : Nat) : Int))], ?_, _, rfl, _, rfl, _, rfl, _, _, rfl, rfl, hb, _, _, rfl, rfl, ?_⟩
        · rintro σ' H'' ⟨rfl, rfl⟩
          exact ⟨a % n, Nat.mod_lt _ hn, rfl, n, a % n, rfl, by rw [← hab, Nat.gcd_comm n, ← Nat.gcd_rec, Nat.gcd_comm], y1, rfl⟩
        · rfl
      · have hn : n = 0 := by
          have : ¬ (0 : Int) < (n : Int) := fun z => e (decide_eq_true z)
          omega
        subst hn
        rw [Nat.gcd_zero_right] at hab
        subst hab
        exact ⟨_, rfl, rfl, _, _, _, rfl⟩
    · rintro σ H' ⟨rfl, y2, y3, y4, rfl⟩
      refine ⟨_, rfl, ?_⟩
      rw [List.length_map, List.take_length]
      exact q
end
end Sp1

set_option Elab.async false
set_option linter.all false
set_option maxRecDepth 100000
set_option maxHeartbeats 4000000
/-! sorted of a list of data that are alike -/
namespace Sp1
open PySem PySem.Spec PyProof.Rows L2
abbrev kOrd : KeyOrd := PyProof.Rows.listOrd PyProof.Rows.itemOrd
/-- not behind -/
def dLe (a b : V × PyData) : Bool := PySem.W.sortLe kOrd false (fun p : V × PyData => PySem.W.keyToks p.2) a b
theorem dLe_total : PySem.W.TotalLe dLe := PySem.W.sortLe_total kOrd false _
def rSortedDt (K : PySem.W.Frag) : List V → Hp → VK → Prop := fun vs H Q => ∃ (a : Addr) (xs : List V) (ds : List PyData), vs = [V.ref a] ∧ SqL K H a xs ∧ DpAll K H xs ds ∧ PySem.W.AllAlike ds ∧ PySem.W.Sortable ds ∧ (∀ d ∈ ds, d.depth ≤ 50) ∧
  ∀ (ps : List (V × PyData)) (p : Addr), ps.Perm (xs.zip ds) → ps.Pairwise (fun a b => dLe a b = true) → H p = none → Q (.ref p) (upd H p (.lst (ps.map (·.1))))
section
variable {X : Cx}
theorem each_dp {pins : List (Addr × Obj)} {σ : L2.St} {H : Hp} {s : Shared} (I : Inv X pins σ H s) : ∀ {ds : List PyData} {xs : List V} {us : List Value}, DpAll X.K H xs ds → Vals xs us →
    PySem.W.EachIs (fun v (b : V × PyData) => RelV b.1 v ∧ ∃ as, Reads s.heap v b.2 as) us (xs.zip ds)
  | [], _, _, h, r => by
    cases h
    cases r
    exact .nil
  | d :: ds, _, _, h, r => by
    cases h with
    | cons h1 h2 =>
      cases r with
      | cons r1 r2 => exact .cons ⟨r1, Dp.reads I d _ _ h1 r1⟩ (each_dp I h2 r2)
theorem each_snd {α β : Type} {R : Value → β → Prop} {f : α → β} : ∀ {us : List Value} {bs : List α}, PySem.W.EachIs (fun v b => R v (f b)) us bs → PySem.W.EachIs R us (bs.map f)
  | _, _, .nil => .nil
  | _, _, .cons h r => .cons h (each_snd r)
theorem each_mono {α β : Type} {R S : α → β → Prop} (h : ∀ a b, R a b → S a b) : ∀ {as : List α} {bs : List β}, PySem.W.EachIs R as bs → PySem.W.EachIs S as bs
  | _, _, .nil => .nil
  | _, _, .cons h1 r => .cons (h _ _ h1) (each_mono h r)
theorem each_memR {α β : Type} {R : α → β → Prop} : ∀ {as : List α} {bs : List β}, PySem.W.EachIs R as bs → PySem.W.EachIs (fun a b => R a b ∧ b ∈ bs) as bs
  | _, _, .nil => .nil
  | _, _, .cons h r => .cons ⟨h, List.mem_cons_self ..⟩ (each_mono (fun _ _ q => ⟨q.1, List.mem_cons_of_mem _ q.2⟩) (each_memR r))
theorem each_vals : ∀ {us : List Value} {ps : List (V × PyData)}, PySem.W.EachIs (fun v (b : V × PyData) => RelV b.1 v) us ps → Vals (ps.map (·.1)) us
  | _, _, .nil => .nil
  | _, _, .cons h r => .cons h (each_vals r)
theorem cr_sortedDt (hu : X.A.units + 64 < cLine) : CallR X (.builtin "sorted") (rSortedDt X.K) := by
  intro pins s σ H vs us Q I r h
  obtain ⟨a, xs, ds, rfl, hs, hd, hal, hk, hdp, q⟩ := h
  obtain ⟨its, rv, hl, hz⟩ := I.list hs
  rw [Vals.ref1 r]
  have e0 := each_dp I hd rv
  have hlen := dpAll_len hd
  have ilen : its.length = xs.length := rv.length.symm
  have keep : ∀ b o, s.heap.get? b = some o → (PySem.W.sortingHeap (PySem.W.copyHeap s.heap its) (s.heap.objs.size + 1) its).get? b = some o := fun b o e => PySem.W.sorting_copy_old e
  have e1 : PySem.W.EachIs (fun v (b : V × PyData) => RelV b.1 v ∧ ∃ as, Reads (PySem.W.sortingHeap (PySem.W.copyHeap s.heap its) (s.heap.objs.size + 1) its) v b.2 as) its (xs.zip ds) := each_mono (fun v b h => ⟨h.1, by
    obtain ⟨as, h2⟩ := h.2
    exact ⟨as, Reads.keeps keep h2⟩⟩) e0
  have zs : (xs.zip ds).map (·.2) = ds := List.map_snd_zip (by omega)
  have e2 : PySem.W.EachIs (fun v d => ∃ as, Reads (PySem.W.sortingHeap (PySem.W.copyHeap s.heap its) (s.heap.objs.size + 1) its) v d as) its ds := by
    have := each_snd (R := fun v d => ∃ as, Reads (PySem.W.sortingHeap (PySem.W.copyHeap s.heap its) (s.heap.objs.size + 1) its) v d as) (f := fun b : V × PyData => b.2) (each_mono (fun v b h => h.2) e1)
    rw [zs] at this
    exact this
  have S : PySem.W.SortsAt X.prog X.w X.A.in1.in1 { s with heap := PySem.W.sortingHeap (PySem.W.copyHeap s.heap its) (s.heap.objs.size + 1) its } (PySem.W.dataKind _ ds) its := PySem.W.SortsAt.data e2 hal hk fun d hd => by
    have := hdp d hd
    show X.A.units + 1 + 1 + d.depth < cLine
    omega
  refine PySem.W.sorted_vals hl.isList S (by rw [ilen]; exact hz) ?_
  have e3 := PySem.W.sortVals_each (κ := PySem.W.dataKind (PySem.W.sortingHeap (PySem.W.copyHeap s.heap its) (s.heap.objs.size + 1) its) ds) (rev := false) (fun b : V × PyData => PySem.W.keyToks b.2) e1 (each_mono (fun v b h => by
    obtain ⟨⟨_, as, h2⟩, hm⟩ := h
    have : b.2 ∈ ds := by
      rw [← zs]
      exact List.mem_map.mpr ⟨b, hm, rfl⟩
    exact PySem.W.dataKind_some hal this h2) (each_memR e1))
  have hperm : ((xs.zip ds).mergeSort dLe).Perm (xs.zip ds) := List.mergeSort_perm _ _
  have hsort : ((xs.zip ds).mergeSort dLe).Pairwise (fun a b => dLe a b = true) := List.pairwise_mergeSort (fun a b c => dLe_total.trans a b c) (fun a b => by
    rcases dLe_total.total a b with h | h <;> simp [h]) _
  have e4 : PySem.W.EachIs (fun v (b : V × PyData) => RelV b.1 v) (PySem.W.sortVals (PySem.W.dataKind (PySem.W.sortingHeap (PySem.W.copyHeap s.heap its) (s.heap.objs.size + 1) its) ds) false its its) ((xs.zip ds).mergeSort dLe) := each_mono (fun v b h => h.1) e3
  generalize (xs.zip ds).mergeSort dLe = ps at hperm hsort e4
  generalize PySem.W.sortVals (PySem.W.dataKind (PySem.W.sortingHeap (PySem.W.copyHeap s.heap its) (s.heap.objs.size + 1) its) ds) false its its = out at e4 ⊢
  obtain ⟨ep, he'⟩ := PyProof.Rows.sortedAll_at s.heap its out.toArray
  have hl2 : (ps.map (·.1)).length ≤ sizeLine := by
    rw [List.length_map, hperm.length_eq, List.length_zip]
    have : xs.length ≤ sizeLine := hz
    omega
  exact ⟨.ref _, upd H (s.heap.objs.size + 1) (.lst (ps.map (·.1))), I.laid (t' := s.toks) (fun _ _ => PyProof.Rows.sortedAll_old) (Nat.le_succ _) ⟨hl2, out, ep, each_vals e4, he'⟩, rfl, q ps _ hperm hsort (I.hok.fresh (Nat.le_succ _))⟩
end
end Sp1

set_option Elab.async false
set_option linter.all false
set_option maxRecDepth 100000
set_option maxHeartbeats 4000000
namespace Pg
open PySem PySem.Spec L2
theorem fold_dvd : ∀ (l : List Int) (a : Nat), (l.foldl (fun (a : Nat) x => Nat.gcd a x.natAbs) a ∣ a) ∧ ∀ x ∈ l, l.foldl (fun (a : Nat) x => Nat.gcd a x.natAbs) a ∣ x.natAbs
  | [], a => ⟨Nat.dvd_refl _, fun x hx => by cases hx⟩
  | y :: r, a => by
    obtain ⟨h1, h2⟩ := fold_dvd r (Nat.gcd a y.natAbs)
    refine ⟨Nat.dvd_trans h1 (Nat.gcd_dvd_left _ _), fun x hx => ?_⟩
    rcases List.mem_cons.mp hx with rfl | hx
    · exact Nat.dvd_trans h1 (Nat.gcd_dvd_right _ _)
    · exact h2 x hx
theorem dvd_fold {n : Nat} : ∀ (l : List Int) (a : Nat), n ∣ a → (∀ x ∈ l, n ∣ x.natAbs) → n ∣ l.foldl (fun (a : Nat) x => Nat.gcd a x.natAbs) a
  | [], a, h, _ => h
  | y :: r, a, h, hl => dvd_fold r _ (Nat.dvd_gcd h (hl y List.mem_cons_self)) fun x hx => hl x (List.mem_cons_of_mem _ hx)
theorem gcdL_dvd {u : List Int} {x : Int} (h : x ∈ u) : gcdL u ∣ x.natAbs := (fold_dvd u 0).2 x h
theorem dvd_gcdL {u : List Int} {n : Nat} (h : ∀ x ∈ u, n ∣ x.natAbs) : n ∣ gcdL u := dvd_fold u 0 (Nat.dvd_zero _) h
/-- a number over a divisor of it -/
theorem over {G : Nat} {x : Int} (g1 : 1 ≤ G) (h : G ∣ x.natAbs) : x = (G : Int) * (x / (G : Int)) ∧ x.natAbs = G * (x / (G : Int)).natAbs ∧ (x / (G : Int)).natAbs ≤ x.natAbs := by
  have hd : (G : Int) ∣ x := Int.ofNat_dvd_left.mpr h
  have e := (Int.mul_ediv_cancel' hd).symm
  have e2 : x.natAbs = G * (x / (G : Int)).natAbs := by
    conv => lhs; rw [e]
    rw [Int.natAbs_mul, Int.natAbs_natCast]
  refine ⟨e, e2, ?_⟩
  rw [e2]
  exact Nat.le_mul_of_pos_left _ g1
set_option exponentiation.threshold 400 in
theorem great_12 : (10 : Int) ^ 12 < great := by
  unfold great
  decide +kernel
/-- the numbers in sums are small -/
def Sm.Lo (s : Sm) : Prop := s.c.natAbs ≤ 10 ^ 12 ∧ s.d ≤ 3 ∧ ∀ t ∈ s.ts, t.1.natAbs ≤ 1009
def Ex.Lo : Ex → Prop
  | .sum s => s.Lo
  | _ => True
mutual
def St.Lo : St → Prop
  | .ite e a b => e.Lo ∧ blLo a ∧ blLo b
  | .whl e b => e.Lo ∧ blLo b
  | .rep e b => e.Lo ∧ blLo b
  | .set _ e => e.Lo
  | .print e => e.Lo
  | .swap _ _ => True
  | .call _ => True
def blLo : List St → Prop
  | [] => True
  | s :: r => s.Lo ∧ blLo r
end
theorem blLo_app : ∀ {a b : List St}, blLo a → blLo b → blLo (a ++ b)
  | [], _, _, h => h
  | _ :: _, _, h, k => ⟨h.1, blLo_app h.2 k⟩
theorem low_ok {names : List Str} {c d : Int} {fs : List Int} {ps : List (Str × Int)} (hN : ∀ q ∈ ps, q.1 ∈ names) (asc : (ps.map (·.1)).Pairwise sLt) (hl : ps.length ≤ 4) (hp : ∀ x, x ∈ fs ↔ x ∈ ps.map (·.2)) (d1 : 1 ≤ d) (d3 : d ≤ 3) (hc : c.natAbs ≤ 10 ^ 12) (hf : ∀ x ∈ fs, x.natAbs ≤ 1009) :
    1 ≤ gcdL (c :: d :: fs) ∧ gcdL (c :: d :: fs) ≤ 3 ∧ Sm.Ok names ⟨c / (gcdL (c :: d :: fs) : Int), (ps.filter fun q => decide (q.2 ≠ 0)).map fun q => (q.2 / (gcdL (c :: d :: fs) : Int), q.1), d / (gcdL (c :: d :: fs) : Int)⟩ ∧ Sm.Lo ⟨c / (gcdL (c :: d :: fs) : Int), (ps.filter fun q => decide (q.2 ≠ 0)).map fun q => (q.2 / (gcdL (c :: d :: fs) : Int), q.1), d / (gcdL (c :: d :: fs) : Int)⟩ := by
  have hd : gcdL (c :: d :: fs) ∣ d.natAbs := gcdL_dvd (by simp)
  have hc' : gcdL (c :: d :: fs) ∣ c.natAbs := gcdL_dvd (by simp)
  have hf' : ∀ x ∈ fs, gcdL (c :: d :: fs) ∣ x.natAbs := fun x hx => gcdL_dvd (by simp [hx])
  have hgr : ∀ n, n ∣ c.natAbs → n ∣ d.natAbs → (∀ x ∈ fs, n ∣ x.natAbs) → n ∣ gcdL (c :: d :: fs) := fun n h1 h2 h3 => dvd_gcdL fun x hx => by
    rcases List.mem_cons.mp hx with rfl | hx
    · exact h1
    · rcases List.mem_cons.mp hx with rfl | hx
      · exact h2
      · exact h3 x hx
  generalize gcdL (c :: d :: fs) = G at hd hc' hf' hgr ⊢
  have g1 : 1 ≤ G := by
    rcases Nat.eq_zero_or_pos G with rfl | h
    · have := Nat.eq_zero_of_zero_dvd hd
      omega
    · exact h
  have g3 : G ≤ 3 := by
    have := Nat.le_of_dvd (by omega) hd
    omega
  obtain ⟨ec, ec2, ec3⟩ := over g1 hc'
  obtain ⟨ed, ed2, ed3⟩ := over g1 hd
  have hm : ∀ t ∈ (ps.filter fun q => decide (q.2 ≠ 0)).map fun q => (q.2 / (G : Int), q.1), ∃ q ∈ ps, q.2 ≠ 0 ∧ q.2 ∈ fs ∧ t = (q.2 / (G : Int), q.1) := fun t ht => by
    obtain ⟨q, hq, rfl⟩ := List.mem_map.mp ht
    obtain ⟨h1, h2⟩ := List.mem_filter.mp hq
    exact ⟨q, h1, of_decide_eq_true h2, (hp _).mpr (List.mem_map.mpr ⟨q, h1, rfl⟩), rfl⟩
  have big := great_12
  refine ⟨g1, g3, ⟨fun t ht => ?_, ?_, ?_, ?_, ?_, fun x hx => ?_⟩, Nat.le_trans ec3 hc, (by show d / (G : Int) ≤ 3; omega), fun t ht => by
    obtain ⟨q, hq, h0, hqf, rfl⟩ := hm t ht
    exact Nat.le_trans (over g1 (hf' _ hqf)).2.2 (hf _ hqf)⟩
  · obtain ⟨q, hq, h0, hqf, rfl⟩ := hm t ht
    obtain ⟨e, _⟩ := over g1 (hf' _ hqf)
    refine ⟨fun z => h0 ?_, hN q hq⟩
    rw [e]
    show (G : Int) * (q.2 / (G : Int)) = 0
    rw [show q.2 / (G : Int) = 0 from z, Int.mul_zero]
  · show (((ps.filter fun q => decide (q.2 ≠ 0)).map fun q => (q.2 / (G : Int), q.1)).map (·.2)).Pairwise sLt
    rw [List.map_map]
    exact asc.sublist (by
      have : (fun q : Str × Int => (q.2 / (G : Int), q.1).2) = (·.1) := rfl
      show List.Sublist ((ps.filter fun q => decide (q.2 ≠ 0)).map (·.1)) _
      exact List.filter_sublist.map _)
  · show 1 ≤ d / (G : Int)
    have : 0 < d / (G : Int) := by
      rcases Int.lt_or_le 0 (d / (G : Int)) with h | h
      · exact h
      · have : (G : Int) * (d / (G : Int)) ≤ 0 := Int.mul_nonpos_of_nonneg_of_nonpos (by omega) h
        omega
    omega
  · show ((ps.filter fun q => decide (q.2 ≠ 0)).map fun q => (q.2 / (G : Int), q.1)).length ≤ 60
    rw [List.length_map]
    have := List.length_filter_le (fun q : Str × Int => decide (q.2 ≠ 0)) ps
    omega
  · show ((((ps.filter fun q => decide (q.2 ≠ 0)).map fun q => (q.2 / (G : Int), q.1)).map (·.1))).foldl (fun (a : Nat) x => Nat.gcd a x.natAbs) (Nat.gcd (Nat.gcd 0 (c / (G : Int)).natAbs) (d / (G : Int)).natAbs) = 1
    obtain ⟨h1, h2⟩ := fold_dvd (((ps.filter fun q => decide (q.2 ≠ 0)).map fun q => (q.2 / (G : Int), q.1)).map (·.1)) (Nat.gcd (Nat.gcd 0 (c / (G : Int)).natAbs) (d / (G : Int)).natAbs)
    generalize List.foldl _ _ _ = g at h1 h2 ⊢
    have k := hgr (G * g) (by rw [ec2]; exact Nat.mul_dvd_mul_left _ (Nat.dvd_trans h1 (Nat.dvd_trans (Nat.gcd_dvd_left _ _) (Nat.gcd_dvd_right _ _)))) (by rw [ed2]; exact Nat.mul_dvd_mul_left _ (Nat.dvd_trans h1 (Nat.gcd_dvd_right _ _))) fun x hx => by
      by_cases x0 : x = 0
      · rw [x0]; exact Nat.dvd_zero _
      · obtain ⟨q, hq, rfl⟩ := List.mem_map.mp ((hp x).mp hx)
        rw [(over g1 (hf' _ hx)).2.1]
        refine Nat.mul_dvd_mul_left _ (h2 _ (List.mem_map.mpr ⟨_, List.mem_map.mpr ⟨q, List.mem_filter.mpr ⟨hq, decide_eq_true x0⟩, rfl⟩, rfl⟩))
    have k2 : G * g ∣ G * 1 := by rw [Nat.mul_one]; exact k
    exact Nat.dvd_one.mp (Nat.dvd_of_mul_dvd_mul_left g1 k2)
  · have b : ∀ y : Int, y.natAbs ≤ 10 ^ 12 → -great < y ∧ y < great := fun y hy => by omega
    rcases List.mem_cons.mp hx with hx | hx
    · rw [hx]
      exact b _ (Nat.le_trans ec3 hc)
    · rcases List.mem_cons.mp hx with hx | hx
      · rw [hx]
        exact b _ (by show (d / (G : Int)).natAbs ≤ _; omega)
      · obtain ⟨t, ht, rfl⟩ := List.mem_map.mp hx
        obtain ⟨q, hq, h0, hqf, rfl⟩ := hm t ht
        exact b _ (Nat.le_trans (over g1 (hf' _ hqf)).2.2 (Nat.le_trans (hf _ hqf) (by decide)))
end Pg

set_option Elab.async false
set_option linter.all false
set_option maxRecDepth 100000
set_option maxHeartbeats 4000000
namespace Sp1
open PySem PySem.Spec PyProof.Rows L2 Pg
/-! pairs of a name and a number, sorted -/
def tpD (q : Str × Int) : PyData := .tuple [.str q.1, .int q.2]
def unD : PyData → Str × Int
  | .tuple [.str x, .int i] => (x, i)
  | _ => (Str.empty, 0)
theorem un_tp (q : Str × Int) : unD (tpD q) = q := rfl
theorem tpD_tup {q : Str × Int} (h : tupD (.str q.1) = true) : tupD (tpD q) = true := by
  simp only [tpD, tupD, tupAll, Bool.and_eq_true] at h ⊢
  exact ⟨h, trivial, trivial⟩
theorem pair_le {v u : V} {a b : Str × Int} (h : dLe (v, tpD a) (u, tpD b) = true) : ¬ sLt b.1 a.1 := fun z => by
  unfold dLe PySem.W.sortLe at h
  have e : kOrd.blt (PySem.W.keyToks (tpD b)) (PySem.W.keyToks (tpD a)) = true := by
    show lexLt itemOrd (.inl 1 :: (.inr b.1.cps.toList :: _)) (.inl 1 :: (.inr a.1.cps.toList :: _)) = true
    rw [lex_cons]
    have e1 : itemOrd.blt (.inl 1) (.inl 1) = false := rfl
    rw [e1, lex_cons]
    have e2 : itemOrd.blt (.inr b.1.cps.toList) (.inr a.1.cps.toList) = true := decide_eq_true z
    rw [e2]
    rfl
  rw [show kOrd.blt (PySem.W.keyToks ((u, tpD b) : V × PyData).2) (PySem.W.keyToks ((v, tpD a) : V × PyData).2) = true from e] at h
  cases h
theorem all_alike (ps : List (Str × Int)) : PySem.W.AllAlike (ps.map tpD) := fun d hd e he => by
  obtain ⟨a, _, rfl⟩ := List.mem_map.mp hd
  obtain ⟨b, _, rfl⟩ := List.mem_map.mp he
  simp [tpD, PySem.W.alike, PySem.W.alikeAll]
theorem all_sort (ps : List (Str × Int)) : PySem.W.Sortable (ps.map tpD) := .inl fun d hd => by
  obtain ⟨a, _, rfl⟩ := List.mem_map.mp hd
  exact ⟨_, _, rfl⟩
theorem all_deep (ps : List (Str × Int)) : ∀ d ∈ ps.map tpD, d.depth ≤ 50 := fun d hd => by
  obtain ⟨a, _, rfl⟩ := List.mem_map.mp hd
  show PyData.depth (.tuple [.str a.1, .int a.2]) ≤ 50
  simp [PyData.depth, PyData.depthAll]
section
variable {K : PySem.W.Frag} {H : Hp}
theorem dpAll_zip : ∀ {ds : List PyData} {xs : List V}, DpAll K H xs ds → ∀ b ∈ xs.zip ds, Dp K H b.1 b.2
  | [], _, h, b, hb => by cases h; cases hb
  | d :: ds, _, h, b, hb => by
    cases h with
    | cons h1 h2 =>
      rcases List.mem_cons.mp hb with rfl | hb
      · exact h1
      · exact dpAll_zip h2 b hb
theorem dpAll_mk : ∀ {ps : List (V × PyData)}, (∀ b ∈ ps, Dp K H b.1 b.2) → DpAll K H (ps.map (·.1)) (ps.map (·.2))
  | [], _ => .nil
  | b :: r, h => .cons (h b List.mem_cons_self) (dpAll_mk fun c hc => h c (List.mem_cons_of_mem _ hc))
theorem sorted_named {ps0 : List (Str × Int)} {xs : List V} (h : DpAll K H xs (ps0.map tpD)) (nd : (ps0.map (·.1)).Nodup) {ps : List (V × PyData)} (hp : ps.Perm (xs.zip (ps0.map tpD))) (hs : ps.Pairwise fun a b => dLe a b = true) :
    ∃ qs : List (Str × Int), qs.Perm ps0 ∧ (qs.map (·.1)).Pairwise sLt ∧ DpAll K H (ps.map (·.1)) (qs.map tpD) := by
  have hl := dpAll_len h
  have e1 : (ps.map (·.2)).Perm (ps0.map tpD) := by
    have := hp.map (·.2)
    rw [List.map_snd_zip (by omega)] at this
    exact this
  have e2 : ((ps.map (·.2)).map unD).map tpD = ps.map (·.2) := by
    rw [List.map_map]
    conv => rhs; rw [← List.map_id (ps.map (·.2))]
    refine List.map_congr_left fun d hd => ?_
    obtain ⟨q, _, rfl⟩ := List.mem_map.mp (e1.mem_iff.mp hd)
    rfl
  have e3 : ((ps.map (·.2)).map unD).Perm ps0 := by
    have := e1.map unD
    rw [List.map_map (l := ps0)] at this
    have e : (unD ∘ tpD) = id := by funext q; rfl
    rw [e, List.map_id] at this
    exact this
  refine ⟨(ps.map (·.2)).map unD, e3, ?_, ?_⟩
  · have hnd : (((ps.map (·.2)).map unD).map (·.1)).Nodup := (e3.map (·.1)).nodup_iff.mpr nd
    have hq : ∀ b ∈ ps, ∃ q, b.2 = tpD q := fun b hb => by
      obtain ⟨q, _, e⟩ := List.mem_map.mp (e1.mem_iff.mp (List.mem_map.mpr ⟨b, hb, rfl⟩))
      exact ⟨q, e.symm⟩
    have hs2 : (((ps.map (·.2)).map unD).map (·.1)).Pairwise fun a b => ¬ sLt b a := by
      rw [List.pairwise_map, List.pairwise_map, List.pairwise_map]
      refine List.Pairwise.imp_of_mem (fun {a b} ha hb hab => ?_) hs
      obtain ⟨v, d⟩ := a
      obtain ⟨u, e⟩ := b
      obtain ⟨q, rfl⟩ := hq _ ha
      obtain ⟨q', rfl⟩ := hq _ hb
      exact pair_le hab
    exact (hs2.and hnd).imp fun {a b} h => by
      by_cases hab : sLt a b
      · exact hab
      · exact absurd (sLt_tri hab h.1) h.2
  · rw [e2]
    exact dpAll_mk fun b hb => dpAll_zip h b (hp.mem_iff.mp hb)
end
end Sp1

set_option Elab.async false
set_option linter.all false
set_option maxRecDepth 100000
set_option maxHeartbeats 4000000
namespace Sp1
open PySem PySem.Spec PyProof.Rows L2 Pg
/-- names of the law's, in a list beside the pool -/
structure NmP (H : Hp) (g p : Addr) (names : List Str) : Prop where
  at_ : H g = some (.lst (names.map V.str))
  gp : g ≠ p
  N : Names names
  nd : names.Nodup
  l1 : 1 ≤ names.length
  l4 : names.length ≤ 4
theorem NmP.sx {H H' : Hp} {g p : Addr} {names : List Str} (h : NmP H g p names) (s : SX p H H') : NmP H' g p names := ⟨s _ _ h.gp h.at_, h.gp, h.N, h.nd, h.l1, h.l4⟩
theorem gn {i : Nat} {v : V} {σ σ' : L2.St} {H : Hp} {Q : L2.St → Hp → Prop} (e : σ.set i (some v) = σ') (h : Q σ' H) : gName i v σ H Q := by
  subst e
  exact h
theorem sg_to {σ σ' : L2.St} {H : Hp} {Q : L2.St → Hp → Prop} (e : σ = σ') (h : Q σ' H) : Q σ H := by
  subst e
  exact h
abbrev factors10 : List Int := [0, 1, 0, -1, 1, 2, -3, 0, 1, 1009]
theorem factors_ok : ∀ f ∈ factors10, f.natAbs ≤ 1009 := by decide
abbrev consts7 : List Int := [0, 0, 1, -1, 3, -8, 10 ^ 12]
theorem consts_ok : ∀ f ∈ consts7, f.natAbs ≤ 10 ^ 12 := by decide
abbrev divs6 : List Int := [1, 1, 1, 1, 2, 3]
theorem divs_ok : ∀ f ∈ divs6, 1 ≤ f ∧ f ≤ 3 := by decide
theorem zip_at {α β : Type} {as : List α} {bs : List β} {i : Nat} {a : α} {b : β} (h1 : as[i]? = some a) (h2 : bs[i]? = some b) : (as.zip bs)[i]? = some (a, b) := by
  rw [List.getElem?_zip_eq_some]
  exact ⟨h1, h2⟩
section
variable {P : Program} {w : World} {K : PySem.W.Frag} {mg : Str → Option Value} {base : Heap}
def sp_plsum (K : PySem.W.Frag) : Sp := fun vs H Q _ => ∃ (p g : Addr) (u d : Int) (names : List Str), vs = [.ref p, .ref g] ∧ Pl H p u d ∧ NmP H g p names ∧ ∀ (v : V) (H' : Hp) (s : Sm), SX p H H' → Pl H' p u d → Dp K H' v s.D → s.Ok names → s.Lo → Q v H'
theorem ok__law_sum (T : PlF K mg) : FnOk P w K mg base CX0 3 T.f__law_sum T.fd__law_sum ["_law_pool_here", "_law_names_here"] (sp_plsum K) := by
  refine T.D__law_sum.F.ok sc_l_sum (fun vs H Q E h => ?_) (fun cdv A outer s H vs Q E hr h => ?_)
  · obtain ⟨p, g, u, d, names, rfl, _⟩ := h
    rfl
  · obtain ⟨p, g, u, d, names, rfl, hp, hg, q⟩ := h
    have nd := sc_l_sum.nd
    have lS : sizeLine = 16777216 := sizeLine_eq
    have l4 := hg.l4
    refine ⟨_, (pss_cons (ps_set (i := 2) nd rfl (.inr rfl) (pe_lst pa_nil))
      (pss_cons (ps_for PassesOwn.never rfl (pi_list (pv 1)) (pg_name (i := 3) nd rfl (.inl rfl))
      (pss_one (ps_expr (pe_bm PySem.F.plainAttrs_list PySem.F.slot_list_append PySem.F.type_list_append mt_append (pv 2) (pa_cons (pe_ix (r := rIxL K) ix_list (pe_lst (pa_cons pe_int (pa_cons pe_int (pa_cons pe_int (pa_cons (pe_un un_neg pe_int) (pa_cons pe_int (pa_cons pe_int (pa_cons (pe_un un_neg pe_int) (pa_cons pe_int (pa_cons pe_int (pa_cons pe_int pa_nil))))))))))) (pe_call ((ok__law_draw T).mono (by decide)) hr (by rfl) T.D__law_draw.g T.D__law_draw.kp T.D__law_draw.b .nil pass0 (pa_cons (pv 0) (pa_cons pe_int pa_nil))) (fun _ _ => rfl)) pa_nil)))))
      (pss_cons (ps_set (i := 4) nd rfl (.inl rfl) (pe_ix (r := rIxL K) ix_list (pe_lst (pa_cons pe_int (pa_cons pe_int (pa_cons pe_int (pa_cons (pe_un un_neg pe_int) (pa_cons pe_int (pa_cons (pe_un un_neg pe_int) (pa_cons (pe_op op_pow pe_int pe_int) pa_nil)))))))) (pe_call ((ok__law_draw T).mono (by decide)) hr (by rfl) T.D__law_draw.g T.D__law_draw.kp T.D__law_draw.b .nil pass0 (pa_cons (pv 0) (pa_cons pe_int pa_nil))) (fun _ _ => rfl)))
      (pss_cons (ps_set (i := 5) nd rfl (.inl rfl) (pe_ix (r := rIxL K) ix_list (pe_lst (pa_cons pe_int (pa_cons pe_int (pa_cons pe_int (pa_cons pe_int (pa_cons pe_int (pa_cons pe_int pa_nil))))))) (pe_call ((ok__law_draw T).mono (by decide)) hr (by rfl) T.D__law_draw.g T.D__law_draw.kp T.D__law_draw.b .nil pass0 (pa_cons (pv 0) (pa_cons pe_int pa_nil))) (fun _ _ => rfl)))
      (pss_cons (ps_set (i := 6) nd rfl (.inr rfl) (pe_call ((ok__law_divisor T).mono (by decide)) hr (by rfl) T.D__law_divisor.g T.D__law_divisor.kp T.D__law_divisor.b .nil pass0 (pa_cons (pe_op op_cat (pe_lst (pa_cons (pv 4) (pa_cons (pv 5) pa_nil))) (pv 2)) pa_nil)))
      (pss_cons (ps_set (i := 7) nd rfl (.inl rfl) (pe_callB (cr_sortedDt hr.units) (by rfl) T.m_sorted (by decide +kernel) (pa_cons (pe_lc (own := [("_law_at", 9), ("_law_name", 3)]) (g := (gTup K 2 (gCons (gName 9) (gCons (gName 3) gNil)))) (tt := tYes) rfl nd (pi_enum (by rfl) T.m_enumerate (pa_cons (pv 1) pa_nil)) (blkOk_by (N := N_l_sum) (sc := defScope s_l_sum) (by decide +kernel)) (fun _ _ _ _ _ => (pg_tup rfl (pgs_cons (pg_name (i := 9) nd rfl (.inl rfl)) (pgs_cons (pg_name (i := 3) nd rfl (.inl rfl)) pgs_nil)))) (fun _ _ _ _ _ => pts_nil) (fun _ _ _ _ _ => (pe_tup (pa_cons (pv 3) (pa_cons (pe_ix (r := rIxL K) ix_list (pv 2) (pv 9) (fun _ _ => rfl)) pa_nil))))) pa_nil)))
      (pss_cons (ps_set (i := 8) nd rfl (.inl rfl) (pe_callTy call_tuple_of (by rfl) T.m_tuple (by decide +kernel) (pa_cons (pe_lc (own := [("_law_name", 3), ("_law_factor", 10)]) (g := (gTup K 2 (gCons (gName 3) (gCons (gName 10) gNil)))) rfl nd (pi_list (pv 7)) (blkOk_by (N := N_l_sum) (sc := defScope s_l_sum) (by decide +kernel)) (fun _ _ _ _ _ => (pg_tup rfl (pgs_cons (pg_name (i := 3) nd rfl (.inl rfl)) (pgs_cons (pg_name (i := 10) nd rfl (.inl rfl)) pgs_nil)))) (fun _ _ _ _ _ => (pts_one (pt_cmpR op_ne (pv 10) pe_int (nomark _)))) (fun _ _ _ _ _ => (pe_tup (pa_cons (pe_op op_fdivW (pv 10) (pv 6)) (pa_cons (pv 3) pa_nil))))) pa_nil)))
      (pss_one (ps_ret (pe_tup (pa_cons pe_str (pa_cons (pe_op op_fdivW (pv 4) (pv 6)) (pa_cons (pv 8) (pa_cons (pe_op op_fdivW (pv 5) (pv 6)) pa_nil)))))))))))))), ?_⟩
    have nop : ∀ {Hz : Hp} {b : Addr}, Pl Hz p u d → Hz b = none → b ≠ p := fun h n => h.ne n
    have draw : ∀ (zs : List Int) (c : Int) (hc : (zs.length : Int) = c) {r : Int}, 0 ≤ r → r < c → ∃ j : Nat, r = (j : Int) ∧ ∃ x ∈ zs, (zs.map V.int)[j]? = some (.int x) := fun zs c hc {r} h0 h1 => by
      obtain ⟨j, rfl⟩ : ∃ j : Nat, r = (j : Int) := ⟨r.toNat, by omega⟩
      have hj : j < zs.length := by omega
      exact ⟨j, rfl, zs[j], List.getElem_mem hj, by rw [List.getElem?_map, List.getElem?_eq_getElem hj]; rfl⟩
    refine ⟨small (by decide), fun D nD => ?_⟩
    have s1 := same_new (o := HO.lst []) nD
    have hD : (upd H D (HO.lst [])) D = some (HO.lst []) := upd_same
    generalize upd H D (HO.lst []) = H1 at s1 hD ⊢
    have Dp' := hp.ne nD
    have hp1 := hp.same s1
    have hg1 := hg.sx (Same.sx s1)
    refine gn (σ' := [some (.ref p), some (.ref g), some (.ref D), none, none, none, none, none, none, none, none]) rfl ?_
    refine ⟨_, rfl, g, rfl, ⟨_, SqL.of hg1.at_⟩, for_list (K := K) (a := g) (xs := names.map V.str) (fun i σ H' => SX p H H' ∧ Pl H' p u d ∧ ∃ (fs : List Int) (y : Option V), H' D = some (.lst (fs.map V.int)) ∧ fs.length = i ∧ (∀ f ∈ fs, f ∈ factors10) ∧ σ = [some (.ref p), some (.ref g), some (.ref D), y, none, none, none, none, none, none, none])
      ⟨Same.sx s1, hp1, [], none, hD, rfl, (fun f h => by cases h), rfl⟩ (fun i σ H' _ h => SqL.of (hg.sx h.1).at_) ?_ ?_⟩
    · rintro i x σ H2 hx ⟨sx2, hp2, fs, y, hD2, lf, hf, rfl⟩
      have hi : i < names.length := by
        have := (List.getElem?_eq_some_iff.mp hx).1
        rw [List.length_map] at this
        exact this
      refine ⟨_, rfl, .inl ⟨rfl, _, SqL.of hD2⟩, 1, rfl, 3, rfl, small (by show 10 ≤ 5000; decide), fun l nl => ?_⟩
      have s3 := same_new (o := HO.lst [.int 0, .int 1, .int 0, .int (-1), .int 1, .int 2, .int (-3), .int 0, .int 1, .int 1009]) nl
      have hl : (upd H2 l (HO.lst [.int 0, .int 1, .int 0, .int (-1), .int 1, .int 2, .int (-3), .int 0, .int 1, .int 1009])) l = some (HO.lst [.int 0, .int 1, .int 0, .int (-1), .int 1, .int 2, .int (-3), .int 0, .int 1, .int 1009]) := upd_same
      generalize upd H2 l (HO.lst [.int 0, .int 1, .int 0, .int (-1), .int 1, .int 2, .int (-3), .int 0, .int 1, .int 1009]) = H3 at s3 hl ⊢
      have hp3 := hp2.same s3
      refine ⟨_, rfl, p, 10, u, d, rfl, hp3, by decide, by decide, fun r H4 r0 r1 sx4 hp4 => ?_⟩
      obtain ⟨j, rfl, f, hfm, hfj⟩ := draw factors10 10 rfl r0 r1
      have hl4 := sx4 _ _ (nop hp2 nl) hl
      refine ⟨l, _, _, _, rfl, rfl, SqL.of hl4, atI_nat hfj, ?_⟩
      have hD4 := sx4 _ _ Dp' (s3 _ _ hD2)
      refine ⟨D, _, _, rfl, rfl, hD4, by rw [lS, List.length_map]; omega, ?_⟩
      refine ⟨((sx2.trans (Same.sx s3)).trans sx4).new nD, hp4.put Dp'.symm, fs ++ [f], _, by rw [List.map_append]; exact upd_same, by rw [List.length_append, lf]; rfl, fun z hz => ?_, rfl⟩
      rcases List.mem_append.mp hz with hz | hz
      · exact hf z hz
      · rw [List.mem_singleton.mp hz]; exact hfm
    · rintro σ H2 ⟨sx2, hp2, fs, y, hD2, lf, hf, rfl⟩
      rw [List.length_map] at lf
      -- constant and divisor
      refine ⟨1, rfl, 8, rfl, _, _, rfl, rfl, ⟨by decide, by decide, by decide⟩, small (by show 7 ≤ 5000; decide), fun l nl => ?_⟩
      have s3 := same_new (o := HO.lst [.int 0, .int 0, .int 1, .int (-1), .int 3, .int (-8), .int (10 ^ (12 : Int).toNat)]) nl
      have hl : (upd H2 l (HO.lst [.int 0, .int 0, .int 1, .int (-1), .int 3, .int (-8), .int (10 ^ (12 : Int).toNat)])) l = some (HO.lst [.int 0, .int 0, .int 1, .int (-1), .int 3, .int (-8), .int (10 ^ (12 : Int).toNat)]) := upd_same
      generalize upd H2 l (HO.lst [.int 0, .int 0, .int 1, .int (-1), .int 3, .int (-8), .int (10 ^ (12 : Int).toNat)]) = H3 at s3 hl ⊢
      have hl : H3 l = some (.lst (consts7.map V.int)) := hl
      refine ⟨_, rfl, p, 7, u, d, rfl, hp2.same s3, by decide, by decide, fun r H4 r0 r1 sx4 hp4 => ?_⟩
      obtain ⟨j, rfl, c, hcm, hcj⟩ := draw consts7 7 rfl r0 r1
      have hl4 := sx4 _ _ (nop hp2 nl) hl
      have hD4 := sx4 _ _ Dp' (s3 _ _ hD2)
      refine ⟨l, _, _, _, rfl, rfl, SqL.of hl4, atI_nat hcj, ?_⟩
      refine gn (σ' := [some (.ref p), some (.ref g), some (.ref D), y, some (.int c), none, none, none, none, none, none]) rfl ?_
      refine ⟨small (by show 6 ≤ 5000; decide), fun l2 nl2 => ?_⟩
      have s5 := same_new (o := HO.lst [.int 1, .int 1, .int 1, .int 1, .int 2, .int 3]) nl2
      have hl2 : (upd H4 l2 (HO.lst [.int 1, .int 1, .int 1, .int 1, .int 2, .int 3])) l2 = some (HO.lst [.int 1, .int 1, .int 1, .int 1, .int 2, .int 3]) := upd_same
      generalize upd H4 l2 (HO.lst [.int 1, .int 1, .int 1, .int 1, .int 2, .int 3]) = H5 at s5 hl2 ⊢
      have hl2 : H5 l2 = some (.lst (divs6.map V.int)) := hl2
      refine ⟨_, rfl, p, 6, u, d, rfl, hp4.same s5, by decide, by decide, fun r H6 r2 r3 sx6 hp6 => ?_⟩
      obtain ⟨j2, rfl, e, hem, hej⟩ := draw divs6 6 rfl r2 r3
      have hl26 := sx6 _ _ (nop hp4 nl2) hl2
      have hD6 := sx6 _ _ Dp' (s5 _ _ hD4)
      refine ⟨l2, _, _, _, rfl, rfl, SqL.of hl26, atI_nat hej, ?_⟩
      refine gn (σ' := [some (.ref p), some (.ref g), some (.ref D), y, some (.int c), some (.int e), none, none, none, none, none]) rfl ?_
      have sx06 : SX p H H6 := (sx2.trans (Same.sx s3)).trans (sx4.trans ((Same.sx s5).trans sx6))
      have hc := consts_ok c hcm
      have he := divs_ok e hem
      have hfb : ∀ f ∈ fs, f.natAbs ≤ 1009 := fun f h => factors_ok f (hf f h)
      have hg6 := (hg.sx sx06).at_
      clear hl hl4 hl2 hl26 s3 sx4 s5 sx6 hp2 hp4 hD2 hD4 sx2 hp1 hg1 s1 hD hcj hej r0 r1 r2 r3 hcm hem
      -- what they have in common
      refine ⟨_, rfl, _, rfl, small (by show 2 ≤ 5000; decide), fun l3 nl3 => ?_⟩
      have s7 := same_new (o := HO.lst [.int c, .int e]) nl3
      have hl3 : (upd H6 l3 (HO.lst [.int c, .int e])) l3 = some (HO.lst [.int c, .int e]) := upd_same
      generalize upd H6 l3 (HO.lst [.int c, .int e]) = H7 at s7 hl3 ⊢
      refine ⟨_, rfl, l3, D, _, _, rfl, rfl, hl3, s7 _ _ hD6, by rw [lS, List.length_map]; show 2 + _ ≤ _; omega, fun l4' nl4 => ?_⟩
      have s8 := same_new (o := HO.lst ([.int c, .int e] ++ fs.map V.int)) nl4
      have hl4 : (upd H7 l4' (HO.lst ([.int c, .int e] ++ fs.map V.int))) l4' = some (.lst ((c :: e :: fs).map V.int)) := upd_same
      generalize upd H7 l4' (HO.lst ([.int c, .int e] ++ fs.map V.int)) = H8 at s8 hl4 ⊢
      refine ⟨l4', c :: e :: fs, rfl, SqL.of hl4, ?_⟩
      have s68 := s7.trans s8
      have lz : (names.zip fs).length = names.length := by rw [List.length_zip, lf]; omega
      have fstz : (names.zip fs).map (·.1) = names := List.map_fst_zip (by omega)
      have sndz : (names.zip fs).map (·.2) = fs := List.map_snd_zip (by omega)
      have low := fun (qs : List (Str × Int)) (hq : qs.Perm (names.zip fs)) (asc : (qs.map (·.1)).Pairwise sLt) => low_ok (names := names) (c := c) (d := e) (fs := fs) (ps := qs) (fun q hq' => by
        have : q.1 ∈ (names.zip fs).map (·.1) := List.mem_map.mpr ⟨q, hq.mem_iff.mp hq', rfl⟩
        rw [fstz] at this
        exact this) asc (by rw [hq.length_eq, lz]; exact l4) (fun x => by rw [(hq.map (·.2)).mem_iff, sndz]) he.1 he.2 hc hfb
      generalize gcdL (c :: e :: fs) = G at low ⊢
      refine gn (σ' := [some (.ref p), some (.ref g), some (.ref D), y, some (.int c), some (.int e), some (.int (G : Int)), none, none, none, none]) rfl ?_
      -- the pairs
      have hg8 := s68 _ _ hg6
      have hD8 := s68 _ _ hD6
      generalize hps : names.zip fs = ps0 at low lz fstz sndz
      have tpt : ∀ q ∈ ps0, tupD (tpD q) = true := fun q hq => tpD_tup (hg.N _ (by rw [← fstz]; exact List.mem_map.mpr ⟨q, hq, rfl⟩)).tup
      have tpa : ∀ qs : List (Str × Int), (∀ q ∈ qs, q ∈ ps0) → tupAll (qs.map tpD) = true := fun qs h => tupAll_iff.mpr fun d hd => by
        obtain ⟨q, hq, rfl⟩ := List.mem_map.mp hd
        exact tpt q (h q hq)
      refine ⟨_, rfl, g, _, rfl, SqL.of hg8, fun F nF => ?_⟩
      refine lc_it walk_enum (fun i H' => Same H8 H' ∧ ∃ vs, H' F = some (.lst vs) ∧ DpAll K H' vs ((ps0.take i).map tpD)) ⟨same_new nF, [], upd_same, .nil⟩ (fun i H' _ h => SqL.of (h.1 _ _ hg8)) ?_ ?_
      · rintro i x A1 A2 hi ⟨s1, vs, hF, hvs⟩ ⟨T', x', y', rfl, nT, rfl, hx', hy'⟩
        have s2 := same_new (o := .tup [x', y']) nT
        have hT' : SqT K (upd A1 T' (.tup [x', y'])) T' [x', y'] := SqT.of upd_same
        generalize upd A1 T' (.tup [x', y']) = A2 at s2 hT' ⊢
        obtain rfl : x' = .int (i : Nat) := (Option.some.inj hx').symm
        rw [List.length_map] at hi
        have hni : names[i]? = some names[i] := List.getElem?_eq_getElem hi
        have hy' : (names.map V.str)[i]? = some y' := hy'
        rw [List.getElem?_map, hni] at hy'
        obtain rfl : y' = .str names[i] := (Option.some.inj hy').symm
        have hif : i < fs.length := by omega
        have hfi : fs[i]? = some fs[i] := List.getElem?_eq_getElem hif
        have hzi : ps0[i]? = some (names[i], fs[i]) := by subst hps; exact zip_at hni hfi
        have htk : ps0.take (i + 1) = ps0.take i ++ [(names[i], fs[i])] := by rw [List.take_add_one, hzi]; rfl
        have nx := (hg.N _ (List.getElem_mem hi)).tup
        generalize names[i] = x at hni hy' hzi htk nx hT' s2 nT ⊢
        generalize fs[i] = f at hfi hzi htk
        refine ⟨T', _, rfl, hT', rfl, _, _, rfl, _, _, rfl, rfl, rfl, ?_⟩
        dsimp only [tYes]
        refine iteT ?_
        refine ⟨_, rfl, _, rfl, _, rfl, D, _, _, _, rfl, rfl, SqL.of ((s1.trans s2) _ _ hD8), atI_nat (by rw [List.getElem?_map, hfi]; rfl), small (by show 2 ≤ 5000; decide), fun t nt => ?_⟩
        have s3 := same_new (o := HO.tup [.str x, .int f]) nt
        have ht : (upd A2 t (HO.tup [.str x, .int f])) t = some (HO.tup [.str x, .int f]) := upd_same
        generalize upd A2 t (HO.tup [.str x, .int f]) = A3 at s3 ht ⊢
        have hF3 := (s2.trans s3) _ _ hF
        have tk : TK A3 (upd A3 F (.lst (vs ++ [.ref t]))) := tk_lst hF3
        have vl := dpAll_len hvs
        rw [List.length_map, List.length_take] at vl
        refine ⟨vs, hF3, by rw [lS]; omega, same_at nF (s1.trans (s2.trans s3)), _, upd_same, ?_⟩
        rw [htk, List.map_append]
        exact dpAll_snoc (dpAll_keep ((Same.tk (s2.trans s3)).trans tk) hvs (tpa _ fun q hq => List.mem_of_mem_take hq)) (.tup (tk.sqt (SqT.of ht)) (.cons (.str x) (.cons (.int f) .nil)))
      · rintro A1 ⟨s1, vs, hF, hvs⟩
        rw [List.length_map, ← lz, List.take_length] at hvs
        have vl := dpAll_len hvs
        rw [List.length_map] at vl
        refine ⟨F, vs, ps0.map tpD, rfl, SqL.of hF, hvs, all_alike _, all_sort _, all_deep _, fun ps l5 hp5 hs5 nl5 => ?_⟩
        obtain ⟨qs, qperm, qasc, qdp⟩ := sorted_named hvs (by rw [fstz]; exact hg.nd) hp5 hs5
        generalize ps.map (·.1) = ws at qdp ⊢
        have s2 := same_new (o := HO.lst ws) nl5
        have hl5 : (upd A1 l5 (HO.lst ws)) l5 = some (HO.lst ws) := upd_same
        generalize upd A1 l5 (HO.lst ws) = A2 at s2 hl5 ⊢
        have qdp := dpAll_keep (Same.tk s2) qdp (tpa _ fun q hq => qperm.mem_iff.mp hq)
        obtain ⟨g1, g3, okS, loS⟩ := low qs qperm qasc
        have cdiv : ∀ i, CDivW i (G : Int) := fun i => wide_div (b := 100) (by omega) (by omega) (by decide) (by decide)
        have ql : qs.length ≤ 4 := by rw [qperm.length_eq, lz]; exact l4
        have wl := dpAll_len qdp
        rw [List.length_map] at wl
        refine gn (σ' := [some (.ref p), some (.ref g), some (.ref D), y, some (.int c), some (.int e), some (.int (G : Int)), some (.ref l5), none, none, none]) rfl ?_
        refine ⟨_, rfl, l5, rfl, ⟨_, SqL.of hl5⟩, fun F2 nF2 => ?_⟩
        refine lc_it (walk_list (K := K) (a := l5) (xs := ws)) (fun i H' => Same A2 H' ∧ ∃ vs, H' F2 = some (.lst vs) ∧ DpAll K H' vs ((((qs.take i).filter fun q => decide (q.2 ≠ 0)).map fun q => (q.2 / (G : Int), q.1)).map tD)) ⟨same_new nF2, [], upd_same, .nil⟩ (fun i H' _ h => SqL.of (h.1 _ _ hl5)) ?_ ?_
        · rintro i v A3 A4 hi ⟨s3, vs2, hF2, hvs2⟩ ⟨rfl, hv⟩
          obtain ⟨dd, hd', hdp⟩ := dpAll_at qdp hv
          rw [List.getElem?_map] at hd'
          obtain ⟨⟨x, f⟩, hqi, rfl⟩ := Option.map_eq_some_iff.mp hd'
          have hqm : (x, f) ∈ ps0 := qperm.mem_iff.mp (List.mem_of_getElem? hqi)
          obtain ⟨t0, z1, z2, rfl, ht0, hz1, hz2⟩ := dp_tup2 (dp_keep (Same.tk s3) hdp (tpt _ hqm))
          obtain rfl := dp_str hz1
          obtain rfl := dp_int hz2
          have htk : qs.take (i + 1) = qs.take i ++ [(x, f)] := by rw [List.take_add_one, hqi]; rfl
          have nx : tupD (.str x) = true := (hg.N x (by rw [← fstz]; exact List.mem_map.mpr ⟨_, hqm, rfl⟩)).tup
          have vl2 := dpAll_len hvs2
          have fl : ((qs.take i).filter fun q => decide (q.2 ≠ 0)).length ≤ 4 := Nat.le_trans (List.length_filter_le _ _) (by rw [List.length_take]; omega)
          rw [List.length_map, List.length_map] at vl2
          have ta : tupAll ((((qs.take i).filter fun q => decide (q.2 ≠ 0)).map fun q => (q.2 / (G : Int), q.1)).map tD) = true := tupAll_iff.mpr fun d hd => by
            obtain ⟨t, ht, rfl⟩ := List.mem_map.mp hd
            obtain ⟨q', hq', rfl⟩ := List.mem_map.mp ht
            have := qperm.mem_iff.mp (List.mem_of_mem_take (List.mem_filter.mp hq').1)
            exact tD_tup (hg.N _ (by rw [← fstz]; exact List.mem_map.mpr ⟨_, this, rfl⟩)).tup
          refine ⟨t0, _, rfl, ht0, rfl, _, _, rfl, _, _, rfl, rfl, rfl, ?_⟩
          refine ⟨_, rfl, rfl, _, rfl, ?_⟩
          rw [htk, List.filter_append]
          refine ite2 (fun eq => ?_) (fun eq => ?_)
          · have f0 : f ≠ 0 := fun z => by
              rw [z, decide_eq_true rfl] at eq
              cases eq
            have ef : [(x, f)].filter (fun q : Str × Int => decide (q.2 ≠ 0)) = [(x, f)] := by simp [f0]
            refine ⟨_, rfl, _, rfl, _, _, rfl, rfl, cdiv _, _, rfl, small (by show 2 ≤ 5000; decide), fun t nt => ?_⟩
            have s5 := same_new (o := HO.tup [.int (f / (G : Int)), .str x]) nt
            have ht : (upd A4 t (HO.tup [.int (f / (G : Int)), .str x])) t = some (HO.tup [.int (f / (G : Int)), .str x]) := upd_same
            generalize upd A4 t (HO.tup [.int (f / (G : Int)), .str x]) = A5 at s5 ht ⊢
            have hF5 := s5 _ _ hF2
            have tk : TK A5 (upd A5 F2 (.lst (vs2 ++ [.ref t]))) := tk_lst hF5
            refine ⟨vs2, hF5, by rw [lS]; omega, same_at nF2 (s3.trans s5), _, upd_same, ?_⟩
            rw [ef, List.map_append, List.map_append]
            exact dpAll_snoc (dpAll_keep ((Same.tk s5).trans tk) hvs2 ta) (.tup (tk.sqt (SqT.of ht)) (.cons (.int _) (.cons (.str x) .nil)))
          · have f0 : f = 0 := Classical.byContradiction fun z => eq (by
              have : ¬ V.int f = V.int 0 := fun h => z (V.int.inj h)
              rw [decide_eq_false this]
              rfl)
            have ef : [(x, f)].filter (fun q : Str × Int => decide (q.2 ≠ 0)) = [] := by simp [f0]
            rw [ef, List.append_nil]
            exact ⟨s3, vs2, hF2, hvs2⟩
        · rintro A3 ⟨s3, vs2, hF2, hvs2⟩
          rw [wl, List.take_length] at hvs2
          have ta : tupAll (((qs.filter fun q => decide (q.2 ≠ 0)).map fun q => (q.2 / (G : Int), q.1)).map tD) = true := tupAll_iff.mpr fun d hd => by
            obtain ⟨t, ht, rfl⟩ := List.mem_map.mp hd
            exact tD_tup (hg.N _ (okS.nz t ht).2).tup
          refine ⟨F2, _, rfl, .inl ⟨SqL.of hF2, fun t nt => ?_⟩⟩
          have s4 := same_new (o := HO.tup vs2) nt
          have ht : (upd A3 t (HO.tup vs2)) t = some (HO.tup vs2) := upd_same
          generalize upd A3 t (HO.tup vs2) = A4 at s4 ht ⊢
          refine gn (σ' := [some (.ref p), some (.ref g), some (.ref D), y, some (.int c), some (.int e), some (.int (G : Int)), some (.ref l5), some (.ref t), none, none]) rfl ?_
          refine ⟨_, rfl, _, rfl, _, _, rfl, rfl, cdiv _, _, rfl, _, rfl, _, rfl, _, _, rfl, rfl, cdiv _, small (by show 4 ≤ 5000; decide), fun r nr => ?_⟩
          have s5 := same_new (o := HO.tup [.str "sum", .int (c / (G : Int)), .ref t, .int (e / (G : Int))]) nr
          have hr' : (upd A4 r (HO.tup [.str "sum", .int (c / (G : Int)), .ref t, .int (e / (G : Int))])) r = some (HO.tup [.str "sum", .int (c / (G : Int)), .ref t, .int (e / (G : Int))]) := upd_same
          generalize upd A4 r (HO.tup [.str "sum", .int (c / (G : Int)), .ref t, .int (e / (G : Int))]) = A5 at s5 hr' ⊢
          have sA : Same H6 A5 := s68.trans (s1.trans (s2.trans (s3.trans (s4.trans s5))))
          refine q _ _ _ (sx06.trans (Same.sx sA)) (hp6.same sA) ?_ okS loS
          exact .tup (SqT.of hr') (.cons (.str _) (.cons (.int _) (.cons (.tup (Same.sqt s5 (SqT.of ht)) (dpAll_keep (Same.tk (s4.trans s5)) hvs2 ta)) (.cons (.int _) .nil))))
end
end Sp1

set_option Elab.async false
set_option linter.all false
set_option maxRecDepth 100000
set_option maxHeartbeats 8000000
namespace Pg
open PySem PySem.Spec L2
mutual
/-- calls within -/
def St.nc : St → Nat
  | .ite _ a b => blNc a + blNc b
  | .whl _ b => blNc b
  | .rep _ b => blNc b
  | .call _ => 1
  | _ => 0
def blNc : List St → Nat
  | [] => 0
  | s :: r => s.nc + blNc r
end
theorem blNc_app (a b : List St) : blNc (a ++ b) = blNc a + blNc b := by
  induction a with
  | nil => simp [blNc]
  | cons s r ih => simp only [List.cons_append, blNc, ih]; omega
theorem gcd_one {c : Int} {fs : List Int} : fs.foldl (fun (a : Nat) x => Nat.gcd a x.natAbs) (Nat.gcd (Nat.gcd 0 c.natAbs) (1 : Int).natAbs) = 1 := by
  have h := (fold_dvd fs (Nat.gcd (Nat.gcd 0 c.natAbs) (1 : Int).natAbs)).1
  exact Nat.dvd_one.mp (Nat.dvd_trans h (Nat.gcd_dvd_right _ _))
/-- a name and a number -/
theorem one_ok {names : List Str} {k : Int} {x : Str} (hx : x ∈ names) (hk : k.natAbs ≤ 10 ^ 12) : Sm.Ok names ⟨k, [(1, x)], 1⟩ := by
  have big := great_12
  refine ⟨fun t ht => ?_, List.pairwise_singleton _ _, by show (1 : Int) ≤ 1; decide, by show 1 ≤ 60; decide, gcd_one, fun y hy => ?_⟩
  · rw [List.mem_singleton.mp ht]
    exact ⟨by show (1 : Int) ≠ 0; decide, hx⟩
  · simp only [List.map_cons, List.map_nil, List.mem_cons, List.not_mem_nil, or_false] at hy
    omega
end Pg
namespace Sp1
open PySem PySem.Spec PyProof.Rows L2 Pg
theorem ifJ {tt : TT} {tb te : TS} {D : Ends} {σ : L2.St} {H : Hp} (C : Bool → Hp → Prop) (h1 : ∀ Q : Bool → Hp → Prop, (∀ b H', C b H' → Q b H') → tt σ H Q) (h2 : ∀ H', C true H' → tb D σ H') (h3 : ∀ H', C false H' → te D σ H') : tIfS tt tb te D σ H := by
  refine h1 _ fun b H' c => ?_
  cases b with
  | true => exact iteT (h2 H' c)
  | false => exact iteF (h3 H' c)
theorem seqN {tt : TT} {tb u : TS} {D : Ends} {σ : L2.St} {H : Hp} (C : Bool → Hp → Prop) (h1 : ∀ Q : Bool → Hp → Prop, (∀ b H', C b H' → Q b H') → tt σ H Q) (h2 : ∀ H', C true H' → tb { D with nx := u D } σ H') (h3 : ∀ H', C false H' → u D σ H') : tSeq (tIfS tt tb tNext) u D σ H := ifJ C h1 h2 h3
theorem tNextI {D : Ends} {σ : L2.St} {H : Hp} (h : D.nx σ H) : tNext D σ H := h
/-- procedures' names, in a list beside the pool -/
structure CaP (H : Hp) (c p : Addr) (called : List Str) : Prop where
  at_ : H c = some (.lst (called.map V.str))
  cp : c ≠ p
  N : Names called
  nd : called.Nodup
  l2 : called.length ≤ 2
theorem CaP.sx {H H' : Hp} {c p : Addr} {called : List Str} (h : CaP H c p called) (s : SX p H H') : CaP H' c p called := ⟨s _ _ h.cp h.at_, h.cp, h.N, h.nd, h.l2⟩
theorem eqv_nilL : ∀ ds : List PyData, PyData.eqv (.list ds) (.list []) = ds.isEmpty
  | [] => by simp [PyData.eqv, PyData.eqvAll]
  | x :: r => by simp [PyData.eqv, PyData.eqvAll]
abbrev words10 : List Str := ["sum", "sum", "sum", "sum", "read", "product", "less", "same", "quotient", "remainder"]
theorem words10_ok : ∀ w ∈ words10, w = "sum" ∨ w = "read" ∨ w ∈ pairWords := by decide +kernel
section
variable {P : Program} {w : World} {K : PySem.W.Frag} {mg : Str → Option Value} {base : Heap}
def sp_plexpr (K : PySem.W.Frag) : Sp := fun vs H Q _ => ∃ (p g : Addr) (u d : Int) (names : List Str), vs = [.ref p, .ref g] ∧ Pl H p u d ∧ NmP H g p names ∧ ∀ (v : V) (H' : Hp) (e : Ex), SX p H H' → Pl H' p u d → Dp K H' v e.D → e.Ok names → e.Lo → Q v H'
theorem ok__law_expression (T : PlF K mg) : FnOk P w K mg base CX0 4 T.f__law_expression T.fd__law_expression ["_law_pool_here", "_law_names_here"] (sp_plexpr K) := by
  refine T.D__law_expression.F.ok sc_l_expression (fun vs H Q E h => ?_) (fun cdv A outer s H vs Q E hr h => ?_)
  · obtain ⟨p, g, u, d, names, rfl, _⟩ := h
    rfl
  · obtain ⟨p, g, u, d, names, rfl, hp, hg, q⟩ := h
    have nd := sc_l_expression.nd
    refine ⟨_, (pss_cons (ps_set (i := 2) nd rfl (.inl rfl) (pe_lst (pa_cons pe_str (pa_cons pe_str (pa_cons pe_str (pa_cons pe_str (pa_cons pe_str (pa_cons pe_str (pa_cons pe_str (pa_cons pe_str (pa_cons pe_str (pa_cons pe_str pa_nil))))))))))))
      (pss_cons (ps_set (i := 3) nd rfl (.inl rfl) (pe_ix (r := rIxL K) ix_list (pv 2) (pe_call ((ok__law_draw T).mono (by decide)) hr (by rfl) T.D__law_draw.g T.D__law_draw.kp T.D__law_draw.b .nil pass0 (pa_cons (pv 0) (pa_cons pe_int pa_nil))) (fun _ _ => rfl)))
      (pss_cons (ps_if (pt_cmpR op_eq (pv 3) pe_str (nomark _))
      (pss_one (ps_ret (pe_call ((ok__law_sum T).mono (by decide)) hr (by rfl) T.D__law_sum.g T.D__law_sum.kp T.D__law_sum.b .nil pass0 (pa_cons (pv 0) (pa_cons (pv 1) pa_nil)))))
      pss_nil)
      (pss_cons (ps_if (pt_cmpR op_eq (pv 3) pe_str (nomark _))
      (pss_one (ps_ret (pe_tup (pa_cons pe_str pa_nil))))
      pss_nil)
      (pss_cons (ps_set (i := 4) nd rfl (.inl rfl) (pe_call ((ok__law_sum T).mono (by decide)) hr (by rfl) T.D__law_sum.g T.D__law_sum.kp T.D__law_sum.b .nil pass0 (pa_cons (pv 0) (pa_cons (pv 1) pa_nil))))
      (pss_one (ps_ret (pe_tup (pa_cons (pv 3) (pa_cons (pv 4) (pa_cons (pe_call ((ok__law_sum T).mono (by decide)) hr (by rfl) T.D__law_sum.g T.D__law_sum.kp T.D__law_sum.b .nil pass0 (pa_cons (pv 0) (pa_cons (pv 1) pa_nil))) pa_nil))))))))))), ?_⟩
    refine ⟨small (by show 10 ≤ 5000; decide), fun l nl => ?_⟩
    have s1 := same_new (o := HO.lst [.str "sum", .str "sum", .str "sum", .str "sum", .str "read", .str "product", .str "less", .str "same", .str "quotient", .str "remainder"]) nl
    have hl : (upd H l (HO.lst [.str "sum", .str "sum", .str "sum", .str "sum", .str "read", .str "product", .str "less", .str "same", .str "quotient", .str "remainder"])) l = some (HO.lst [.str "sum", .str "sum", .str "sum", .str "sum", .str "read", .str "product", .str "less", .str "same", .str "quotient", .str "remainder"]) := upd_same
    generalize upd H l (HO.lst [.str "sum", .str "sum", .str "sum", .str "sum", .str "read", .str "product", .str "less", .str "same", .str "quotient", .str "remainder"]) = H1 at s1 hl ⊢
    have hl : H1 l = some (.lst (words10.map V.str)) := hl
    have hlp := hp.ne nl
    refine ⟨_, rfl, _, rfl, p, 10, u, d, rfl, hp.same s1, by decide, by decide, fun r H2 r0 r1 sx2 hp2 => ?_⟩
    obtain ⟨j, rfl⟩ : ∃ j : Nat, r = (j : Int) := ⟨r.toNat, by omega⟩
    have hj : j < words10.length := by
      have : words10.length = 10 := rfl
      omega
    have hx := words10_ok _ (List.getElem_mem hj)
    refine ⟨l, _, _, _, rfl, rfl, SqL.of (sx2 _ _ hlp hl), atI_nat (by rw [List.getElem?_map, List.getElem?_eq_getElem hj]; rfl), ?_⟩
    generalize words10[j] = x at hx ⊢
    have sx02 : SX p H H2 := (Same.sx s1).trans sx2
    have hg2 := hg.sx sx02
    refine gn (σ' := [some (.ref p), some (.ref g), some (.ref l), some (.str x), none]) rfl ?_
    rcases hx with rfl | rfl | hx
    · refine ⟨_, rfl, rfl, _, rfl, iteT ?_⟩
      exact ⟨_, rfl, _, rfl, p, g, u, d, names, rfl, hp2, hg2, fun v H3 s sx3 hp3 hd ok lo => q v H3 (.sum s) (sx02.trans sx3) hp3 hd ok lo⟩
    · refine ⟨_, rfl, rfl, _, rfl, iteF ⟨_, rfl, rfl, _, rfl, iteT ?_⟩⟩
      refine ⟨small (by show 1 ≤ 5000; decide), fun t nt => ?_⟩
      exact q _ _ .read (sx02.trans (Same.sx (same_new nt))) (hp2.new nt) (.tup (SqT.of upd_same) (.cons (.str _) .nil)) trivial trivial
    · have n1 : ¬ V.str x = V.str "sum" := fun z => by
        rw [V.str.inj z] at hx
        exact absurd hx (by decide +kernel)
      have n2 : ¬ V.str x = V.str "read" := fun z => by
        rw [V.str.inj z] at hx
        exact absurd hx (by decide +kernel)
      refine ⟨_, rfl, rfl, _, rfl, ?_⟩
      rw [decide_eq_false n1]
      refine iteF ⟨_, rfl, rfl, _, rfl, ?_⟩
      rw [decide_eq_false n2]
      refine iteF ?_
      refine ⟨_, rfl, _, rfl, p, g, u, d, names, rfl, hp2, hg2, fun v1 H3 a1 sx3 hp3 hd1 ok1 _ => ?_⟩
      refine ⟨_, rfl, _, rfl, _, rfl, _, rfl, p, g, u, d, names, rfl, hp3, hg2.sx sx3, fun v2 H4 a2 sx4 hp4 hd2 ok2 _ => ?_⟩
      refine ⟨small (by show 3 ≤ 5000; decide), fun t nt => ?_⟩
      have s5 := same_new (o := .tup [.str x, v1, v2]) nt
      exact q _ _ (.two x a1 a2) (((sx02.trans sx3).trans sx4).trans (Same.sx s5)) (hp4.new nt) (dp_t3 (SqT.of upd_same) (.str x) (dp_keep ((sx4.tkP hp3).trans (Same.tk s5)) hd1 (Sm.tup hg.N ok1)) (dp_keep (Same.tk s5) hd2 (Sm.tup hg.N ok2))) ⟨hx, ok1, ok2⟩ trivial
def sp_psimple (K : PySem.W.Frag) : Sp := fun vs H Q _ => ∃ (p g c : Addr) (u d : Int) (names called : List Str), vs = [.ref p, .ref g, .ref c] ∧ Pl H p u d ∧ 0 ≤ d ∧ d ≤ 1000 ∧ NmP H g p names ∧ CaP H c p called ∧
  ∀ (v : V) (H' : Hp) (s : Pg.St) (d' : Int), SX p H H' → Pl H' p u d' → 0 ≤ d' → d' + s.nc = d → Dp K H' v s.D → (∀ n, St.Ok names called n s) → s.Lo → s.sz = 1 → Q v H'
theorem ok__law_simple (T : PlF K mg) : FnOk P w K mg base CX0 5 T.f__law_simple T.fd__law_simple ["_law_pool_here", "_law_names_here", "_law_calls"] (sp_psimple K) := by
  refine T.D__law_simple.F.ok sc_l_simple (fun vs H Q E h => ?_) (fun cdv A outer s H vs Q E hr h => ?_)
  · obtain ⟨p, g, c, u, d, names, called, rfl, _⟩ := h
    rfl
  · obtain ⟨p, g, c, u, d, names, called, rfl, hp, d0, d9, hg, hc, q⟩ := h
    have nd := sc_l_simple.nd
    have n1 := hg.l1
    have n4 := hg.l4
    have nl_ : (names.map V.str).length = names.length := List.length_map _
    refine ⟨_, (pss_cons (ps_set (i := 3) nd rfl (.inl rfl) (pe_call ((ok__law_draw T).mono (by decide)) hr (by rfl) T.D__law_draw.g T.D__law_draw.kp T.D__law_draw.b .nil pass0 (pa_cons (pv 0) (pa_cons pe_int pa_nil))))
      (pss_cons (ps_set (i := 4) nd rfl (.inl rfl) (pe_ix (r := rIxL K) ix_list (pv 1) (pe_call ((ok__law_draw T).mono (by decide)) hr (by rfl) T.D__law_draw.g T.D__law_draw.kp T.D__law_draw.b .nil pass0 (pa_cons (pv 0) (pa_cons (pe_callB call_len_seq (by rfl) T.m_len PySem.boot_len (pa_cons (pv 1) pa_nil)) pa_nil))) (fun _ _ => rfl)))
      (pss_cons (ps_set (i := 5) nd rfl (.inl rfl) (pe_ix (r := rIxL K) ix_list (pv 1) (pe_call ((ok__law_draw T).mono (by decide)) hr (by rfl) T.D__law_draw.g T.D__law_draw.kp T.D__law_draw.b .nil pass0 (pa_cons (pv 0) (pa_cons (pe_callB call_len_seq (by rfl) T.m_len PySem.boot_len (pa_cons (pv 1) pa_nil)) pa_nil))) (fun _ _ => rfl)))
      (pss_cons (ps_if (pt_cmpR op_lt (pv 3) pe_int (nomark _))
      (pss_one (ps_ret (pe_tup (pa_cons pe_str (pa_cons (pv 4) (pa_cons (pe_tup (pa_cons pe_str (pa_cons (pe_op op_sub (pe_call ((ok__law_draw T).mono (by decide)) hr (by rfl) T.D__law_draw.g T.D__law_draw.kp T.D__law_draw.b .nil pass0 (pa_cons (pv 0) (pa_cons pe_int pa_nil))) pe_int) (pa_cons (pe_tup (pa_cons (pe_tup (pa_cons pe_int (pa_cons (pv 4) pa_nil))) pa_nil)) (pa_cons pe_int pa_nil))))) pa_nil))))))
      pss_nil)
      (pss_cons (ps_if (pt_cmpR op_eq (pv 3) pe_int (nomark _))
      (pss_one (ps_ret (pe_tup (pa_cons pe_str (pa_cons (pv 4) (pa_cons (pe_tup (pa_cons pe_str (pa_cons pe_int (pa_cons (pe_tup (pa_cons (pe_tup (pa_cons pe_int (pa_cons (pv 5) pa_nil))) pa_nil)) (pa_cons pe_int pa_nil))))) pa_nil))))))
      pss_nil)
      (pss_cons (ps_if (PW.pt (pw_and (pt_cmpR op_eq (pv 3) pe_int (nomark _)) (pw_and1 (pt_cmpR op_ne (pv 4) (pv 5) (nomark _)))))
      (pss_one (ps_ret (pe_tup (pa_cons pe_str (pa_cons (pv 4) (pa_cons (pv 5) pa_nil))))))
      pss_nil)
      (pss_cons (ps_if (pt_cmpR op_eq (pv 3) pe_int (nomark _))
      (pss_one (ps_ret (pe_tup (pa_cons pe_str (pa_cons (pe_call ((ok__law_expression T).mono (by decide)) hr (by rfl) T.D__law_expression.g T.D__law_expression.kp T.D__law_expression.b .nil pass0 (pa_cons (pv 0) (pa_cons (pv 1) pa_nil))) pa_nil)))))
      pss_nil)
      (pss_cons (ps_if (PW.pt (pw_and (pt_cmpR op_eq (pv 3) pe_int (nomark _)) (pw_and (pt_cmpR (op_neD hr.units) (pv 2) (pe_lst pa_nil) (nomark _)) (pw_and1 (pt_cmpR op_gt (pe_ix (r := rIxL K) ix_list (pv 0) pe_int (fun _ _ => rfl)) pe_int (nomark _))))))
      (pss_cons (ps_asg (pe_op op_sub (pe_ix (r := rIxL K) ix_list (pv 0) pe_int (fun _ _ => rfl)) pe_int) (pg_sub (pv 0) pe_int set_list))
        (pss_one (ps_ret (pe_tup (pa_cons pe_str (pa_cons (pe_ix (r := rIxL K) ix_list (pv 2) (pe_call ((ok__law_draw T).mono (by decide)) hr (by rfl) T.D__law_draw.g T.D__law_draw.kp T.D__law_draw.b .nil pass0 (pa_cons (pv 0) (pa_cons (pe_callB call_len_seq (by rfl) T.m_len PySem.boot_len (pa_cons (pv 2) pa_nil)) pa_nil))) (fun _ _ => rfl)) pa_nil))))))
      pss_nil)
      (pss_one (ps_ret (pe_tup (pa_cons pe_str (pa_cons (pv 4) (pa_cons (pe_call ((ok__law_expression T).mono (by decide)) hr (by rfl) T.D__law_expression.g T.D__law_expression.kp T.D__law_expression.b .nil pass0 (pa_cons (pv 0) (pa_cons (pv 1) pa_nil))) pa_nil)))))))))))))), ?_⟩
    refine ⟨_, rfl, p, 9, u, d, rfl, hp, by decide, by decide, fun r H1 r0 r1 sx1 hp1 => ?_⟩
    have hg1 := hg.sx sx1
    refine gn (σ' := [some (.ref p), some (.ref g), some (.ref c), some (.int r), none, none]) rfl ?_
    refine ⟨_, rfl, _, rfl, _, rfl, g, _, rfl, .inl (SqL.of hg1.at_), p, _, u, d, rfl, hp1, by rw [nl_]; omega, by rw [nl_]; omega, fun i1 H2 a0 a1 sx2 hp2 => ?_⟩
    rw [nl_] at a1
    obtain ⟨i, rfl⟩ : ∃ i : Nat, i1 = (i : Int) := ⟨i1.toNat, by omega⟩
    have hi : i < names.length := by omega
    have hg2 := hg1.sx sx2
    refine ⟨g, _, _, _, rfl, rfl, SqL.of hg2.at_, atI_nat (by rw [List.getElem?_map, List.getElem?_eq_getElem hi]; rfl), ?_⟩
    have hx := List.getElem_mem hi
    generalize names[i] = x at hx ⊢
    refine gn (σ' := [some (.ref p), some (.ref g), some (.ref c), some (.int r), some (.str x), none]) rfl ?_
    refine ⟨_, rfl, _, rfl, _, rfl, g, _, rfl, .inl (SqL.of hg2.at_), p, _, u, d, rfl, hp2, by rw [nl_]; omega, by rw [nl_]; omega, fun j1 H3 b0 b1 sx3 hp3 => ?_⟩
    rw [nl_] at b1
    obtain ⟨j, rfl⟩ : ∃ j : Nat, j1 = (j : Int) := ⟨j1.toNat, by omega⟩
    have hj : j < names.length := by omega
    have hg3 := hg2.sx sx3
    refine ⟨g, _, _, _, rfl, rfl, SqL.of hg3.at_, atI_nat (by rw [List.getElem?_map, List.getElem?_eq_getElem hj]; rfl), ?_⟩
    have hy := List.getElem_mem hj
    generalize names[j] = y at hy ⊢
    refine gn (σ' := [some (.ref p), some (.ref g), some (.ref c), some (.int r), some (.str x), some (.str y)]) rfl ?_
    have sx03 : SX p H H3 := sx1.trans (sx2.trans sx3)
    have hc3 := hc.sx sx03
    clear sx1 sx2 sx3 hp1 hp2 hg1 hg2 a0 a1 b0 b1 hi hj
    -- a set of a sum over one name
    have setOne : ∀ (k : Int) (z : Str) (H4 H5 H6 H7 H8 : Hp) (t1 t2 t3 t4 : Addr), k.natAbs ≤ 10 ^ 12 → z ∈ names → SX p H H4 → Pl H4 p u d → Same H4 H5 → H5 t1 = some (.tup [.int 1, .str z]) → Same H5 H6 → H6 t2 = some (.tup [.ref t1]) → Same H6 H7 → H7 t3 = some (.tup [.str "sum", .int k, .ref t2, .int 1]) → Same H7 H8 → H8 t4 = some (.tup [.str "set", .str x, .ref t3]) → Q (.ref t4) H8 := by
      intro k z H4 H5 H6 H7 H8 t1 t2 t3 t4 hk hz sx4 hp4 s5 h5 s6 h6 s7 h7 s8 h8
      have s48 := (s5.trans s6).trans (s7.trans s8)
      refine q _ _ (.set x (.sum ⟨k, [(1, z)], 1⟩)) d (sx4.trans (Same.sx s48)) (hp4.same s48) d0 (by simp [St.nc]) ?_ (fun n => ⟨hx, one_ok hz hk⟩) (show Sm.Lo ⟨k, [(1, z)], 1⟩ from ⟨hk, by show (1 : Int) ≤ 3; decide, fun t ht => by rw [List.mem_singleton.mp ht]; show (1 : Int).natAbs ≤ 1009; decide⟩) rfl
      exact dp_t3 (SqT.of h8) (.str _) (.str x) (.tup (SqT.of (s8 _ _ h7)) (.cons (.str _) (.cons (.int k) (.cons (.tup (SqT.of ((s7.trans s8) _ _ h6)) (.cons (dp_t2 (SqT.of ((s6.trans (s7.trans s8)) _ _ h5)) (.int 1) (.str z)) .nil)) (.cons (.int 1) .nil)))))
    have sm : ∀ n, n ≤ 5000 → n ≤ sizeLine := fun n h => small h
    refine ⟨_, rfl, _, _, rfl, rfl, _, rfl, ite2 (fun e => ?_) (fun e => ?_)⟩
    · refine ⟨_, rfl, _, rfl, p, 5, u, d, rfl, hp3, by decide, by decide, fun r2 H4 a0 a1 sx4 hp4 => ?_⟩
      refine ⟨_, _, rfl, rfl, ?_⟩
      refine ⟨_, rfl, small (by show 2 ≤ 5000; decide), fun t1 m1 => ?_⟩
      have s5 := same_new (o := HO.tup [.int 1, .str x]) m1
      have h5 : (upd H4 t1 (HO.tup [.int 1, .str x])) t1 = some (HO.tup [.int 1, .str x]) := upd_same
      generalize upd H4 t1 (HO.tup [.int 1, .str x]) = H5 at s5 h5 ⊢
      refine ⟨small (by show 1 ≤ 5000; decide), fun t2 m2 => ?_⟩
      have s6 := same_new (o := HO.tup [.ref t1]) m2
      have h6 : (upd H5 t2 (HO.tup [.ref t1])) t2 = some (HO.tup [.ref t1]) := upd_same
      generalize upd H5 t2 (HO.tup [.ref t1]) = H6 at s6 h6 ⊢
      refine ⟨small (by show 4 ≤ 5000; decide), fun t3 m3 => ?_⟩
      have s7 := same_new (o := HO.tup [.str "sum", .int (r2 - 2), .ref t2, .int 1]) m3
      have h7 : (upd H6 t3 (HO.tup [.str "sum", .int (r2 - 2), .ref t2, .int 1])) t3 = some (HO.tup [.str "sum", .int (r2 - 2), .ref t2, .int 1]) := upd_same
      generalize upd H6 t3 (HO.tup [.str "sum", .int (r2 - 2), .ref t2, .int 1]) = H7 at s7 h7 ⊢
      refine ⟨small (by show 3 ≤ 5000; decide), fun t4 m4 => ?_⟩
      have s8 := same_new (o := HO.tup [.str "set", .str x, .ref t3]) m4
      have h8 : (upd H7 t4 (HO.tup [.str "set", .str x, .ref t3])) t4 = some (HO.tup [.str "set", .str x, .ref t3]) := upd_same
      generalize upd H7 t4 (HO.tup [.str "set", .str x, .ref t3]) = H8 at s8 h8 ⊢
      exact setOne (r2 - 2) x H4 H5 H6 H7 H8 t1 t2 t3 t4 (by omega) hx (sx03.trans sx4) hp4 s5 h5 s6 h6 s7 h7 s8 h8
    refine ⟨_, rfl, rfl, _, rfl, ite2 (fun e => ?_) (fun e => ?_)⟩
    · refine ⟨_, rfl, _, rfl, small (by show 2 ≤ 5000; decide), fun t1 m1 => ?_⟩
      have s5 := same_new (o := HO.tup [.int 1, .str y]) m1
      have h5 : (upd H3 t1 (HO.tup [.int 1, .str y])) t1 = some (HO.tup [.int 1, .str y]) := upd_same
      generalize upd H3 t1 (HO.tup [.int 1, .str y]) = H5 at s5 h5 ⊢
      refine ⟨small (by show 1 ≤ 5000; decide), fun t2 m2 => ?_⟩
      have s6 := same_new (o := HO.tup [.ref t1]) m2
      have h6 : (upd H5 t2 (HO.tup [.ref t1])) t2 = some (HO.tup [.ref t1]) := upd_same
      generalize upd H5 t2 (HO.tup [.ref t1]) = H6 at s6 h6 ⊢
      refine ⟨small (by show 4 ≤ 5000; decide), fun t3 m3 => ?_⟩
      have s7 := same_new (o := HO.tup [.str "sum", .int 0, .ref t2, .int 1]) m3
      have h7 : (upd H6 t3 (HO.tup [.str "sum", .int 0, .ref t2, .int 1])) t3 = some (HO.tup [.str "sum", .int 0, .ref t2, .int 1]) := upd_same
      generalize upd H6 t3 (HO.tup [.str "sum", .int 0, .ref t2, .int 1]) = H7 at s7 h7 ⊢
      refine ⟨small (by show 3 ≤ 5000; decide), fun t4 m4 => ?_⟩
      have s8 := same_new (o := HO.tup [.str "set", .str x, .ref t3]) m4
      have h8 : (upd H7 t4 (HO.tup [.str "set", .str x, .ref t3])) t4 = some (HO.tup [.str "set", .str x, .ref t3]) := upd_same
      generalize upd H7 t4 (HO.tup [.str "set", .str x, .ref t3]) = H8 at s8 h8 ⊢
      exact setOne 0 y H3 H5 H6 H7 H8 t1 t2 t3 t4 (by decide) hy sx03 hp3 s5 h5 s6 h6 s7 h7 s8 h8
    refine tNextI ?_
    dsimp only
    refine seqN (fun b H' => (b = true → x ≠ y) ∧ H3 = H') (fun Q q => ?_) (fun H4 hh => ?_) (fun H4 hh => ?_)
    · refine ⟨_, rfl, rfl, _, rfl, ite2 (fun e => ?_) (fun e => q _ _ ⟨fun z => (by cases z), rfl⟩)⟩
      refine ⟨_, rfl, _, rfl, rfl, _, rfl, q _ _ ⟨fun z e2 => ?_, rfl⟩⟩
      rw [e2, decide_eq_true rfl] at z
      cases z
    · obtain ⟨hne, rfl⟩ := hh
      refine ⟨_, rfl, _, rfl, small (by show 3 ≤ 5000; decide), fun t nt => ?_⟩
      have s5 := same_new (o := .tup [.str "swap", .str x, .str y]) nt
      exact q _ _ (.swap x y) d (sx03.trans (Same.sx s5)) (hp3.new nt) d0 (by simp [St.nc]) (dp_t3 (SqT.of upd_same) (.str _) (.str _) (.str _)) (fun n => ⟨hx, hy, fun z => hne rfl z.symm⟩) trivial rfl
    obtain ⟨_, rfl⟩ := hh
    refine ⟨_, rfl, rfl, _, rfl, ite2 (fun e => ?_) (fun e => ?_)⟩
    · refine ⟨_, rfl, _, rfl, p, g, u, d, names, rfl, hp3, hg3, fun v H5 ex sx5 hp5 hd ok lo => ?_⟩
      refine ⟨small (by show 2 ≤ 5000; decide), fun t nt => ?_⟩
      have s6 := same_new (o := .tup [.str "print", v]) nt
      exact q _ _ (.print ex) d ((sx03.trans sx5).trans (Same.sx s6)) (hp5.new nt) d0 (by simp [St.nc]) (dp_t2 (SqT.of upd_same) (.str _) (dp_keep (Same.tk s6) hd (Ex.tup hg.N ok))) (fun n => ok) lo rfl
    refine tNextI ?_
    dsimp only
    refine seqN (fun b H' => (b = true → called ≠ [] ∧ 0 < d) ∧ Same H3 H') (fun Q q => ?_) (fun H4 hh => ?_) (fun H4 hh => ?_)
    · refine ⟨_, rfl, rfl, _, rfl, ite2 (fun e => ?_) (fun e => q _ _ ⟨fun z => (by cases z), Same.refl _⟩)⟩
      refine ⟨_, rfl, Nat.zero_le _, fun l nl => ?_⟩
      have s4 := same_new (o := HO.lst []) nl
      have hl : (upd H3 l (HO.lst [])) l = some (HO.lst []) := upd_same
      generalize upd H3 l (HO.lst []) = H4 at s4 hl ⊢
      have shc : SeqAt.shaped (.list (called.map sD)) = true := shaped_strs fun x hx => (hc.N x hx).tup
      obtain ⟨a, b, hpa, _⟩ := hp3.same s4
      refine ⟨_, .list [], .lst (SqL.of (s4 _ _ hc3.at_)) (dpAll_strs called), .lst (SqL.of hl) .nil, shc, by decide +kernel, _, rfl, ?_⟩
      rw [eqv_nilL]
      refine ite2 (fun e2 => ?_) (fun e2 => q _ _ ⟨fun z => (by cases z), s4⟩)
      refine ⟨_, rfl, p, _, _, _, rfl, rfl, SqL.of hpa, atI_nat (j := 3) rfl, _, _, rfl, rfl, _, rfl, q _ _ ⟨fun z => ⟨fun ec => ?_, of_decide_eq_true z⟩, s4⟩⟩
      rw [ec] at e2
      cases e2
    · obtain ⟨hcd, s4⟩ := hh
      obtain ⟨cne, dp⟩ := hcd rfl
      have hp4 := hp3.same s4
      have hc4 := hc3.sx (Same.sx s4)
      obtain ⟨a, b, hpa, ha, hb0, hb1⟩ := hp4
      refine ⟨_, rfl, p, _, _, _, rfl, rfl, SqL.of hpa, atI_nat (j := 3) rfl, _, _, rfl, rfl, ?_⟩
      refine ⟨_, rfl, p, _, _, 3, rfl, rfl, hpa, rfl, ?_⟩
      have sx5 : SX p H4 (upd H4 p (HO.lst ([V.int a, V.int b, V.int u, V.int d].set 3 ((fun i j => V.int (i - j)) d 1)))) := sx_put
      have hp5 : Pl (upd H4 p (HO.lst ([V.int a, V.int b, V.int u, V.int d].set 3 ((fun i j => V.int (i - j)) d 1)))) p u (d - 1) := ⟨a, b, upd_same, ha, hb0, hb1⟩
      have hc5 := hc4.sx sx5
      generalize upd H4 p (HO.lst ([V.int a, V.int b, V.int u, V.int d].set 3 ((fun i j => V.int (i - j)) d 1))) = H5 at sx5 hp5 hc5 ⊢
      have cl : 0 < called.length := List.length_pos_iff.mpr cne
      have c2 := hc.l2
      refine ⟨_, rfl, _, rfl, _, rfl, c, _, rfl, .inl (SqL.of hc5.at_), p, _, u, d - 1, rfl, hp5, by rw [List.length_map]; omega, by rw [List.length_map]; omega, fun j1 H6 a0 a1 sx6 hp6 => ?_⟩
      rw [List.length_map] at a1
      obtain ⟨j, rfl⟩ : ∃ j : Nat, j1 = (j : Int) := ⟨j1.toNat, by omega⟩
      have hj : j < called.length := by omega
      refine ⟨c, _, _, _, rfl, rfl, SqL.of (hc5.sx sx6).at_, atI_nat (by rw [List.getElem?_map, List.getElem?_eq_getElem hj]; rfl), small (by show 2 ≤ 5000; decide), fun t nt => ?_⟩
      have s7 := same_new (o := .tup [.str "call", .str called[j]]) nt
      exact q _ _ (.call called[j]) (d - 1) (sx03.trans ((Same.sx s4).trans (sx5.trans (sx6.trans (Same.sx s7))))) (hp6.same s7) (by omega) (by simp only [St.nc]; omega) (dp_t2 (SqT.of upd_same) (.str _) (.str _)) (fun n => List.getElem_mem hj) trivial rfl
    obtain ⟨_, s4⟩ := hh
    have hp4 := hp3.same s4
    have hg4 := hg3.sx (Same.sx s4)
    refine ⟨_, rfl, _, rfl, _, rfl, p, g, u, d, names, rfl, hp4, hg4, fun v H5 ex sx5 hp5 hd ok lo => ?_⟩
    refine ⟨small (by show 3 ≤ 5000; decide), fun t nt => ?_⟩
    have s6 := same_new (o := .tup [.str "set", .str x, v]) nt
    exact q _ _ (.set x ex) d (((sx03.trans (Same.sx s4)).trans sx5).trans (Same.sx s6)) (hp5.new nt) d0 (by simp [St.nc]) (dp_t3 (SqT.of upd_same) (.str _) (.str x) (dp_keep (Same.tk s6) hd (Ex.tup hg.N ok))) (fun n => ⟨hx, ok⟩) lo rfl
end
end Sp1

set_option Elab.async false
set_option linter.all false
set_option maxRecDepth 100000
set_option maxHeartbeats 8000000
namespace Sp1
open PySem PySem.Spec PyProof.Rows L2 Pg
section
variable {P : Program} {w : World} {K : PySem.W.Frag} {mg : Str → Option Value} {base : Heap}
def sp_pstat (K : PySem.W.Frag) (n : Nat) : Sp := fun vs H Q _ => ∃ (p g c : Addr) (u d : Int) (names called : List Str), vs = [.ref p, .ref g, .ref c, .int (n : Int)] ∧ Pl H p u d ∧ 1 ≤ u ∧ u ≤ 1000 ∧ 0 ≤ d ∧ d ≤ 1000 ∧ NmP H g p names ∧ CaP H c p called ∧
  ∀ (v : V) (H' : Hp) (s : Pg.St) (u' d' : Int), SX p H H' → Pl H' p u' d' → 0 ≤ u' → u' + s.sz ≤ u → 0 ≤ d' → d' + s.nc = d → Dp K H' v s.D → St.Ok names called n s → s.Lo → Q v H'
def sp_pblk (K : PySem.W.Frag) : Nat → Sp
  | 0 => fun _ _ _ _ => False
  | n + 1 => fun vs H Q _ => ∃ (p g c : Addr) (u d : Int) (most : Nat) (names called : List Str), vs = [.ref p, .ref g, .ref c, .int (n : Int), .int (most : Int)] ∧ most ≤ 10 ∧ Pl H p u d ∧ 0 ≤ u ∧ u ≤ 1000 ∧ 0 ≤ d ∧ d ≤ 1000 ∧ NmP H g p names ∧ CaP H c p called ∧
    ∀ (v : V) (H' : Hp) (b : List Pg.St) (u' d' : Int), SX p H H' → Pl H' p u' d' → 0 ≤ u' → u' + blSz b ≤ u → 0 ≤ d' → d' + blNc b = d → Dp K H' v (bD b) → blOk names called n b → blLo b → Q v H'
theorem ok__law_statement (T : PlF K mg) {n : Nat} (hB : FnOk P w K mg base CX0 (2 * n + 5) T.f__law_block T.fd__law_block ["_law_pool_here", "_law_names_here", "_law_calls", "_law_depth", "_law_most"] (sp_pblk K n)) :
    FnOk P w K mg base CX0 (2 * n + 6) T.f__law_statement T.fd__law_statement ["_law_pool_here", "_law_names_here", "_law_calls", "_law_depth"] (sp_pstat K n) := by
  refine T.D__law_statement.F.ok sc_l_statement (fun vs H Q E h => ?_) (fun cdv A outer s H vs Q E hr h => ?_)
  · obtain ⟨p, g, c, u, d, names, called, rfl, _⟩ := h
    rfl
  · obtain ⟨p, g, c, u, d, names, called, rfl, hp, u1, u9, d0, d9, hg, hc, q⟩ := h
    have nd := sc_l_statement.nd
    refine ⟨_, (pss_cons (ps_set (i := 4) nd rfl (.inl rfl) (pe_call ((ok__law_draw T).mono (by omega)) hr (by rfl) T.D__law_draw.g T.D__law_draw.kp T.D__law_draw.b .nil pass0 (pa_cons (pv 0) (pa_cons pe_int pa_nil))))
      (pss_cons (ps_if (PW.pt (pw_or (pt_cmpR op_gt (pv 4) pe_int (nomark _)) (pw_or (pt_cmpR op_eq (pv 3) pe_int (nomark _)) (pw_or1 (pt_cmpR op_lt (pe_ix (r := rIxL K) ix_list (pv 0) pe_int (fun _ _ => rfl)) pe_int (nomark _))))))
      (pss_cons (ps_asg (pe_op op_sub (pe_ix (r := rIxL K) ix_list (pv 0) pe_int (fun _ _ => rfl)) pe_int) (pg_sub (pv 0) pe_int set_list))
        (pss_one (ps_ret (pe_call ((ok__law_simple T).mono (by omega)) hr (by rfl) T.D__law_simple.g T.D__law_simple.kp T.D__law_simple.b .nil pass0 (pa_cons (pv 0) (pa_cons (pv 1) (pa_cons (pv 2) pa_nil)))))))
      pss_nil)
      (pss_cons (ps_asg (pe_op op_sub (pe_ix (r := rIxL K) ix_list (pv 0) pe_int (fun _ _ => rfl)) pe_int) (pg_sub (pv 0) pe_int set_list))
      (pss_cons (ps_set (i := 5) nd rfl (.inl rfl) (pe_call ((ok__law_expression T).mono (by omega)) hr (by rfl) T.D__law_expression.g T.D__law_expression.kp T.D__law_expression.b .nil pass0 (pa_cons (pv 0) (pa_cons (pv 1) pa_nil))))
      (pss_cons (ps_set (i := 6) nd rfl (.inl rfl) (pe_call (hB.mono (by omega)) hr (by rfl) T.D__law_block.g T.D__law_block.kp T.D__law_block.b .nil pass0 (pa_cons (pv 0) (pa_cons (pv 1) (pa_cons (pv 2) (pa_cons (pe_op op_sub (pv 3) pe_int) (pa_cons pe_int pa_nil)))))))
      (pss_cons (ps_if (pt_cmpR op_eq (pv 4) pe_int (nomark _))
      (pss_one (ps_ret (pe_tup (pa_cons pe_str (pa_cons (pv 5) (pa_cons (pv 6) (pa_cons (pe_call (hB.mono (by omega)) hr (by rfl) T.D__law_block.g T.D__law_block.kp T.D__law_block.b .nil pass0 (pa_cons (pv 0) (pa_cons (pv 1) (pa_cons (pv 2) (pa_cons (pe_op op_sub (pv 3) pe_int) (pa_cons pe_int pa_nil)))))) pa_nil)))))))
      pss_nil)
      (pss_one (ps_ret (pe_tup (pa_cons (pe_ix (r := rIxL K) ix_list (pe_lst (pa_cons pe_str (pa_cons pe_str (pa_cons pe_str pa_nil)))) (pv 4) (fun _ _ => rfl)) (pa_cons (pv 5) (pa_cons (pv 6) pa_nil)))))))))))), ?_⟩
    refine ⟨_, rfl, p, 8, u, d, rfl, hp, by decide, by decide, fun r H1 r0 r1 sx1 hp1 => ?_⟩
    have hg1 := hg.sx sx1
    have hc1 := hc.sx sx1
    refine gn (σ' := [some (.ref p), some (.ref g), some (.ref c), some (.int (n : Int)), some (.int r), none, none]) rfl ?_
    obtain ⟨a, b, hpa, ha, hb0, hb1⟩ := id hp1
    dsimp only
    refine seqN (fun b H' => (b = false → r ≤ 2 ∧ n ≠ 0 ∧ 4 ≤ u) ∧ H1 = H') (fun Q q => ?_) (fun H2 hh => ?_) (fun H2 hh => ?_)
    · refine ⟨_, rfl, _, _, rfl, rfl, _, rfl, ite2 (fun e => q _ _ ⟨fun z => (by cases z), rfl⟩) (fun e => ?_)⟩
      refine ⟨_, rfl, rfl, _, rfl, ite2 (fun e2 => q _ _ ⟨fun z => (by cases z), rfl⟩) (fun e2 => ?_)⟩
      refine ⟨_, rfl, p, _, _, _, rfl, rfl, SqL.of hpa, atI_nat (j := 2) rfl, _, _, rfl, rfl, _, rfl, q _ _ ⟨fun z => ⟨?_, fun hn => e2 (decide_eq_true (by rw [hn]; rfl)), ?_⟩, rfl⟩⟩
      · have : ¬ 2 < r := fun h => e (decide_eq_true h)
        omega
      · have := of_decide_eq_false z
        omega
    · obtain ⟨_, rfl⟩ := hh
      refine ⟨_, rfl, p, _, _, _, rfl, rfl, SqL.of hpa, atI_nat (j := 2) rfl, _, _, rfl, rfl, ?_⟩
      refine ⟨_, rfl, p, _, _, 2, rfl, rfl, hpa, rfl, ?_⟩
      have sx2 : SX p H1 (upd H1 p (HO.lst ([V.int a, V.int b, V.int u, V.int d].set 2 ((fun i j => V.int (i - j)) u 1)))) := sx_put
      have hp2 : Pl (upd H1 p (HO.lst ([V.int a, V.int b, V.int u, V.int d].set 2 ((fun i j => V.int (i - j)) u 1)))) p (u - 1) d := ⟨a, b, upd_same, ha, hb0, hb1⟩
      generalize upd H1 p (HO.lst ([V.int a, V.int b, V.int u, V.int d].set 2 ((fun i j => V.int (i - j)) u 1))) = H2 at sx2 hp2 ⊢
      refine ⟨_, rfl, _, rfl, _, rfl, p, g, c, u - 1, d, names, called, rfl, hp2, d0, d9, hg1.sx sx2, hc1.sx sx2, fun v H3 s d' sx3 hp3 d0' dn hd ok lo sz => ?_⟩
      exact q v H3 s (u - 1) d' (sx1.trans (sx2.trans sx3)) hp3 (by omega) (by rw [sz]; omega) d0' dn hd (ok n) lo
    obtain ⟨hh, rfl⟩ := hh
    obtain ⟨hr2, hn, hu4⟩ := hh rfl
    obtain ⟨m, rfl⟩ : ∃ m, n = m + 1 := ⟨n - 1, by omega⟩
    refine ⟨_, rfl, p, _, _, _, rfl, rfl, SqL.of hpa, atI_nat (j := 2) rfl, _, _, rfl, rfl, ?_⟩
    refine ⟨_, rfl, p, _, _, 2, rfl, rfl, hpa, rfl, ?_⟩
    have sx2 : SX p H1 (upd H1 p (HO.lst ([V.int a, V.int b, V.int u, V.int d].set 2 ((fun i j => V.int (i - j)) u 3)))) := sx_put
    have hp2 : Pl (upd H1 p (HO.lst ([V.int a, V.int b, V.int u, V.int d].set 2 ((fun i j => V.int (i - j)) u 3)))) p (u - 3) d := ⟨a, b, upd_same, ha, hb0, hb1⟩
    generalize upd H1 p (HO.lst ([V.int a, V.int b, V.int u, V.int d].set 2 ((fun i j => V.int (i - j)) u 3))) = H2 at sx2 hp2 ⊢
    have sx02 := sx1.trans sx2
    refine ⟨_, rfl, _, rfl, p, g, u - 3, d, names, rfl, hp2, hg.sx sx02, fun v1 H3 e sx3 hp3 hd1 ok1 lo1 => ?_⟩
    have sx03 := sx02.trans sx3
    refine gn (σ' := [some (.ref p), some (.ref g), some (.ref c), some (.int ((m + 1 : Nat) : Int)), some (.int r), some v1, none]) rfl ?_
    have em : (((m + 1 : Nat) : Int) - 1) = (m : Int) := by omega
    have ev : ([V.ref p, V.ref g, V.ref c, V.int (((m + 1 : Nat) : Int) - 1), V.int 3] : List V) = [V.ref p, V.ref g, V.ref c, V.int (m : Int), V.int ((3 : Nat) : Int)] := by rw [em]; rfl
    refine ⟨_, rfl, _, rfl, _, rfl, _, rfl, _, _, rfl, rfl, ?_⟩
    refine ⟨p, g, c, u - 3, d, 3, names, called, ev, by decide, hp3, by omega, by omega, d0, d9, hg.sx sx03, hc.sx sx03, fun v2 H4 b1 u4 d4 sx4 hp4 u40 hu4' d40 hd4 hd2 ok2 lo2 => ?_⟩
    have sx04 := sx03.trans sx4
    refine gn (σ' := [some (.ref p), some (.ref g), some (.ref c), some (.int ((m + 1 : Nat) : Int)), some (.int r), some v1, some v2]) rfl ?_
    have bt := fun {b : List Pg.St} (h : blOk names called m b) => bD_tup hg.N hc.N h
    have k1 := dp_keep (sx4.tkP hp3) hd1 (Ex.tup hg.N ok1)
    refine ⟨_, rfl, rfl, _, rfl, ite2 (fun e0 => ?_) (fun e0 => ?_)⟩
    · refine ⟨_, rfl, _, rfl, _, rfl, _, rfl, _, rfl, _, rfl, _, _, rfl, rfl, ?_⟩
      refine ⟨p, g, c, u4, d4, 3, names, called, ev, by decide, hp4, u40, by omega, d40, by omega, hg.sx sx04, hc.sx sx04, fun v3 H5 b2 u5 d5 sx5 hp5 u50 hu5 d50 hd5 hd3 ok3 lo3 => ?_⟩
      refine ⟨small (by show 4 ≤ 5000; decide), fun t nt => ?_⟩
      have s6 := same_new (o := .tup [.str "if", v1, v2, v3]) nt
      refine q _ _ (.ite e b1 b2) u5 d5 ((sx04.trans sx5).trans (Same.sx s6)) (hp5.same s6) u50 (by simp only [St.sz]; omega) d50 (by simp only [St.nc]; omega) ?_ ⟨ok1, m, rfl, ok2, ok3⟩ ⟨lo1, lo2, lo3⟩
      have tk := (sx5.tkP hp4).trans (Same.tk s6)
      simp only [St.D, blD_map]
      exact .tup (SqT.of upd_same) (.cons (.str _) (.cons (dp_keep tk k1 (Ex.tup hg.N ok1)) (.cons (dp_keep tk hd2 (bt ok2)) (.cons (dp_keep (Same.tk s6) hd3 (bt ok3)) .nil))))
    · have hr0 : r ≠ 0 := fun z => e0 (by rw [z]; exact decide_eq_true rfl)
      have hr : r = 1 ∨ r = 2 := by omega
      refine tNextI ?_
      refine ⟨small (by show 3 ≤ 5000; decide), fun l nl => ?_⟩
      have s5 := same_new (o := HO.lst [.str "", .str "while", .str "repeat"]) nl
      have hl : (upd H4 l (HO.lst [.str "", .str "while", .str "repeat"])) l = some (HO.lst [.str "", .str "while", .str "repeat"]) := upd_same
      generalize upd H4 l (HO.lst [.str "", .str "while", .str "repeat"]) = H5 at s5 hl ⊢
      rcases hr with rfl | rfl
      · refine ⟨_, rfl, l, _, _, _, rfl, rfl, SqL.of hl, atI_nat (j := 1) rfl, _, rfl, _, rfl, small (by show 3 ≤ 5000; decide), fun t nt => ?_⟩
        have s6 := same_new (o := .tup [.str "while", v1, v2]) nt
        have tk := Same.tk (s5.trans s6)
        refine q _ _ (.whl e b1) u4 d4 (sx04.trans (Same.sx (s5.trans s6))) (hp4.same (s5.trans s6)) u40 (by simp only [St.sz]; omega) d40 (by simp only [St.nc]; omega) ?_ ⟨ok1, m, rfl, ok2⟩ ⟨lo1, lo2⟩
        simp only [St.D, blD_map]
        exact .tup (SqT.of upd_same) (.cons (.str _) (.cons (dp_keep tk k1 (Ex.tup hg.N ok1)) (.cons (dp_keep tk hd2 (bt ok2)) .nil)))
      · refine ⟨_, rfl, l, _, _, _, rfl, rfl, SqL.of hl, atI_nat (j := 2) rfl, _, rfl, _, rfl, small (by show 3 ≤ 5000; decide), fun t nt => ?_⟩
        have s6 := same_new (o := .tup [.str "repeat", v1, v2]) nt
        have tk := Same.tk (s5.trans s6)
        refine q _ _ (.rep e b1) u4 d4 (sx04.trans (Same.sx (s5.trans s6))) (hp4.same (s5.trans s6)) u40 (by simp only [St.sz]; omega) d40 (by simp only [St.nc]; omega) ?_ ⟨ok1, m, rfl, ok2⟩ ⟨lo1, lo2⟩
        simp only [St.D, blD_map]
        exact .tup (SqT.of upd_same) (.cons (.str _) (.cons (dp_keep tk k1 (Ex.tup hg.N ok1)) (.cons (dp_keep tk hd2 (bt ok2)) .nil)))
theorem ok__law_block (T : PlF K mg) {n : Nat} (hS : FnOk P w K mg base CX0 (2 * n + 6) T.f__law_statement T.fd__law_statement ["_law_pool_here", "_law_names_here", "_law_calls", "_law_depth"] (sp_pstat K n)) :
    FnOk P w K mg base CX0 (2 * n + 7) T.f__law_block T.fd__law_block ["_law_pool_here", "_law_names_here", "_law_calls", "_law_depth", "_law_most"] (sp_pblk K (n + 1)) := by
  refine T.D__law_block.F.ok sc_l_block (fun vs H Q E h => ?_) (fun cdv A outer s H vs Q E hr h => ?_)
  · obtain ⟨p, g, c, u, d, most, names, called, rfl, _⟩ := h
    rfl
  · obtain ⟨p, g, c, u, d, most, names, called, rfl, hm, hp, u0, u9, d0, d9, hg, hc, q⟩ := h
    have nd := sc_l_block.nd
    refine ⟨_, (pss_cons (ps_set (i := 5) nd rfl (.inl rfl) (pe_lst pa_nil))
      (pss_cons (ps_for PassesOwn.never rfl (pi_range1 (by rfl) T.m_range (pa_cons (pe_call ((ok__law_draw T).mono (by omega)) hr (by rfl) T.D__law_draw.g T.D__law_draw.kp T.D__law_draw.b .nil pass0 (pa_cons (pv 0) (pa_cons (pe_op op_add (pv 4) pe_int) pa_nil))) pa_nil)) (pg_name (i := 6) nd rfl (.inl rfl))
      (pss_one (ps_if (pt_cmpR op_gt (pe_ix (r := rIxL K) ix_list (pv 0) pe_int (fun _ _ => rfl)) pe_int (nomark _))
        (pss_one (ps_expr (pe_bm PySem.F.plainAttrs_list PySem.F.slot_list_append PySem.F.type_list_append mt_append (pv 5) (pa_cons (pe_call (hS.mono (by omega)) hr (by rfl) T.D__law_statement.g T.D__law_statement.kp T.D__law_statement.b .nil pass0 (pa_cons (pv 0) (pa_cons (pv 1) (pa_cons (pv 2) (pa_cons (pv 3) pa_nil))))) pa_nil))))
        pss_nil)))
      (pss_one (ps_ret (pe_callTy call_tuple_of (by rfl) T.m_tuple (by decide +kernel) (pa_cons (pv 5) pa_nil)))))), ?_⟩
    refine ⟨small (by decide), fun D nD => ?_⟩
    have s1 := same_new (o := HO.lst []) nD
    have hD : (upd H D (HO.lst [])) D = some (HO.lst []) := upd_same
    generalize upd H D (HO.lst []) = H1 at s1 hD ⊢
    have nDp := hp.ne nD
    refine gn (σ' := [some (.ref p), some (.ref g), some (.ref c), some (.int (n : Int)), some (.int (most : Int)), some (.ref D), none]) rfl ?_
    refine ⟨_, rfl, _, rfl, _, _, rfl, rfl, p, _, u, d, rfl, hp.same s1, by omega, by omega, fun r H2 r0 r1 sx2 hp2 => ?_⟩
    obtain ⟨k, rfl⟩ : ∃ k : Nat, r = (k : Int) := ⟨r.toNat, by omega⟩
    refine ⟨(k : Int), rfl, by omega, by omega, ?_⟩
    refine for_range (lo := 0) (n := ((k : Int)).toNat) (fun i σ H' => SX p H H' ∧ ∃ (u' d' : Int) (vs : List V) (b : List Pg.St) (y : Option V), Pl H' p u' d' ∧ 0 ≤ u' ∧ u' + blSz b ≤ u ∧ 0 ≤ d' ∧ d' + blNc b = d ∧ H' D = some (.lst vs) ∧ DpAll K H' vs (b.map St.D) ∧ (blOk names called n b ∧ blLo b) ∧ b.length ≤ i ∧ σ = [some (.ref p), some (.ref g), some (.ref c), some (.int (n : Int)), some (.int (most : Int)), some (.ref D), y])
      ⟨(Same.sx s1).trans sx2, u, d, [], [], none, hp2, u0, by simp [blSz], d0, by simp [blNc], sx2 _ _ nDp hD, .nil, ⟨trivial, trivial⟩, Nat.le_refl _, rfl⟩ ?_ ?_
    · rintro i σ H3 hi ⟨sx3, u', d', vs, b, y, hp3, u0', hu, d0', hd, hD3, hvs, ⟨ok, lo⟩, bl, rfl⟩
      obtain ⟨a, bb, hpa, _⟩ := id hp3
      refine ⟨_, rfl, p, _, _, _, rfl, rfl, SqL.of hpa, atI_nat (j := 2) rfl, _, _, rfl, rfl, _, rfl, ite2 (fun e => ?_) (fun e => ?_)⟩
      · have hu1 : 0 < u' := of_decide_eq_true e
        refine ⟨_, rfl, .inl ⟨rfl, _, SqL.of hD3⟩, _, rfl, _, rfl, _, rfl, _, rfl, p, g, c, u', d', names, called, rfl, hp3, by omega, by omega, d0', by omega, hg.sx sx3, hc.sx sx3, fun v H4 s u2 d2 sx4 hp4 u02 hu2 d02 hd2 hdp oks los => ?_⟩
        have hD4 := sx4 _ _ nDp hD3
        have vl := dpAll_len hvs
        rw [List.length_map] at vl
        have hbt : tupAll (b.map St.D) = true := by rw [← blD_map]; exact blTup hg.N hc.N n b ok
        refine ⟨D, _, _, rfl, rfl, hD4, by rw [sizeLine_eq]; omega, ?_⟩
        have tk : TK H4 (upd H4 D (.lst (vs ++ [v]))) := tk_lst hD4
        refine ⟨(sx3.trans sx4).new nD, u2, d2, vs ++ [v], b ++ [s], _, hp4.put nDp.symm, u02, by rw [blSz_app]; simp only [blSz]; omega, d02, by rw [blNc_app]; simp only [blNc]; omega, upd_same, ?_, ?_, by rw [List.length_append]; show _ + 1 ≤ _; omega, rfl⟩
        · rw [List.map_append]
          exact dpAll_snoc (dpAll_keep ((sx4.tkP hp3).trans tk) hvs hbt) (dp_keep tk hdp (St.tup hg.N hc.N n s oks))
        · refine ⟨?_, blLo_app lo ⟨los, trivial⟩⟩
          exact blOk_iff.mpr fun t ht => by
            rcases List.mem_append.mp ht with ht | ht
            · exact blOk_iff.mp ok t ht
            · rw [List.mem_singleton.mp ht]
              exact oks
      · exact ⟨sx3, u', d', vs, b, _, hp3, u0', hu, d0', hd, hD3, hvs, ⟨ok, lo⟩, by omega, rfl⟩
    · rintro σ H3 ⟨sx3, u', d', vs, b, y, hp3, u0', hu, d0', hd, hD3, hvs, ⟨ok, lo⟩, bl, rfl⟩
      have hbt : tupAll (b.map St.D) = true := by rw [← blD_map]; exact blTup hg.N hc.N n b ok
      refine ⟨_, rfl, D, _, rfl, .inl ⟨SqL.of hD3, fun t nt => ?_⟩⟩
      have s4 := same_new (o := .tup vs) nt
      exact q _ _ b u' d' (sx3.trans (Same.sx s4)) (hp3.same s4) u0' hu d0' hd (.tup (SqT.of upd_same) (dpAll_keep (Same.tk s4) hvs hbt)) ok lo
/-- blocks and statements, by the depth -/
theorem ok_law_blocks (T : PlF K mg) : ∀ n : Nat, FnOk P w K mg base CX0 (2 * n + 5) T.f__law_block T.fd__law_block ["_law_pool_here", "_law_names_here", "_law_calls", "_law_depth", "_law_most"] (sp_pblk K n) ∧
    FnOk P w K mg base CX0 (2 * n + 6) T.f__law_statement T.fd__law_statement ["_law_pool_here", "_law_names_here", "_law_calls", "_law_depth"] (sp_pstat K n)
  | 0 => ⟨FnOk.none, ok__law_statement T FnOk.none⟩
  | n + 1 => by
    have h := ok__law_block T (ok_law_blocks T n).2
    exact ⟨h, ok__law_statement T h⟩
end
end Sp1

set_option Elab.async false
set_option linter.all false
set_option maxRecDepth 100000
set_option maxHeartbeats 8000000
namespace Pg
open PySem
mutual
theorem st_mono {names procs : List Str} : ∀ (n m : Nat) (s : St), n ≤ m → St.Ok names procs n s → St.Ok names procs m s
  | n, m, .set x e, _, h => h
  | n, m, .swap x e, _, h => h
  | n, m, .print e, _, h => h
  | n, m, .call x, _, h => h
  | n, m, .ite e a b, hl, h => by
    obtain ⟨h1, k, rfl, h2, h3⟩ := h
    exact ⟨h1, m - 1, by omega, bl_mono k (m - 1) a (by omega) h2, bl_mono k (m - 1) b (by omega) h3⟩
  | n, m, .whl e b, hl, h => by
    obtain ⟨h1, k, rfl, h3⟩ := h
    exact ⟨h1, m - 1, by omega, bl_mono k (m - 1) b (by omega) h3⟩
  | n, m, .rep e b, hl, h => by
    obtain ⟨h1, k, rfl, h3⟩ := h
    exact ⟨h1, m - 1, by omega, bl_mono k (m - 1) b (by omega) h3⟩
theorem bl_mono {names procs : List Str} : ∀ (n m : Nat) (b : List St), n ≤ m → blOk names procs n b → blOk names procs m b
  | n, m, [], _, _ => trivial
  | n, m, s :: r, hl, h => ⟨st_mono n m s hl h.1, bl_mono n m r hl h.2⟩
end
theorem no_call {x : Str} {r : List PyData} (h : x ≠ "call") : isCall (.tuple (.str x :: r)) = false := decide_eq_false h
theorem is_call {r : List PyData} : isCall (.tuple (.str "call" :: r)) = true := by
  show decide (("call" : Str) = "call") = true
  exact decide_eq_true rfl
theorem ret_no : isCall retD = false := no_call (by decide +kernel)
theorem stop_no : isCall stopD = false := no_call (by decide +kernel)
theorem w_test : ("test" : Str) ≠ "call" := by decide +kernel
theorem w_go : ("go" : Str) ≠ "call" := by decide +kernel
theorem w_begin : ("begin" : Str) ≠ "call" := by decide +kernel
theorem w_turn : ("turn" : Str) ≠ "call" := by decide +kernel
theorem w_again : ("again" : Str) ≠ "call" := by decide +kernel
theorem w_set : ("set" : Str) ≠ "call" := by decide +kernel
theorem w_swap : ("swap" : Str) ≠ "call" := by decide +kernel
theorem w_print : ("print" : Str) ≠ "call" := by decide +kernel
theorem w_stop : ("stop" : Str) ≠ "call" := by decide +kernel
theorem w_return : ("return" : Str) ≠ "call" := by decide +kernel
theorem go_no (n : Int) (w : Int) : isCall (goD n w) = false := no_call w_go
theorem fc {d : PyData} {l : List PyData} (h : isCall d = false) : (d :: l).filter isCall = l.filter isCall := List.filter_cons_of_neg (by rw [h]; decide)
mutual
theorem code_calls : ∀ (s : St) (n : Int), ((s.code n).filter isCall).length = s.nc
  | .ite e a b, n => by
    simp only [St.code, St.nc]
    rw [fc (no_call w_test), List.filter_append, List.length_append, blCode_calls a, fc (go_no _ _), List.filter_append, List.length_append, blCode_calls b, fc (go_no _ _)]
    rfl
  | .whl e b, n => by
    simp only [St.code, St.nc]
    rw [fc (go_no _ _), fc (no_call w_test), List.filter_append, List.length_append, blCode_calls b, fc (go_no _ _)]
    rfl
  | .rep e b, n => by
    simp only [St.code, St.nc]
    rw [fc (no_call w_begin), fc (no_call w_turn), List.filter_append, List.length_append, blCode_calls b, fc (no_call w_again)]
    rfl
  | .set x e, n => by
    simp only [St.code, St.nc, St.D]
    rw [fc (no_call w_set)]
    rfl
  | .swap x y, n => by
    simp only [St.code, St.nc, St.D]
    rw [fc (no_call w_swap)]
    rfl
  | .print e, n => by
    simp only [St.code, St.nc, St.D]
    rw [fc (no_call w_print)]
    rfl
  | .call x, n => by
    simp only [St.code, St.nc, St.D]
    rw [List.filter_cons_of_pos is_call]
    rfl
theorem blCode_calls : ∀ (b : List St) (n : Int), ((blCode b n).filter isCall).length = blNc b
  | [], n => rfl
  | s :: r, n => by
    simp only [blCode, blNc, List.filter_append, List.length_append]
    rw [code_calls s, blCode_calls r]
end
def prsNc : List Pr → Nat
  | [] => 0
  | p :: r => blNc p.2 + prsNc r
theorem prsNc_app (a b : List Pr) : prsNc (a ++ b) = prsNc a + prsNc b := by
  induction a with
  | nil => simp [prsNc]
  | cons s r ih => simp only [List.cons_append, prsNc, ih]; omega
theorem prsSz_app (a b : List Pr) : prsSz (a ++ b) = prsSz a + prsSz b := by
  induction a with
  | nil => simp [prsSz]
  | cons s r ih => simp only [List.cons_append, prsSz, ih]; omega
theorem prsCode_calls : ∀ (ps : List Pr) (k : Int), ((prsCode ps k).filter isCall).length = prsNc ps
  | [], k => rfl
  | p :: r, k => by
    simp only [prsCode, prsNc, List.filter_append, List.length_append]
    rw [blCode_calls, fc ret_no, prsCode_calls r]
theorem pgCode_calls (m : List St) (ps : List Pr) : ((pgCode m ps).filter isCall).length = blNc m + prsNc ps := by
  unfold pgCode
  rw [List.filter_append, List.length_append, blCode_calls, fc stop_no, prsCode_calls]
/-- the numbers in its sums are small -/
def Pt.Lo (p : Pt) : Prop := blLo p.m ∧ ∀ q ∈ p.ps, blLo q.2
end Pg
namespace Sp1
open PySem PySem.Spec PyProof.Rows L2 Pg
theorem use_pinit {K : PySem.W.Frag} {C : Addr} {H1 : Hp} {x dx : Addr} {gv vv qv mv : V} {p : Pt} {Q : Hp → Prop} {E : XK} (hp : PvAt K H1 gv vv qv mv p) (f : p.Fine) (sm : p.Small) (nx : H1 x = none) (ndx : H1 dx = none) (ne : dx ≠ x)
    (q : ∀ H2, Same H1 H2 → PgAt K C H2 (.ref x) p → Q H2) : sp_init K C [.ref x, gv, vv, qv, mv] (upd (upd H1 dx (.own x)) x (.ins C dx [])) (fun v H2 => v = .non ∧ Q H2) E := by
  have s0 : Same H1 (upd (upd H1 dx (.own x)) x (.ins C dx [])) := fun b o e => by
    rw [upd_ne (ne_of_none e nx), upd_ne (ne_of_none e ndx)]
    exact e
  refine ⟨x, dx, gv, vv, qv, mv, p, rfl, upd_same, hp.tk f (Same.tk s0), f, sm, fun H' keep hpg => ⟨rfl, q H' (fun b o e => ?_) hpg⟩⟩
  exact keep b o (ne_of_none e nx) (s0 b o e)
section
variable {P : Program} {w : World} {K : PySem.W.Frag} {mg : Str → Option Value} {base : Heap}
def sp_pprog (K : PySem.W.Frag) (C : Addr) : Sp := fun vs H Q _ => ∃ (p : Addr) (u d : Int) (bud most : Nat), vs = [.ref p, .int (bud : Int), .int (most : Int)] ∧ Pl H p u d ∧ 0 ≤ d ∧ d ≤ 8 ∧ bud ≤ 40 ∧ most ≤ 2 ∧
  ∀ (x : V) (H' : Hp) (pt : Pt) (u' d' : Int), SX p H H' → Pl H' p u' d' → 0 ≤ d' → d' ≤ 8 → PgAt K C H' x pt → pt.Fine → pt.Small → pt.ps.length ≤ 2 → pt.names.length ≤ 3 → pt.code.length ≤ 2 * bud + 4 → pt.Lo → Q x H'
theorem ok__law_program (T : PlF K mg) (C : PgC K mg) : FnOk P w K mg base CX0 36 T.f__law_program T.fd__law_program ["_law_pool_here", "_law_budget", "_law_most"] (sp_pprog K C.C) := by
  refine T.D__law_program.F.ok sc_l_program (fun vs H Q E h => ?_) (fun cdv A outer s H vs Q E hr h => ?_)
  · obtain ⟨p, u, d, bud, most, rfl, _⟩ := h
    rfl
  · obtain ⟨p, u, d, bud, most, rfl, hp, d0, d9, hb, hm, q⟩ := h
    have nd := sc_l_program.nd
    refine ⟨_, (pss_cons (ps_set (i := 3) nd rfl (.inl rfl) (pe_call ((ok__law_names T).mono (by decide)) hr (by rfl) T.D__law_names.g T.D__law_names.kp T.D__law_names.b .nil pass0 (pa_cons (pv 0) (pa_cons (pe_call ((ok__law_draw T).mono (by decide)) hr (by rfl) T.D__law_draw.g T.D__law_draw.kp T.D__law_draw.b .nil pass0 (pa_cons (pv 0) (pa_cons (pe_op op_add (pv 2) pe_int) pa_nil))) pa_nil))))
      (pss_cons (ps_set (i := 4) nd rfl (.inl rfl) (pe_call ((ok__law_names T).mono (by decide)) hr (by rfl) T.D__law_names.g T.D__law_names.kp T.D__law_names.b .nil pass0 (pa_cons (pv 0) (pa_cons (pe_op op_add pe_int (pe_call ((ok__law_draw T).mono (by decide)) hr (by rfl) T.D__law_draw.g T.D__law_draw.kp T.D__law_draw.b .nil pass0 (pa_cons (pv 0) (pa_cons (pe_op op_sub pe_int (pe_callTy call_int1 (by rfl) T.m_int (by decide +kernel) (pa_cons (pe_cmpR (op_neD hr.units) (pv 3) (pe_lst pa_nil) (nomark _)) pa_nil))) pa_nil)))) pa_nil))))
      (pss_cons (ps_set (i := 5) nd rfl (.inl rfl) (pe_call ((ok__law_draw T).mono (by decide)) hr (by rfl) T.D__law_draw.g T.D__law_draw.kp T.D__law_draw.b .nil pass0 (pa_cons (pv 0) (pa_cons (pe_op op_add (pe_callB call_len_seq (by rfl) T.m_len PySem.boot_len (pa_cons (pv 4) pa_nil)) pe_int) pa_nil))))
      (pss_cons (ps_set (i := 6) nd rfl (.inl rfl) (pe_tup pa_nil))
      (pss_cons (ps_for PassesOwn.never rfl (pi_list (pv 3)) (pg_name (i := 7) nd rfl (.inl rfl))
      (pss_cons (ps_asg (pe_op op_fdivW (pv 1) pe_int) (pg_sub (pv 0) pe_int set_list))
        (pss_one (ps_set (i := 6) nd rfl (.inl rfl) (pe_op op_catU (pv 6) (pe_tup (pa_cons (pe_tup (pa_cons (pv 7) (pa_cons (pe_call ((ok_law_blocks T 2).1.mono (by decide)) hr (by rfl) T.D__law_block.g T.D__law_block.kp T.D__law_block.b .nil pass0 (pa_cons (pv 0) (pa_cons (pv 4) (pa_cons (pv 3) (pa_cons pe_int (pa_cons pe_int pa_nil)))))) pa_nil))) pa_nil)))))))
      (pss_cons (ps_asg (pv 1) (pg_sub (pv 0) pe_int set_list))
      (pss_cons (ps_set (i := 8) nd rfl (.inl rfl) (pe_call ((ok_law_blocks T 3).1.mono (by decide)) hr (by rfl) T.D__law_block.g T.D__law_block.kp T.D__law_block.b .nil pass0 (pa_cons (pv 0) (pa_cons (pv 4) (pa_cons (pv 3) (pa_cons pe_int (pa_cons pe_int pa_nil)))))))
      (pss_one (ps_ret (pe_make C.M (ok_init T.toPgF C) (hr.mono (by decide)) rfl C.g C.b_init .nil pass0 (pa_cons (pe_callTy call_tuple_of (by rfl) T.m_tuple (by decide +kernel) (pa_cons (pe_slice sl_list (pv 4) po_none (po_some (pv 5))) pa_nil)) (pa_cons (pe_callTy call_tuple_of (by rfl) T.m_tuple (by decide +kernel) (pa_cons (pe_slice sl_list (pv 4) (po_some (pv 5)) po_none) pa_nil)) (pa_cons (pv 6) (pa_cons (pv 8) pa_nil)))))))))))))), ?_⟩
    refine ⟨_, rfl, _, rfl, _, rfl, _, _, rfl, rfl, p, _, u, d, rfl, hp, by omega, by omega, fun r H1 r0 r1 sx1 hp1 => ?_⟩
    obtain ⟨k1, rfl⟩ : ∃ k : Nat, r = (k : Int) := ⟨r.toNat, by omega⟩
    refine ⟨p, k1, u, d, rfl, hp1, by omega, fun H2 c called sx2 hp2 cp hcl cN cnd clen => ?_⟩
    refine gn (σ' := [some (.ref p), some (.int (bud : Int)), some (.int (most : Int)), some (.ref c), none, none, none, none, none]) rfl ?_
    have hc2 : CaP H2 c p called := ⟨hcl, cp, cN, cnd, by omega⟩
    -- names
    refine ⟨_, rfl, _, rfl, _, rfl, small (Nat.zero_le _), fun l nl => ?_⟩
    have s3 := same_new (o := HO.lst []) nl
    have hl : (upd H2 l (HO.lst [])) l = some (HO.lst []) := upd_same
    generalize upd H2 l (HO.lst []) = H3 at s3 hl ⊢
    have hc3 := hc2.sx (Same.sx s3)
    have shc : SeqAt.shaped (.list (called.map sD)) = true := shaped_strs fun x hx => (cN x hx).tup
    refine ⟨_, .list [], .lst (SqL.of hc3.at_) (dpAll_strs called), .lst (SqL.of hl) .nil, shc, by decide +kernel, ?_⟩
    rw [eqv_nilL]
    refine .inr ⟨_, rfl, _, _, rfl, rfl, ?_⟩
    obtain ⟨e3, he3, e31, e32⟩ : ∃ e : Int, (3 - (if (!(called.map sD).isEmpty) = true then 1 else 0) : Int) = e ∧ 2 ≤ e ∧ e ≤ 3 := ⟨_, rfl, by split <;> omega, by split <;> omega⟩
    refine ⟨p, _, u, d, rfl, hp2.same s3, by show (0 : Int) < 3 - _; omega, by show (3 - _ : Int) < _; omega, fun r H4 r2 r3 sx4 hp4 => ?_⟩
    have r3 : r < e3 := by
      rw [← he3]
      exact r3
    obtain ⟨k2, rfl⟩ : ∃ k : Nat, r = (k : Int) := ⟨r.toNat, by omega⟩
    refine ⟨_, _, rfl, rfl, ?_⟩
    have e1k : (1 + (k2 : Int)) = ((1 + k2 : Nat) : Int) := by omega
    refine ⟨p, 1 + k2, u, d, by show [V.ref p, V.int (1 + (k2 : Int))] = _; rw [e1k], hp4, by omega, fun H5 g names sx5 hp5 gp hgl gN gnd glen => ?_⟩
    refine gn (σ' := [some (.ref p), some (.int (bud : Int)), some (.int (most : Int)), some (.ref c), some (.ref g), none, none, none, none]) rfl ?_
    have hc5 := (hc3.sx sx4).sx sx5
    have hg5 : NmP H5 g p names := ⟨hgl, gp, gN, gnd, by omega, by omega⟩
    have sx05 : SX p H H5 := (sx1.trans sx2).trans ((Same.sx s3).trans (sx4.trans sx5))
    have n3 : names.length ≤ 3 := by omega
    have n1 : 1 ≤ names.length := by omega
    clear sx1 sx2 s3 sx4 sx5 hp1 hp2 hp4 hc2 hc3 hcl hgl hl
    -- where they are cut
    refine ⟨_, rfl, _, rfl, g, _, rfl, .inl (SqL.of hg5.at_), _, _, rfl, rfl, p, _, u, d, rfl, hp5, by rw [List.length_map]; omega, by rw [List.length_map]; omega, fun r H6 r4 r5 sx6 hp6 => ?_⟩
    rw [List.length_map] at r5
    obtain ⟨cut, rfl⟩ : ∃ k : Nat, r = (k : Int) := ⟨r.toNat, by omega⟩
    have hcut : cut ≤ names.length := by omega
    refine gn (σ' := [some (.ref p), some (.int (bud : Int)), some (.int (most : Int)), some (.ref c), some (.ref g), some (.int (cut : Int)), none, none, none]) rfl ?_
    have sx06 := sx05.trans sx6
    have hc6 := hc5.sx sx6
    have hg6 := hg5.sx sx6
    -- procedures
    refine ⟨small (Nat.zero_le _), fun t0 nt0 => ?_⟩
    have s7 := same_new (o := HO.tup []) nt0
    have ht0 : (upd H6 t0 (HO.tup [])) t0 = some (HO.tup []) := upd_same
    generalize upd H6 t0 (HO.tup []) = H7 at s7 ht0 ⊢
    refine gn (σ' := [some (.ref p), some (.int (bud : Int)), some (.int (most : Int)), some (.ref c), some (.ref g), some (.int (cut : Int)), some (.ref t0), none, none]) rfl ?_
    have hc7 := hc6.sx (Same.sx s7)
    have hg7 := hg6.sx (Same.sx s7)
    have cdiv : ∀ i, CDivW i (2 : Int) := fun i => wide_div (b := 100) (by decide) (by decide) (by decide) (by decide)
    refine ⟨_, rfl, c, rfl, ⟨_, SqL.of hc7.at_⟩, for_list (K := K) (a := c) (xs := called.map V.str) (fun i σ H' => SX p H7 H' ∧ ∃ (u' d' : Int) (ps : List Pr) (t : Addr) (y : Option V), Pl H' p u' d' ∧ 0 ≤ d' ∧ d' + prsNc ps = d ∧ Dp K H' (.ref t) (prsD ps) ∧ ps.map (·.1) = called.take i ∧ (∀ q ∈ ps, blOk names called 1 q.2 ∧ blSz q.2 ≤ bud / 2 ∧ blLo q.2) ∧ prsSz ps ≤ i * (bud / 2 + 1) ∧ σ = [some (.ref p), some (.int (bud : Int)), some (.int (most : Int)), some (.ref c), some (.ref g), some (.int (cut : Int)), some (.ref t), y, none])
      ⟨SX.refl _ _, u, d, [], t0, none, hp6.same s7, d0, by simp [prsNc], .tup (SqT.of ht0) .nil, rfl, (fun q hq => by cases hq), by simp [prsSz], rfl⟩ (fun i σ H' _ h => SqL.of (hc7.sx h.1).at_) ?_ ?_⟩
    · rintro i v σ A0 hv ⟨sxa, u', d', ps, t, y, hpa, d0', hd', hdp, hps, hall, hsz, rfl⟩
      rw [List.getElem?_map] at hv
      obtain ⟨x, hx, rfl⟩ := Option.map_eq_some_iff.mp hv
      have xN := cN x (List.mem_of_getElem? hx)
      have htk : called.take (i + 1) = called.take i ++ [x] := by rw [List.take_add_one, hx]; rfl
      have hi : i < called.length := (List.getElem?_eq_some_iff.mp hx).1
      obtain ⟨a, b, hpl, ha, hb0, hb1⟩ := id hpa
      refine ⟨_, rfl, _, _, rfl, rfl, cdiv _, ?_⟩
      refine ⟨_, rfl, p, _, _, 2, rfl, rfl, hpl, rfl, ?_⟩
      have eb : ((bud : Int) / 2) = ((bud / 2 : Nat) : Int) := rfl
      have sx2 : SX p A0 (upd A0 p (HO.lst ([V.int a, V.int b, V.int u', V.int d'].set 2 ((fun i j => V.int (i / j)) (bud : Int) 2)))) := sx_put
      have hp2 : Pl (upd A0 p (HO.lst ([V.int a, V.int b, V.int u', V.int d'].set 2 ((fun i j => V.int (i / j)) (bud : Int) 2)))) p ((bud / 2 : Nat) : Int) d' := ⟨a, b, upd_same, ha, hb0, hb1⟩
      generalize upd A0 p (HO.lst ([V.int a, V.int b, V.int u', V.int d'].set 2 ((fun i j => V.int (i / j)) (bud : Int) 2))) = A1 at sx2 hp2 ⊢
      refine ⟨_, rfl, _, rfl, _, rfl, _, rfl, _, rfl, ?_⟩
      refine ⟨p, g, c, ((bud / 2 : Nat) : Int), d', 3, names, called, rfl, by decide, hp2, by omega, by omega, d0', by omega, (hg7.sx sxa).sx sx2, (hc7.sx sxa).sx sx2, fun v2 A2 bl u2 d2 sx3 hp3 u20 hu2 d20 hd2 hdb okb lob => ?_⟩
      have tkp : TK A0 A2 := (sx2.tkP hpa).trans (sx3.tkP hp2)
      have tps : tupD (prsD ps) = true := by
        show tupD (.tuple (ps.map Pg.prD)) = true
        rw [tupD_tuple]
        exact tupAll_iff.mpr fun dd hdd => by
          obtain ⟨q', hq', rfl⟩ := List.mem_map.mp hdd
          have h1 := (hall q' hq').1
          have h2 : q'.1 ∈ called := by
            have : q'.1 ∈ ps.map (·.1) := List.mem_map.mpr ⟨q', hq', rfl⟩
            rw [hps] at this
            exact List.mem_of_mem_take this
          unfold Pg.prD
          rw [tupD_tuple, tupAll, tupAll, tupAll, (cN _ h2).tup, bD_tup gN cN h1]
          rfl
      have hdp2 := dp_keep tkp hdp tps
      obtain ⟨t', ys, et, hT, hA⟩ := dp_tup (show Dp K A2 (.ref t) (.tuple (ps.map Pg.prD)) from hdp2)
      cases et
      refine ⟨small (by show 2 ≤ 5000; decide), fun t1 nt1 => ?_⟩
      have s4 := same_new (o := HO.tup [.str x, v2]) nt1
      have ht1 : (upd A2 t1 (HO.tup [.str x, v2])) t1 = some (HO.tup [.str x, v2]) := upd_same
      generalize upd A2 t1 (HO.tup [.str x, v2]) = A3 at s4 ht1 ⊢
      refine ⟨small (by show 1 ≤ 5000; decide), fun t2 nt2 => ?_⟩
      have s5 := same_new (o := HO.tup [.ref t1]) nt2
      have ht2 : (upd A3 t2 (HO.tup [.ref t1])) t2 = some (HO.tup [.ref t1]) := upd_same
      generalize upd A3 t2 (HO.tup [.ref t1]) = A4 at s5 ht2 ⊢
      have yl := dpAll_len hA
      rw [List.length_map] at yl
      have pl : ps.length ≤ 2 := by
        have := congrArg List.length hps
        rw [List.length_map, List.length_take] at this
        omega
      refine ⟨t, t2, ys, _, rfl, rfl, Same.sqt (s4.trans s5) hT, SqT.of ht2, by rw [sizeLine_eq]; show ys.length + 1 ≤ _; omega, fun t3 A5 s6 ht3 => ?_⟩
      refine gn (σ' := [some (.ref p), some (.int (bud : Int)), some (.int (most : Int)), some (.ref c), some (.ref g), some (.int (cut : Int)), some (.ref t3), some (.str x), none]) rfl ?_
      have s46 := s4.trans (s5.trans s6)
      refine ⟨sxa.trans (sx2.trans (sx3.trans (Same.sx s46))), u2, d2, ps ++ [(x, bl)], t3, _, hp3.same s46, d20, ?_, ?_, ?_, ?_, ?_, rfl⟩
      · rw [prsNc_app]
        simp only [prsNc]
        omega
      · show Dp K A5 (.ref t3) (.tuple ((ps ++ [(x, bl)]).map Pg.prD))
        rw [List.map_append]
        have tps' : tupAll (ps.map Pg.prD) = true := by
          have := tps
          rw [show prsD ps = .tuple (ps.map Pg.prD) from rfl, tupD_tuple] at this
          exact this
        exact .tup ht3 (dpAll_snoc (dpAll_keep (Same.tk s46) hA tps') (.tup (SqT.of ((s5.trans s6) _ _ ht1)) (.cons (.str x) (.cons (dp_keep (Same.tk s46) hdb (bD_tup gN cN okb)) .nil))))
      · rw [List.map_append, hps, htk]
        rfl
      · intro q' hq'
        rcases List.mem_append.mp hq' with hq' | hq'
        · exact hall q' hq'
        · rw [List.mem_singleton.mp hq']
          exact ⟨okb, by show blSz bl ≤ _; omega, lob⟩
      · rw [prsSz_app, Nat.succ_mul]
        simp only [prsSz]
        omega
    · rintro σ A0 ⟨sxa, u', d', ps, t, y, hpa, d0', hd', hdp, hps, hall, hsz, rfl⟩
      rw [List.length_map] at hps hsz
      rw [List.take_length] at hps
      obtain ⟨a, b, hpl, ha, hb0, hb1⟩ := id hpa
      refine ⟨_, rfl, ?_⟩
      refine ⟨_, rfl, p, _, _, 2, rfl, rfl, hpl, rfl, ?_⟩
      have sx2 : SX p A0 (upd A0 p (HO.lst ([V.int a, V.int b, V.int u', V.int d'].set 2 (V.int (bud : Int))))) := sx_put
      have hp2 : Pl (upd A0 p (HO.lst ([V.int a, V.int b, V.int u', V.int d'].set 2 (V.int (bud : Int))))) p (bud : Int) d' := ⟨a, b, upd_same, ha, hb0, hb1⟩
      generalize upd A0 p (HO.lst ([V.int a, V.int b, V.int u', V.int d'].set 2 (V.int (bud : Int)))) = A1 at sx2 hp2 ⊢
      have hg1 := (hg7.sx sxa).sx sx2
      refine ⟨_, rfl, _, rfl, _, rfl, ?_⟩
      refine ⟨p, g, c, (bud : Int), d', 5, names, called, rfl, by decide, hp2, by omega, by omega, d0', by omega, hg1, (hc7.sx sxa).sx sx2, fun vm A2 m u2 d2 sx3 hp3 u20 hu2 d20 hd2 hdm okm lom => ?_⟩
      refine gn (σ' := [some (.ref p), some (.int (bud : Int)), some (.int (most : Int)), some (.ref c), some (.ref g), some (.int (cut : Int)), some (.ref t), y, some vm]) rfl ?_
      have hg2 := (hg1.sx sx3).at_
      have prs : PrsOk names ps := ⟨by rw [hps]; exact cN, by rw [hps]; exact cnd, by
        have := congrArg List.length hps
        rw [List.length_map] at this
        omega, fun q' hq' => by
        rw [hps]
        exact ⟨bl_mono 1 7 _ (by decide) (hall q' hq').1, by have := (hall q' hq').2.1; omega⟩⟩
      have hdp2 := dp_keep ((sx2.tkP hpa).trans (sx3.tkP hp2)) hdp (prsD_tup gN prs)
      -- the parts
      refine ⟨_, rfl, _, rfl, _, rfl, g, _, rfl, SqL.of hg2, fun l1 nl1 => ?_⟩
      rw [cut_to, ← List.map_take]
      have s4 := same_new (o := HO.lst ((names.take cut).map V.str)) nl1
      have hl1 : (upd A2 l1 (HO.lst ((names.take cut).map V.str))) l1 = some (HO.lst ((names.take cut).map V.str)) := upd_same
      generalize upd A2 l1 (HO.lst ((names.take cut).map V.str)) = A3 at s4 hl1 ⊢
      refine ⟨l1, _, rfl, .inl ⟨SqL.of hl1, fun t1 nt1 => ?_⟩⟩
      have s5 := same_new (o := HO.tup ((names.take cut).map V.str)) nt1
      have ht1 : (upd A3 t1 (HO.tup ((names.take cut).map V.str))) t1 = some (HO.tup ((names.take cut).map V.str)) := upd_same
      generalize upd A3 t1 (HO.tup ((names.take cut).map V.str)) = A4 at s5 ht1 ⊢
      refine ⟨_, rfl, _, rfl, _, rfl, ?_⟩
      dsimp only [tNoPart]
      refine ⟨g, _, rfl, SqL.of ((s4.trans s5) _ _ hg2), fun l2 nl2 => ?_⟩
      rw [cut_from, ← List.map_drop]
      have s6 := same_new (o := HO.lst ((names.drop cut).map V.str)) nl2
      have hl2 : (upd A4 l2 (HO.lst ((names.drop cut).map V.str))) l2 = some (HO.lst ((names.drop cut).map V.str)) := upd_same
      generalize upd A4 l2 (HO.lst ((names.drop cut).map V.str)) = A5 at s6 hl2 ⊢
      refine ⟨l2, _, rfl, .inl ⟨SqL.of hl2, fun t2 nt2 => ?_⟩⟩
      have s7' := same_new (o := HO.tup ((names.drop cut).map V.str)) nt2
      have ht2 : (upd A5 t2 (HO.tup ((names.drop cut).map V.str))) t2 = some (HO.tup ((names.drop cut).map V.str)) := upd_same
      generalize upd A5 t2 (HO.tup ((names.drop cut).map V.str)) = A6 at s7' ht2 ⊢
      refine ⟨_, rfl, _, rfl, ?_⟩
      have s26 := (s4.trans s5).trans (s6.trans s7')
      have en : names.take cut ++ names.drop cut = names := List.take_append_drop _ _
      have fine : Pt.Fine ⟨names.take cut, names.drop cut, ps, m⟩ := by
        refine ⟨?_, ?_, ?_, ?_, ?_, ?_, ?_⟩
        · show Names (names.take cut ++ names.drop cut)
          rw [en]
          exact gN
        · show (names.take cut ++ names.drop cut).Nodup
          rw [en]
          exact gnd
        · show 1 ≤ (names.take cut).length + (names.drop cut).length
          rw [List.length_take, List.length_drop]
          omega
        · show (names.take cut).length + (names.drop cut).length ≤ 4
          rw [List.length_take, List.length_drop]
          omega
        · show PrsOk (names.take cut ++ names.drop cut) ps
          rw [en]
          exact prs
        · show blOk (names.take cut ++ names.drop cut) (ps.map (·.1)) 7 m
          rw [en, hps]
          exact bl_mono 2 7 _ (by decide) okm
        · show blSz m ≤ 1000
          omega
      have pl : ps.length ≤ 2 := by
        have := congrArg List.length hps
        rw [List.length_map] at this
        omega
      have hsz2 : prsSz ps ≤ 2 * (bud / 2 + 1) := Nat.le_trans hsz (Nat.mul_le_mul_right _ (by omega))
      have cl : (Pt.code ⟨names.take cut, names.drop cut, ps, m⟩).length = blSz m + 1 + prsSz ps := pgCode_len m ps
      have small : Pt.Small ⟨names.take cut, names.drop cut, ps, m⟩ := by
        refine ⟨by rw [cl]; omega, ?_⟩
        show ((pgCode m ps).filter isCall).length ≤ 8
        rw [pgCode_calls]
        omega
      have hP : PvAt K A6 (.ref t1) (.ref t2) (.ref t) vm ⟨names.take cut, names.drop cut, ps, m⟩ := ⟨⟨t1, rfl, SqT.of ((s6.trans s7') _ _ ht1)⟩, ⟨t2, rfl, SqT.of ht2⟩, dp_keep (Same.tk s26) hdp2 (prsD_tup gN prs), dp_keep (Same.tk s26) hdm (bD_tup gN cN okm)⟩
      refine fun x dx nx ndx ne => use_pinit hP fine small nx ndx ne fun A7 s8 hx => ?_
      refine q _ _ ⟨names.take cut, names.drop cut, ps, m⟩ u2 d2 (sx06.trans ((Same.sx s7).trans (sxa.trans (sx2.trans (sx3.trans (Same.sx (s26.trans s8))))))) (hp3.same (s26.trans s8)) d20 (by omega) hx fine small pl ?_ ?_ ⟨lom, fun q' hq' => (hall q' hq').2.2⟩
      · show (names.take cut ++ names.drop cut).length ≤ 3
        rw [en]
        exact n3
      · rw [cl]
        omega
end
end Sp1

set_option Elab.async false
set_option linter.all false
set_option maxRecDepth 100000
set_option maxHeartbeats 4000000
namespace Pg
open PySem
/-! the instructions of a program, each with the number of loops that are open at it -/
inductive Ins
  | set (x : Str) (e : Ex)
  | swap (x y : Str)
  | print (e : Ex)
  | test (e : Ex) (n : Nat)
  | go (n : Nat) (w : Int)
  | bgn (e : Ex)
  | turn (n : Nat)
  | again (n : Nat)
  | call (x : Str)
  | stop
  | ret
def Ins.D : Ins → PyData
  | .set x e => .tuple [.str "set", .str x, e.D]
  | .swap x y => .tuple [.str "swap", .str x, .str y]
  | .print e => .tuple [.str "print", e.D]
  | .test e n => .tuple [.str "test", e.D, .int (n : Int)]
  | .go n w => .tuple [.str "go", .int (n : Int), .int w]
  | .bgn e => .tuple [.str "begin", e.D]
  | .turn n => .tuple [.str "turn", .int (n : Int)]
  | .again n => .tuple [.str "again", .int (n : Int)]
  | .call x => .tuple [.str "call", .str x]
  | .stop => stopD
  | .ret => retD
abbrev IK := Ins × Nat
mutual
def St.ins : St → Nat → Nat → List IK
  | .ite e a b, n, k => (.test e (n + 1 + blSz a + 1), k) :: (blIns a (n + 1) k ++ ((.go (n + 1 + blSz a + 1 + blSz b + 1) 1, k) :: (blIns b (n + 1 + blSz a + 1) k ++ [(.go (n + 1 + blSz a + 1 + blSz b + 1) 0, k)])))
  | .whl e b, n, k => (.go (n + 1) 0, k) :: (.test e (n + 1 + 1 + blSz b + 1), k) :: (blIns b (n + 1 + 1) k ++ [(.go (n + 1) 1, k)])
  | .rep e b, n, k => (.bgn e, k) :: (.turn (n + 1 + 1 + blSz b + 1), k + 1) :: (blIns b (n + 1 + 1) (k + 1) ++ [(.again (n + 1), k + 1)])
  | .set x e, _, k => [(.set x e, k)]
  | .swap x y, _, k => [(.swap x y, k)]
  | .print e, _, k => [(.print e, k)]
  | .call x, _, k => [(.call x, k)]
def blIns : List St → Nat → Nat → List IK
  | [], _, _ => []
  | s :: r, n, k => s.ins n k ++ blIns r (n + s.sz) k
end
mutual
theorem ins_len : ∀ (s : St) (n k : Nat), (s.ins n k).length = s.sz
  | .ite e a b, n, k => by simp only [St.ins, St.sz, List.length_cons, List.length_append, List.length_nil, blIns_len a, blIns_len b]; omega
  | .whl e b, n, k => by simp only [St.ins, St.sz, List.length_cons, List.length_append, List.length_nil, blIns_len b]; omega
  | .rep e b, n, k => by simp only [St.ins, St.sz, List.length_cons, List.length_append, List.length_nil, blIns_len b]; omega
  | .set x e, _, k => rfl
  | .swap x y, _, k => rfl
  | .print e, _, k => rfl
  | .call x, _, k => rfl
theorem blIns_len : ∀ (b : List St) (n k : Nat), (blIns b n k).length = blSz b
  | [], _, _ => rfl
  | s :: r, n, k => by simp only [blIns, blSz, List.length_append, ins_len s, blIns_len r]
end
abbrev insD (l : List IK) : List PyData := l.map fun y => y.1.D
mutual
theorem ins_code : ∀ (s : St) (n k : Nat), insD (s.ins n k) = s.code (n : Int)
  | .ite e a b, n, k => by
    simp only [St.ins, St.code, insD, List.map_cons, List.map_append, List.map_nil, blCode_len]
    have h1 := blIns_code a (n + 1) k
    have h2 := blIns_code b (n + 1 + blSz a + 1) k
    simp only [insD] at h1 h2
    rw [h1, h2]
    rfl
  | .whl e b, n, k => by
    simp only [St.ins, St.code, insD, List.map_cons, List.map_append, List.map_nil, blCode_len]
    have h1 := blIns_code b (n + 1 + 1) k
    simp only [insD] at h1
    rw [h1]
    rfl
  | .rep e b, n, k => by
    simp only [St.ins, St.code, insD, List.map_cons, List.map_append, List.map_nil, blCode_len]
    have h1 := blIns_code b (n + 1 + 1) (k + 1)
    simp only [insD] at h1
    rw [h1]
    rfl
  | .set x e, _, k => rfl
  | .swap x y, _, k => rfl
  | .print e, _, k => rfl
  | .call x, _, k => rfl
theorem blIns_code : ∀ (b : List St) (n k : Nat), insD (blIns b n k) = blCode b (n : Int)
  | [], _, _ => rfl
  | s :: r, n, k => by
    simp only [blIns, blCode, insD, List.map_append]
    have h1 := ins_code s n k
    have h2 := blIns_code r (n + s.sz) k
    simp only [insD] at h1 h2
    rw [h1, h2, code_len]
    rfl
end
def prsIns : List Pr → Nat → List IK
  | [], _ => []
  | p :: r, n => blIns p.2 n 0 ++ ((.ret, 0) :: prsIns r (n + blSz p.2 + 1))
def pgIns (m : List St) (ps : List Pr) : List IK := blIns m 0 0 ++ ((.stop, 0) :: prsIns ps (blSz m + 1))
def Pt.ins (p : Pt) : List IK := pgIns p.m p.ps
theorem prsIns_code : ∀ (ps : List Pr) (n : Nat), insD (prsIns ps n) = prsCode ps (n : Int)
  | [], _ => rfl
  | p :: r, n => by
    simp only [prsIns, prsCode, insD, List.map_append, List.map_cons]
    have h1 := blIns_code p.2 n 0
    have h2 := prsIns_code r (n + blSz p.2 + 1)
    simp only [insD] at h1 h2
    rw [h1, h2]
    rfl
theorem Pt.ins_code (p : Pt) : insD p.ins = p.code := by
  have h1 := blIns_code p.m 0 0
  have h2 := prsIns_code p.ps (blSz p.m + 1)
  simp only [insD] at h1 h2
  simp only [Pt.ins, pgIns, insD, List.map_append, List.map_cons]
  rw [h1, h2]
  rfl
/-! where the instructions lead -/
def Has (C : List IK) (n : Nat) (L : List IK) : Prop := ∀ j y, L[j]? = some y → C[n + j]? = some y
theorem Has.cons {C : List IK} {n : Nat} {y : IK} {L : List IK} (h : Has C n (y :: L)) : C[n]? = some y ∧ Has C (n + 1) L :=
  ⟨h 0 y rfl, fun j z hz => by have := h (j + 1) z hz; rw [← this]; congr 1; omega⟩
theorem Has.app {C : List IK} {n : Nat} {A B : List IK} (h : Has C n (A ++ B)) : Has C n A ∧ Has C (n + A.length) B :=
  ⟨fun j z hz => h j z (by rw [List.getElem?_append_left (List.getElem?_eq_some_iff.mp hz).1]; exact hz), fun j z hz => by
    have := h (A.length + j) z (by rw [List.getElem?_append_right (by omega)]; rw [show A.length + j - A.length = j by omega]; exact hz)
    rw [← this]
    congr 1
    omega⟩
/-- at j stands an instruction with k open loops, on the same side of M as i -/
structure To (C : List IK) (M i j k : Nat) : Prop where
  at_ : ∃ y, C[j]? = some (y, k)
  side : i < M ↔ j < M
def Fl (C : List IK) (M : Nat) (ent : Str → Option Nat) (i : Nat) : IK → Prop
  | (.set _ _, k) => To C M i (i + 1) k
  | (.swap _ _, k) => To C M i (i + 1) k
  | (.print _, k) => To C M i (i + 1) k
  | (.test _ n, k) => To C M i (i + 1) k ∧ To C M i n k
  | (.go n _, k) => To C M i n k
  | (.bgn _, k) => To C M i (i + 1) (k + 1)
  | (.turn n, k) => ∃ m, k = m + 1 ∧ To C M i (i + 1) k ∧ To C M i n m
  | (.again n, k) => To C M i n k
  | (.call x, k) => To C M i (i + 1) k ∧ ∃ n, ent x = some n ∧ M ≤ n ∧ ∃ y, C[n]? = some (y, 0)
  | (.stop, k) => k = 0
  | (.ret, k) => k = 0 ∧ M ≤ i
def FlL (C : List IK) (M : Nat) (ent : Str → Option Nat) (n : Nat) (L : List IK) : Prop := ∀ j y, L[j]? = some y → Fl C M ent (n + j) y
section
variable {C : List IK} {M : Nat} {ent : Str → Option Nat} {n : Nat}
theorem FlL.nil : FlL C M ent n [] := fun j y h => by cases h
theorem FlL.cons {y : IK} {L : List IK} (h : Fl C M ent n y) (r : FlL C M ent (n + 1) L) : FlL C M ent n (y :: L) := fun j z hz => by
  cases j with
  | zero =>
    cases hz
    exact h
  | succ j =>
    have := r j z hz
    rw [show n + (j + 1) = n + 1 + j by omega]
    exact this
theorem FlL.app {A B : List IK} (h : FlL C M ent n A) (r : FlL C M ent (n + A.length) B) : FlL C M ent n (A ++ B) := fun j z hz => by
  by_cases hj : j < A.length
  · rw [List.getElem?_append_left hj] at hz
    exact h j z hz
  · rw [List.getElem?_append_right (by omega)] at hz
    have := r _ z hz
    rw [show n + j = n + A.length + (j - A.length) by omega]
    exact this
end
theorem blIns_head {C : List IK} : ∀ (b : List St) (n k : Nat), Has C n (blIns b n k) → (∃ y, C[n + blSz b]? = some (y, k)) → ∃ y, C[n]? = some (y, k)
  | [], n, k, _, h => h
  | s :: r, n, k, h, _ => by
    have h1 := (Has.app h).1
    cases s with
    | set x e => exact ⟨_, (Has.cons h1).1⟩
    | swap x y => exact ⟨_, (Has.cons h1).1⟩
    | print e => exact ⟨_, (Has.cons h1).1⟩
    | call x => exact ⟨_, (Has.cons h1).1⟩
    | ite e a b => exact ⟨_, (Has.cons h1).1⟩
    | whl e b => exact ⟨_, (Has.cons h1).1⟩
    | rep e b => exact ⟨_, (Has.cons h1).1⟩
section
variable {C : List IK} {M : Nat} {ent : Str → Option Nat} {names procs : List Str}
mutual
theorem st_fl (he : ∀ x ∈ procs, ∃ n, ent x = some n ∧ M ≤ n ∧ ∃ y, C[n]? = some (y, 0)) : ∀ (d : Nat) (s : St) (n k : Nat), St.Ok names procs d s → Has C n (s.ins n k) → (∃ y, C[n + s.sz]? = some (y, k)) → (n + s.sz < M ∨ M ≤ n) → FlL C M ent n (s.ins n k)
  | d, .set x e, n, k, ok, h, nx, sd => .cons ⟨nx, by simp only [St.sz] at sd; omega⟩ .nil
  | d, .swap x y, n, k, ok, h, nx, sd => .cons ⟨nx, by simp only [St.sz] at sd; omega⟩ .nil
  | d, .print e, n, k, ok, h, nx, sd => .cons ⟨nx, by simp only [St.sz] at sd; omega⟩ .nil
  | d, .call x, n, k, ok, h, nx, sd => .cons ⟨⟨nx, by simp only [St.sz] at sd; omega⟩, he x ok⟩ .nil
  | d, .ite e a b, n, k, ok, h, nx, sd => by
    obtain ⟨_, m, rfl, oka, okb⟩ := ok
    simp only [St.sz] at nx sd
    have h0 := Has.cons h
    have h1 := Has.app h0.2
    rw [blIns_len] at h1
    have h2 := Has.cons h1.2
    have h3 := Has.app h2.2
    rw [blIns_len] at h3
    have h4 := (Has.cons h3.2).1
    have e1 : n + (3 + blSz a + blSz b) = n + 1 + blSz a + 1 + blSz b + 1 := by omega
    rw [e1] at nx sd
    have ha := blIns_head a (n + 1) k h1.1 ⟨_, h2.1⟩
    have hb := blIns_head b (n + 1 + blSz a + 1) k h3.1 ⟨_, h4⟩
    have fa := bl_fl he m a (n + 1) k oka h1.1 ⟨_, h2.1⟩ (by omega)
    have fb := bl_fl he m b (n + 1 + blSz a + 1) k okb h3.1 ⟨_, h4⟩ (by omega)
    refine .cons ⟨⟨ha, by omega⟩, ⟨hb, by omega⟩⟩ (.app fa ?_)
    rw [blIns_len]
    refine .cons ⟨nx, by omega⟩ (.app fb ?_)
    rw [blIns_len]
    exact .cons ⟨nx, by omega⟩ .nil
  | d, .whl e b, n, k, ok, h, nx, sd => by
    obtain ⟨_, m, rfl, okb⟩ := ok
    simp only [St.sz] at nx sd
    have h0 := Has.cons h
    have h1 := Has.cons h0.2
    have h2 := Has.app h1.2
    rw [blIns_len] at h2
    have h3 := (Has.cons h2.2).1
    have e1 : n + (3 + blSz b) = n + 1 + 1 + blSz b + 1 := by omega
    rw [e1] at nx sd
    have hb := blIns_head b (n + 1 + 1) k h2.1 ⟨_, h3⟩
    have fb := bl_fl he m b (n + 1 + 1) k okb h2.1 ⟨_, h3⟩ (by omega)
    refine .cons ⟨⟨_, h1.1⟩, by omega⟩ (.cons ⟨⟨hb, by omega⟩, ⟨nx, by omega⟩⟩ (.app fb ?_))
    rw [blIns_len]
    exact .cons ⟨⟨_, h1.1⟩, by omega⟩ .nil
  | d, .rep e b, n, k, ok, h, nx, sd => by
    obtain ⟨_, m, rfl, okb⟩ := ok
    simp only [St.sz] at nx sd
    have h0 := Has.cons h
    have h1 := Has.cons h0.2
    have h2 := Has.app h1.2
    rw [blIns_len] at h2
    have h3 := (Has.cons h2.2).1
    have e1 : n + (3 + blSz b) = n + 1 + 1 + blSz b + 1 := by omega
    rw [e1] at nx sd
    have hb := blIns_head b (n + 1 + 1) (k + 1) h2.1 ⟨_, h3⟩
    have fb := bl_fl he m b (n + 1 + 1) (k + 1) okb h2.1 ⟨_, h3⟩ (by omega)
    refine .cons ⟨⟨_, h1.1⟩, by omega⟩ (.cons ⟨k, rfl, ⟨hb, by omega⟩, ⟨nx, by omega⟩⟩ (.app fb ?_))
    rw [blIns_len]
    exact .cons ⟨⟨_, h1.1⟩, by omega⟩ .nil
theorem bl_fl (he : ∀ x ∈ procs, ∃ n, ent x = some n ∧ M ≤ n ∧ ∃ y, C[n]? = some (y, 0)) : ∀ (d : Nat) (b : List St) (n k : Nat), blOk names procs d b → Has C n (blIns b n k) → (∃ y, C[n + blSz b]? = some (y, k)) → (n + blSz b < M ∨ M ≤ n) → FlL C M ent n (blIns b n k)
  | d, [], n, k, ok, h, nx, sd => .nil
  | d, s :: r, n, k, ok, h, nx, sd => by
    obtain ⟨ok1, ok2⟩ := ok
    simp only [blSz] at nx sd
    have h1 := Has.app h
    rw [ins_len] at h1
    have e1 : n + (s.sz + blSz r) = n + s.sz + blSz r := by omega
    rw [e1] at nx sd
    have hr := blIns_head r (n + s.sz) k h1.2 nx
    refine .app (st_fl he d s n k ok1 h1.1 hr (by omega)) ?_
    rw [ins_len]
    exact bl_fl he d r (n + s.sz) k ok2 h1.2 nx (by omega)
end
end
end Pg

set_option Elab.async false
set_option linter.all false
set_option maxRecDepth 100000
set_option maxHeartbeats 4000000
namespace Pg
open PySem
def prsEntN : List Pr → Nat → List (Str × Nat)
  | [], _ => []
  | p :: r, n => (p.1, n) :: prsEntN r (n + blSz p.2 + 1)
theorem prsEntN_int : ∀ (ps : List Pr) (n : Nat), (prsEntN ps n).map (fun e => (e.1, (e.2 : Int))) = prsEnt ps (n : Int)
  | [], _ => rfl
  | p :: r, n => by
    simp only [prsEntN, prsEnt, List.map_cons]
    rw [prsEntN_int r (n + blSz p.2 + 1)]
    rfl
theorem prsEntN_names : ∀ (ps : List Pr) (n : Nat), (prsEntN ps n).map (·.1) = ps.map (·.1)
  | [], _ => rfl
  | p :: r, n => by simp only [prsEntN, List.map_cons, prsEntN_names r]
/-- where main ends -/
def Pt.M (p : Pt) : Nat := blSz p.m + 1
def Pt.entN (p : Pt) (x : Str) : Option Nat := (prsEntN p.ps p.M).lookup x
theorem Pt.ent_int (p : Pt) : (prsEntN p.ps p.M).map (fun e => (e.1, (e.2 : Int))) = p.ent := prsEntN_int p.ps p.M
section
variable {C : List IK}
theorem prs_at : ∀ (ps : List Pr) (n : Nat), Has C n (prsIns ps n) → ∀ x ∈ ps.map (·.1), ∃ k, (prsEntN ps n).lookup x = some k ∧ n ≤ k ∧ ∃ y, C[k]? = some (y, 0)
  | [], _, _, x, hx => by cases hx
  | p :: r, n, h, x, hx => by
    have h1 := Has.app h
    rw [blIns_len] at h1
    have h2 := Has.cons h1.2
    by_cases e : x = p.1
    · subst e
      obtain ⟨y, hy⟩ := blIns_head p.2 n 0 h1.1 ⟨_, h2.1⟩
      exact ⟨n, by simp [prsEntN, List.lookup], Nat.le_refl _, y, hy⟩
    · have hx' : x ∈ r.map (·.1) := by
        rcases List.mem_cons.mp hx with h | h
        · exact absurd h e
        · exact h
      obtain ⟨k, k1, k2, k3⟩ := prs_at r (n + blSz p.2 + 1) h2.2 x hx'
      refine ⟨k, ?_, by omega, k3⟩
      have : (x == p.1) = false := by simp [e]
      simp only [prsEntN, List.lookup, this]
      exact k1
theorem prs_fl {M : Nat} {ent : Str → Option Nat} {names procs : List Str} (he : ∀ x ∈ procs, ∃ n, ent x = some n ∧ M ≤ n ∧ ∃ y, C[n]? = some (y, 0)) : ∀ (ps : List Pr) (n : Nat), (∀ p ∈ ps, blOk names procs 7 p.2) → Has C n (prsIns ps n) → M ≤ n → FlL C M ent n (prsIns ps n)
  | [], _, _, _, _ => .nil
  | p :: r, n, ok, h, hn => by
    have h1 := Has.app h
    rw [blIns_len] at h1
    have h2 := Has.cons h1.2
    refine .app (bl_fl he 7 p.2 n 0 (ok p List.mem_cons_self) h1.1 ⟨_, h2.1⟩ (.inr hn)) ?_
    rw [blIns_len]
    exact .cons ⟨rfl, by omega⟩ (prs_fl he r _ (fun q hq => ok q (List.mem_cons_of_mem _ hq)) h2.2 (by omega))
end
theorem has_self (C : List IK) : Has C 0 C := fun j y h => by rw [Nat.zero_add]; exact h
theorem Pt.has (p : Pt) : Has p.ins 0 (blIns p.m 0 0) ∧ p.ins[blSz p.m]? = some (.stop, 0) ∧ Has p.ins p.M (prsIns p.ps p.M) := by
  have h1 := Has.app (show Has p.ins 0 (blIns p.m 0 0 ++ ((.stop, 0) :: prsIns p.ps (blSz p.m + 1))) from has_self _)
  rw [blIns_len, Nat.zero_add] at h1
  have h2 := Has.cons h1.2
  exact ⟨h1.1, h2.1, h2.2⟩
theorem Pt.flow {p : Pt} (f : p.Fine) {i : Nat} {y : IK} (h : p.ins[i]? = some y) : Fl p.ins p.M p.entN i y := by
  obtain ⟨h1, h2, h3⟩ := p.has
  have he : ∀ x ∈ p.ps.map (·.1), ∃ n, p.entN x = some n ∧ p.M ≤ n ∧ ∃ y, p.ins[n]? = some (y, 0) := fun x hx => prs_at p.ps p.M h3 x hx
  have fm := bl_fl (M := p.M) he 7 p.m 0 0 f.mn h1 ⟨_, by rw [Nat.zero_add]; exact h2⟩ (.inl (by show 0 + blSz p.m < blSz p.m + 1; omega))
  have fp := prs_fl he p.ps p.M (fun q hq => (f.prs.bl q hq).1) h3 (Nat.le_refl _)
  have all : FlL p.ins p.M p.entN 0 p.ins := by
    refine FlL.app fm ?_
    rw [blIns_len, Nat.zero_add]
    exact .cons rfl fp
  have := all i y h
  rw [Nat.zero_add] at this
  exact this
theorem Pt.entry_at {p : Pt} {x : Str} (hx : x ∈ p.ps.map (·.1)) : ∃ n, p.entN x = some n ∧ p.M ≤ n ∧ ∃ y, p.ins[n]? = some (y, 0) := prs_at p.ps p.M p.has.2.2 x hx
/-! what stands in them -/
def Ins.Ok (names procs : List Str) : Ins → Prop
  | .set x e => x ∈ names ∧ e.Ok names
  | .swap x y => x ∈ names ∧ y ∈ names ∧ y ≠ x
  | .print e => e.Ok names
  | .test e _ => e.Ok names
  | .bgn e => e.Ok names
  | .call x => x ∈ procs
  | .go _ w => w = 0 ∨ w = 1
  | _ => True
mutual
theorem ins_ok {names procs : List Str} : ∀ (d : Nat) (s : St) (n k : Nat), St.Ok names procs d s → ∀ y ∈ s.ins n k, y.1.Ok names procs
  | d, .set x e, n, k, ok, y, hy => by rw [List.mem_singleton.mp hy]; exact ok
  | d, .swap x e, n, k, ok, y, hy => by rw [List.mem_singleton.mp hy]; exact ok
  | d, .print e, n, k, ok, y, hy => by rw [List.mem_singleton.mp hy]; exact ok
  | d, .call e, n, k, ok, y, hy => by rw [List.mem_singleton.mp hy]; exact ok
  | d, .ite e a b, n, k, ok, y, hy => by
    obtain ⟨oke, m, rfl, oka, okb⟩ := ok
    simp only [St.ins, List.mem_cons, List.mem_append, List.not_mem_nil, or_false] at hy
    rcases hy with rfl | hy | rfl | hy | rfl
    · exact oke
    · exact blIns_ok m a _ _ oka y hy
    · exact .inr rfl
    · exact blIns_ok m b _ _ okb y hy
    · exact .inl rfl
  | d, .whl e b, n, k, ok, y, hy => by
    obtain ⟨oke, m, rfl, okb⟩ := ok
    simp only [St.ins, List.mem_cons, List.mem_append, List.not_mem_nil, or_false] at hy
    rcases hy with rfl | rfl | hy | rfl
    · exact .inl rfl
    · exact oke
    · exact blIns_ok m b _ _ okb y hy
    · exact .inr rfl
  | d, .rep e b, n, k, ok, y, hy => by
    obtain ⟨oke, m, rfl, okb⟩ := ok
    simp only [St.ins, List.mem_cons, List.mem_append, List.not_mem_nil, or_false] at hy
    rcases hy with rfl | rfl | hy | rfl
    · exact oke
    · trivial
    · exact blIns_ok m b _ _ okb y hy
    · trivial
theorem blIns_ok {names procs : List Str} : ∀ (d : Nat) (b : List St) (n k : Nat), blOk names procs d b → ∀ y ∈ blIns b n k, y.1.Ok names procs
  | d, [], n, k, ok, y, hy => by cases hy
  | d, s :: r, n, k, ok, y, hy => by
    simp only [blIns] at hy
    rcases List.mem_append.mp hy with hy | hy
    · exact ins_ok d s n k ok.1 y hy
    · exact blIns_ok d r _ k ok.2 y hy
end
theorem prsIns_ok {names procs : List Str} : ∀ (ps : List Pr) (n : Nat), (∀ p ∈ ps, blOk names procs 7 p.2) → ∀ y ∈ prsIns ps n, y.1.Ok names procs
  | [], n, _, y, hy => by cases hy
  | p :: r, n, ok, y, hy => by
    simp only [prsIns] at hy
    rcases List.mem_append.mp hy with hy | hy
    · exact blIns_ok 7 p.2 n 0 (ok p List.mem_cons_self) y hy
    · rcases List.mem_cons.mp hy with rfl | hy
      · trivial
      · exact prsIns_ok r _ (fun q hq => ok q (List.mem_cons_of_mem _ hq)) y hy
theorem Pt.ins_ok {p : Pt} (f : p.Fine) : ∀ y ∈ p.ins, y.1.Ok p.names (p.ps.map (·.1)) := fun y hy => by
  simp only [Pt.ins, pgIns] at hy
  rcases List.mem_append.mp hy with hy | hy
  · exact blIns_ok 7 p.m 0 0 f.mn y hy
  · rcases List.mem_cons.mp hy with rfl | hy
    · trivial
    · exact prsIns_ok p.ps _ (fun q hq => (f.prs.bl q hq).1) y hy
theorem Pt.ins_len (p : Pt) : p.ins.length = p.code.length := by
  rw [← p.ins_code, List.length_map]
theorem Pt.code_at {p : Pt} {i : Nat} {y : IK} (h : p.ins[i]? = some y) : p.code[i]? = some y.1.D := by
  rw [← p.ins_code, List.getElem?_map, h]
  rfl
theorem Pt.start (p : Pt) (f : p.Fine) : ∃ y, p.ins[0]? = some (y, 0) := by
  obtain ⟨h1, h2, _⟩ := p.has
  exact blIns_head p.m 0 0 h1 ⟨_, by rw [Nat.zero_add]; exact h2⟩
/-- small numbers, where a free run looks -/
def Ins.Lo : Ins → Prop
  | .set _ e => e.Lo
  | .bgn e => e.Lo
  | _ => True
mutual
theorem ins_lo : ∀ (s : St) (n k : Nat), s.Lo → ∀ y ∈ s.ins n k, y.1.Lo
  | .set x e, n, k, ok, y, hy => by rw [List.mem_singleton.mp hy]; exact ok
  | .swap x e, n, k, ok, y, hy => by rw [List.mem_singleton.mp hy]; exact ok
  | .print e, n, k, ok, y, hy => by rw [List.mem_singleton.mp hy]; trivial
  | .call e, n, k, ok, y, hy => by rw [List.mem_singleton.mp hy]; exact ok
  | .ite e a b, n, k, ok, y, hy => by
    simp only [St.ins, List.mem_cons, List.mem_append, List.not_mem_nil, or_false] at hy
    rcases hy with rfl | hy | rfl | hy | rfl
    · trivial
    · exact blIns_lo a _ _ ok.2.1 y hy
    · trivial
    · exact blIns_lo b _ _ ok.2.2 y hy
    · trivial
  | .whl e b, n, k, ok, y, hy => by
    simp only [St.ins, List.mem_cons, List.mem_append, List.not_mem_nil, or_false] at hy
    rcases hy with rfl | rfl | hy | rfl
    · trivial
    · trivial
    · exact blIns_lo b _ _ ok.2 y hy
    · trivial
  | .rep e b, n, k, ok, y, hy => by
    simp only [St.ins, List.mem_cons, List.mem_append, List.not_mem_nil, or_false] at hy
    rcases hy with rfl | rfl | hy | rfl
    · exact ok.1
    · trivial
    · exact blIns_lo b _ _ ok.2 y hy
    · trivial
theorem blIns_lo : ∀ (b : List St) (n k : Nat), blLo b → ∀ y ∈ blIns b n k, y.1.Lo
  | [], n, k, ok, y, hy => by cases hy
  | s :: r, n, k, ok, y, hy => by
    simp only [blIns] at hy
    rcases List.mem_append.mp hy with hy | hy
    · exact ins_lo s n k ok.1 y hy
    · exact blIns_lo r _ k ok.2 y hy
end
theorem prsIns_lo : ∀ (ps : List Pr) (n : Nat), (∀ p ∈ ps, blLo p.2) → ∀ y ∈ prsIns ps n, y.1.Lo
  | [], n, _, y, hy => by cases hy
  | p :: r, n, ok, y, hy => by
    simp only [prsIns] at hy
    rcases List.mem_append.mp hy with hy | hy
    · exact blIns_lo p.2 n 0 (ok p List.mem_cons_self) y hy
    · rcases List.mem_cons.mp hy with rfl | hy
      · trivial
      · exact prsIns_lo r _ (fun q hq => ok q (List.mem_cons_of_mem _ hq)) y hy
theorem Pt.ins_lo {p : Pt} (f : p.Lo) : ∀ y ∈ p.ins, y.1.Lo := fun y hy => by
  simp only [Pt.ins, pgIns] at hy
  rcases List.mem_append.mp hy with hy | hy
  · exact blIns_lo p.m 0 0 f.1 y hy
  · rcases List.mem_cons.mp hy with rfl | hy
    · trivial
    · exact prsIns_lo p.ps _ f.2 y hy
end Pg

set_option Elab.async false
set_option linter.all false
set_option maxRecDepth 100000
set_option maxHeartbeats 4000000
namespace Pg
open PySem
theorem val_ent_at {es : List (Str × Int)} (nd : (es.map (·.1)).Nodup) {x : Str} {i : Int} (h : (x, i) ∈ es) : L2.valV (es.map Sp1.entD) (Sum.inr x) = some (.int i) := by
  induction es with
  | nil => cases h
  | cons e r ih =>
    unfold L2.valV
    rw [List.map_cons, List.find?_cons]
    rw [List.map_cons, List.nodup_cons] at nd
    by_cases hx : e.1 = x
    · have : (x, i) = e := by
        rcases List.mem_cons.mp h with h | h
        · exact h
        · exact absurd (List.mem_map.mpr ⟨_, h, hx.symm⟩) nd.1
      subst this
      simp [Sp1.entD]
    · have hm : (x, i) ∈ r := by
        rcases List.mem_cons.mp h with h | h
        · rw [← h] at hx
          exact absurd rfl hx
        · exact h
      have := ih nd.2 hm
      unfold L2.valV at this
      rw [← this]
      simp [Sp1.entD, hx]
end Pg
namespace Sp1
open PySem PySem.Spec PyProof.Rows L2 Pg
abbrev s_entry : Stmt := inClass (top 49) 7
abbrev N_entry : List Str := ["self", "name"]
theorem sc_entry : FnScope N_entry ["self", "name"] (defScope s_entry) := ⟨rfl, rfl, rfl, by decide +kernel, rfl, by decide +kernel, by decide +kernel⟩
/-- entry, of the class of programs -/
structure PgE0 (K : PySem.W.Frag) (mg : Str → Option Value) (C : Addr) where
  f_entry : Addr
  fd_entry : FuncData
  M_entry : Meth K C "entry" f_entry
  F_entry : Fun K "entry" "Program.entry" s_entry f_entry fd_entry
  b_entry : L2.Binds K fd_entry ["self", "name"] []
def sp_entry0 (K : PySem.W.Frag) (C : Addr) : Sp := fun vs H Q _ => ∃ (x : V) (p : Pt) (n : Str) (i : Nat), vs = [x, .str n] ∧ PgAt K C H x p ∧ p.Fine ∧ p.entN n = some i ∧ Q (.int (i : Int)) H
theorem lookup_mem {x : Str} {i : Nat} : ∀ {es : List (Str × Nat)}, es.lookup x = some i → (x, i) ∈ es
  | [], h => by cases h
  | e :: r, h => by
    unfold List.lookup at h
    split at h
    · rename_i hb
      cases h
      rw [eq_of_beq hb]
      exact List.mem_cons_self
    · exact List.mem_cons_of_mem _ (lookup_mem h)
theorem Pt.ent_nd {p : Pt} (f : p.Fine) : (p.ent.map (·.1)).Nodup := by
  rw [← p.ent_int, List.map_map]
  show ((prsEntN p.ps p.M).map (·.1)).Nodup
  rw [prsEntN_names]
  exact f.prs.nd
theorem Pt.ent_val {p : Pt} (f : p.Fine) {n : Str} {i : Nat} (h : p.entN n = some i) : valV (p.ent.map entD) (Sum.inr n) = some (.int (i : Int)) :=
  val_ent_at (Pt.ent_nd f) (by rw [← p.ent_int]; exact List.mem_map.mpr ⟨(n, i), lookup_mem h, rfl⟩)
section
variable {P : Program} {w : World} {K : PySem.W.Frag} {mg : Str → Option Value} {base : Heap}
theorem ok_entry0 (mi : mg "isinstance" = none) (ms : mg "str" = none) (C : PgC K mg) (U : PgE0 K mg C.C) : FnOk P w K mg base CX0 3 U.f_entry U.fd_entry ["self", "name"] (sp_entry0 K C.C) := by
  refine U.F_entry.ok sc_entry (fun vs H Q E h => ?_) (fun cdv A outer s H vs Q E hr h => ?_)
  · obtain ⟨x, p, n, i, rfl, _⟩ := h
    rfl
  · obtain ⟨x, p, n, i, rfl, hx, f, hn, q⟩ := h
    have nd := sc_entry.nd
    refine ⟨_, pss_cons (ps_if (PW.pt (pw_or (pt_not (pt_val (pe_callB call_isi (by rfl) mi (by decide +kernel) (pa_cons (pv 1) (pa_cons (pe_ty (n := "str") (by rfl) ms (by decide +kernel)) pa_nil))))) (pw_or1 (pt_cmp (pc_dnotin (hu_of hr) (pv 1) (pe_fld (pv 0) rfl))))))
        (pss_one ps_never) pss_nil)
      (pss_one (ps_ret (pe_dget (hu_of hr) (pe_fld (pv 0) rfl) (pv 1) (fun _ _ => rfl)))), ?_⟩
    obtain ⟨a, dx, cv, d, gv, vv, qv, mv, rfl, h1, h2, h3, h4⟩ := hx
    refine ⟨_, rfl, .str n, .ty "str", _, _, true, rfl, .ty _, .base (.str n), kit_ty (by decide +kernel), true, rfl, iteF ?_⟩
    refine ⟨_, rfl, _, rfl, a, C.C, dx, _, _, rfl, h1, C.cl, C.n_entries, pgF_entries _ _ _ _ _ _, d, _, rfl, DGet.k (k := Sum.inr n) h4, ?_⟩
    have hv : valV (p.ent.map entD) (Sum.inr n) = some (.int (i : Int)) := Pt.ent_val f hn
    rw [hv]
    refine ⟨_, rfl, iteF ?_⟩
    refine ⟨_, rfl, a, C.C, dx, _, _, rfl, h1, C.cl, C.n_entries, pgF_entries _ _ _ _ _ _, _, rfl, d, _, rfl, ?_, q⟩
    have z := DGet.k (k := Sum.inr n) h4
    rw [hv] at z
    exact z
end
end Sp1

set_option Elab.async false
set_option linter.all false
set_option maxRecDepth 100000
set_option maxHeartbeats 4000000
/-! o[i] of a list by values (for o[i] += e); a dict comprehension's walk -/
namespace Sp1
open PySem PySem.Spec PyProof.Rows L2
section
variable {X : Cx}
def rGetL (K : PySem.W.Frag) : V → V → Hp → VK → Prop := fun x y H Q => ∃ (p : Addr) (xs : List V) (k : Nat) (z : V), x = .ref p ∧ y = .int (k : Int) ∧ SqL K H p xs ∧ xs[k]? = some z ∧ Q z H
theorem pget_list : PGet X (rGetL X.K) := by
  intro pins s σ H x y v u Q I rx ry h
  obtain ⟨p, xs, k, z, rfl, rfl, hq, he, q⟩ := h
  cases rx
  obtain ⟨t, rfl⟩ := ry
  obtain ⟨its, r, pl, hz⟩ := I.list hq
  obtain ⟨w, ew, rw'⟩ := r.get he
  have hl := r.length
  have hn := line63
  have hk := (List.getElem?_eq_some_iff.mp he).1
  exact wpAny_getItem_list (x := w) pl.isList (by omega) (by omega) (by rw [show ((k : Int)).toNat = k from rfl]; simpa using ew) ⟨z, H, I, rw', q⟩
end
theorem dc_it {J : It} {n : Nat} {G : Hp → Prop} {Y : Nat → Hp → V → Hp → Prop} (w : Walk J n G Y) {g : TG} {tt : TT} {tk tv : TE} {vs : List Nat} {σ : L2.St} {H1 : Hp} {D : Addr} {Qd : Hp → Prop} (Pv : Nat → Hp → Prop) (h0 : Pv 0 (upd H1 D (.dK []))) (hG : ∀ i H, i ≤ n → Pv i H → G H)
    (hs : ∀ i x H H', i < n → Pv i H → Y i H x H' → g x (wipe σ vs) H' fun σ2 H2 => wipe σ2 vs = wipe σ vs ∧ tt σ2 H2 fun b H3 => if b then tk σ2 H3 fun y H4 => tv σ2 H4 fun z H5 => ∃ kvs k, y = kV k ∧ H5 D = some (.dK kvs) ∧ kvs.length < sizeLine ∧ Pv (i + 1) (upd H5 D (.dK (putK kvs k z))) else Pv (i + 1) H3)
    (hd : ∀ H, Pv n H → Qd H) :
    ∃ W : Nat → Nat → Hp → Prop, (∃ m, W 0 m (upd H1 D (.dK []))) ∧ ∀ i m H, W i m H → (J.stop i H ∧ Qd H) ∨ (J.go i H ∧ ∃ Nx : Hp → Prop, (∀ H', Nx H' → ∃ m', m' < m ∧ W (i + 1) m' H') ∧
      ∀ x H', J.yld i H x H' → g x (wipe σ vs) H' fun σ2 H2 => wipe σ2 vs = wipe σ vs ∧ tt σ2 H2 fun b H3 => if b then tk σ2 H3 fun y H4 => tv σ2 H4 fun z H5 => ∃ kvs k, y = kV k ∧ H5 D = some (.dK kvs) ∧ kvs.length < sizeLine ∧ Nx (upd H5 D (.dK (putK kvs k z))) else Nx H3) := by
  refine ⟨fun i m H => m = n - i ∧ i ≤ n ∧ Pv i H, ⟨n, rfl, Nat.zero_le _, h0⟩, ?_⟩
  rintro i m H ⟨rfl, hi, p⟩
  have q := hG i H hi p
  by_cases hlt : i < n
  · refine .inr ⟨w.goes i H hlt q, Pv (i + 1), fun H' p' => ⟨n - (i + 1), by omega, rfl, hlt, p'⟩, fun x H' y => hs i x H H' hlt p (w.yields i H x H' hlt q y)⟩
  · have e : i = n := by omega
    subst e
    exact .inl ⟨w.stops H q, hd H p⟩
end Sp1

set_option Elab.async false
set_option linter.all false
set_option maxRecDepth 100000
set_option maxHeartbeats 4000000
/-! enumerate of a tuple, and of either -/
namespace EnT
open PySem
theorem makes (t : Addr) (items : Array Value) : Meets (Builtin.«enumerate.__new__» ⟨[.type "enumerate", .ref t], []⟩) (fun _ R s => s.heap.IsTuple t items ∧
    R (.ok (.ret (.ref (s.heap.objs.size + 1)))) { s with heap := (s.heap.push { cls := .type "tuple_iterator", data := .fields #[.ref t, .int 0 0] }).push { cls := .type "enumerate", data := .fields #[.none, .bool false, .ref s.heap.objs.size, rawInt 0, .none, .none] } }) :=
  .of_wp fun prog w A R s hyp => by
    obtain ⟨hp, g, d, tk, os⟩ := s
    obtain ⟨ht, fin⟩ := hyp
    have same := sub_enumerate
    have size1 : (hp.push { cls := .type "tuple_iterator", data := .fields #[.ref t, .int 0 0] }).objs.size = hp.objs.size + 1 := Heap.size_push ..
    have fin2 : R (.ok (.ret (.ref (hp.push { cls := .type "tuple_iterator", data := .fields #[.ref t, .int 0 0] }).objs.size))) ⟨(hp.push { cls := .type "tuple_iterator", data := .fields #[.ref t, .int 0 0] }).push { cls := .type "enumerate", data := .fields #[.none, .bool false, .ref hp.objs.size, rawInt 0, .none, .none] }, g, d, tk, os⟩ := by
      rw [size1]
      exact fin
    have here : Heap.IsTuple (Shared.heap ⟨hp, g, d, tk, os⟩) t items := ht
    wp_walk using wpAny_pyIter_tuple here
    refine wpAny_stack_any fun st => wpAny_pure ?_
    split
    · rename_i c _ _ _ _ _
      cases (c == Value.type "enumerate") <;> (wp_walk using wpAny_pyIter_tuple here) <;> exact ⟨_, rfl, fin2⟩
    · wp_walk using wpAny_pyIter_tuple here
      exact ⟨_, rfl, fin2⟩
section
variable {prog : Program} {w : World} {A : Around} {E : Value → Shared → Prop} {s : Shared}
theorem calls {t : Addr} {items : Array Value} {Q : Value → Shared → Prop} (ht : s.heap.IsTuple t items)
    (q : ∀ h', IsEnum h' (s.heap.objs.size + 1) s.heap.objs.size 0 .none → h'.IsTupleIter s.heap.objs.size t 0 → (∀ b o, s.heap.get? b = some o → h'.get? b = some o) → Q (.ref (s.heap.objs.size + 1)) { s with heap := h' }) :
    wpAny (model prog w) A (call (.type "enumerate") [.ref t]) Q E s := by
  refine callType_new F.called_enumerate (by decide) (F.typeCall_enumerate_1 _) (F.newCall_enumerate_1 _) (fun obj => F.args_object_init_2 obj _) F.entry_enumerate_new (makes t items) ⟨ht, ?_⟩
  have size1 : (s.heap.push { cls := .type "tuple_iterator", data := .fields #[.ref t, .int 0 0] }).objs.size = s.heap.objs.size + 1 := Heap.size_push ..
  have stands : IsEnum ((s.heap.push { cls := .type "tuple_iterator", data := .fields #[.ref t, .int 0 0] }).push { cls := .type "enumerate", data := .fields #[.none, .bool false, .ref s.heap.objs.size, rawInt 0, .none, .none] }) (s.heap.objs.size + 1) s.heap.objs.size 0 .none := by
    have here := Heap.get?_push_size (s.heap.push { cls := .type "tuple_iterator", data := .fields #[.ref t, .int 0 0] }) (o := { cls := .type "enumerate", data := .fields #[.none, .bool false, .ref s.heap.objs.size, rawInt 0, .none, .none] }) rfl
    rw [size1] at here
    exact here
  exact ⟨⟨_, stands, rfl⟩, q _ stands ⟨_, Heap.get?_push_of_some _ (Heap.get?_push_size _ rfl), rfl, rfl⟩ fun b o e => Heap.get?_push_of_some _ (Heap.get?_push_of_some _ e)⟩
end
end EnT
namespace Sp1
open PySem PySem.Spec PyProof.Rows L2
/-- the tuple at a, each item with its place in a new pair -/
def IteT (K : PySem.W.Frag) (a : Addr) : It :=
  ⟨fun i H => ∃ (xs : List V) (x : V), SqT K H a xs ∧ xs[i]? = some x, fun i H v H' => ∃ T x, v = .ref T ∧ H T = none ∧ H' = upd H T (.tup [.int (i : Nat), x]) ∧ ∀ xs, SqT K H a xs → xs[i]? = some x, fun i H => ∃ xs : List V, SqT K H a xs ∧ xs.length = i⟩
theorem turn_enumT {P : Program} {w : World} {K : PySem.W.Frag} {elts : List Expr} {kk : Nat} {tpos : Pos} (a e it : Addr) (hne : e ≠ it) (hea : e ≠ a) (hia : a ≠ it) :
    Turn P w K (.Tuple elts kk tpos) (IteT K a) [e, it] e (fun i h => (∃ old, IsEnum h e it ((i : Nat) : Int) old) ∧ h.IsTupleIter it a i) where
  mem := List.mem_cons_self
  obj := by
    rintro i h ⟨⟨old, he⟩, o, ho, hc, hd⟩ b hb
    rcases List.mem_cons.mp hb with rfl | hb
    · exact ⟨_, he, fun v q => nomatch q⟩
    · rw [List.mem_singleton.mp hb]
      exact ⟨o, ho, fun v q => by rw [hd] at q; cases q⟩
  keep := by
    rintro i h h' ⟨⟨old, he⟩, hi⟩ k
    exact ⟨⟨old, k e List.mem_cons_self _ he⟩, hi.at fun o q => k it (List.mem_cons_of_mem _ List.mem_cons_self) o q⟩
  item := by
    intro X hP hw hK hc i pins s σ H E I hf st hg
    subst hP hw hK
    obtain ⟨⟨old, he⟩, hit⟩ := st
    obtain ⟨xs, x, hq, hx⟩ := hg
    obtain ⟨its, rv, p, hz⟩ := I.tuple hq
    obtain ⟨u, hu, ru⟩ := rv.get hx
    have hel : e < s.heap.objs.size := Heap.lt_size he
    have hil : it < s.heap.objs.size := by obtain ⟨_, q, _⟩ := hit; exact Heap.lt_size q
    have hlt : i < its.toArray.size := by
      rw [List.size_toArray]
      exact (List.getElem?_eq_some_iff.mp hu).1
    have D := Draws.tuple (prog := X.prog) (w := X.w) (A := X.A.in1) (I.ok.hd hc) it a hia its.toArray
    refine wpAny_pyNext_enum_itemC D he ⟨hit, p⟩ hlt hne (fun z => ?_) fun u2 h' tk hu2 ho st' hT hsz hk => ?_
    · rcases List.mem_cons.mp z with z | z
      · exact hne z
      · exact hea (List.mem_singleton.mp z)
    · have eu : u2 = u := by
        have h1 : its.toArray[i]? = some u := by simpa using hu
        have h2 : its.toArray[i]? = some u2 := hu2
        rw [h1] at h2
        exact (Option.some.inj h2).symm
      subst eu
      refine ⟨_, rfl, wpAny_letOwnedTupleGo_enum (s := { s with heap := h', toks := tk + 1 }) ho fun h'' he' sb => ?_⟩
      have hT2 : h''.get? s.heap.objs.size = some { cls := .type "tuple", data := .seq #[.int i tk, u2] } := (sb.2 _ (Nat.ne_of_gt hel)).trans hT
      have new : ObjOk X.prog X.w (upd H s.heap.objs.size (.tup [.int (i : Nat), x])) h'' s.heap.objs.size (.tup [.int (i : Nat), x]) :=
        ⟨by show 2 ≤ sizeLine; decide, [.int i tk, u2], .cons ⟨_, rfl⟩ (.cons ru .nil), ⟨_, hT2, rfl, _, rfl⟩⟩
      have I1 : Inv X pins σ (upd H s.heap.objs.size (.tup [.int (i : Nat), x])) { s with heap := h'', toks := tk + 1 } :=
        I.turnedNew (ch := [e, it]) (fun b ob hb q => by
          have b1 : b ≠ e := fun z => hb (by rw [z]; exact List.mem_cons_self)
          have b2 : b ≠ it := fun z => hb (by rw [z]; exact List.mem_cons_of_mem _ List.mem_cons_self)
          exact (sb.2 b b1).trans (hk b ob b1 b2 q)) hf (Nat.le_refl _) new
      refine ⟨.ref s.heap.objs.size, _, I1, rfl, ⟨_, x, rfl, I.hok.fresh (Nat.le_refl _), rfl, fun ys hy => by rw [I.tuple_inj hy hq]; exact hx⟩, ⟨⟨u2, ?_⟩, st'.1.at fun o q => (sb.2 it hne.symm).trans q⟩, fun b hb => ?_⟩
      · have e1 : ((i + 1 : Nat) : Int) = (i : Int) + 1 := by omega
        rw [e1]
        exact he'
      · have hb' : b < s.heap.objs.size := by
          rcases List.mem_cons.mp hb with z | z
          · rw [z]; exact hel
          · rw [List.mem_singleton.mp z]; exact hil
        rw [upd_ne (Nat.ne_of_lt hb')]
        exact (hf b hb).1
  done := by
    intro X hP hw hK hc i pins s σ H E I hf st hg
    subst hP hw hK
    obtain ⟨⟨old, he⟩, hit⟩ := st
    obtain ⟨xs, hq, hx⟩ := hg
    obtain ⟨its, rv, p, hz⟩ := I.tuple hq
    obtain ⟨f0, f1, f2, f3, f4, f5⟩ := hf it (List.mem_cons_of_mem _ List.mem_cons_self)
    have hl := rv.length
    have hn : i = its.toArray.size := by rw [List.size_toArray]; omega
    have D := Draws.tuple (prog := X.prog) (w := X.w) (A := X.A.in1) (I.ok.hd hc) it a hia its.toArray
    exact wpAny_pyNext_enum_endD D he ⟨by rw [← hn]; exact hit, p⟩ fun h' eb => ⟨rfl, I.turned (t' := s.toks) (fun b o hb q => eb b o hb q) f0 f1 f3 f4 f5⟩
  self := fun A i s Q E st h => let ⟨⟨_, he⟩, _⟩ := st; wpAny_pyIter_enum he h
def iEnumT (K : PySem.W.Frag) (ta : TA) : TI := fun σ H R => ta σ H fun vs H1 => ∃ a xs, vs = [.ref a] ∧ SqT K H1 a xs ∧ R (IteT K a) H1
theorem pi_enumT {X : Cx} {e : Expr} {ta : TA} {p pos tpos : Pos} {elts : List Expr} {kk : Nat} (hg : Gl X "enumerate") (hm : X.mg "enumerate" = none) (ha : PA X [e] ta) (hs : starEach [e] X.env = [(false, eval e X.env)] := by rfl) :
    PI X (.Tuple elts kk tpos) (.Call (.Name "enumerate" p) [e] [] pos) (iEnumT X.K ta) := by
  refine ⟨fun pins s σ H R I h => ?_⟩
  refine Call_ (ld_blt I hg hm boot_enumerate (PyProof.Rows.callWith_type1 (thn (ha.run pos pins s σ H _ I h) fun us s1 ⟨vs, H1, I1, r1, q1⟩ => ?_) hs rfl))
  obtain ⟨a, xs, rfl, hq, q⟩ := q1
  rw [Vals.ref1 r1]
  obtain ⟨its, rv, p', hz⟩ := I1.tuple hq
  have hal : (a : Nat) < s1.heap.objs.size := by obtain ⟨o, ho, _⟩ := id p'; exact Heap.lt_size ho
  refine EnT.calls p' fun h' he hit hk => wpAny_pyIter_enum he ?_
  have I2 : Inv X pins σ H1 { s1 with heap := h' } := I1.kept (t' := s1.toks) hk
  refine ⟨s1.heap.objs.size + 1, [s1.heap.objs.size + 1, s1.heap.objs.size], _, _, H1, rfl, I2, turn_enumT a (s1.heap.objs.size + 1) s1.heap.objs.size (Nat.succ_ne_self _) (Nat.ne_of_gt (Nat.lt_succ_of_lt hal)) (Nat.ne_of_lt hal), ⟨⟨.none, he⟩, hit⟩, fun b hb => ?_, q⟩
  have hle : s1.heap.objs.size ≤ b := by
    rcases List.mem_cons.mp hb with z | z
    · rw [z]; exact Nat.le_succ _
    · rw [List.mem_singleton.mp z]; exact Nat.le_refl _
  exact I1.fpOk hle (I1.hok.fresh hle)
theorem walk_enumT {K : PySem.W.Frag} {a : Addr} {xs : List V} : Walk (IteT K a) xs.length (fun H => SqT K H a xs) (YPair (fun i => some (.int (i : Nat))) (fun i => xs[i]?)) := by
  refine ⟨fun i _ hi q => ⟨xs, xs[i], q, List.getElem?_eq_getElem hi⟩, fun _ q => ⟨xs, q, rfl⟩, fun i H v H' _ q y => ?_⟩
  obtain ⟨T, x, h1, h2, h3, h4⟩ := y
  exact ⟨T, .int (i : Nat), x, h1, h2, h3, rfl, h4 xs q⟩
end Sp1

set_option Elab.async false
set_option linter.all false
set_option maxRecDepth 100000
set_option maxHeartbeats 4000000
namespace Pg
open PySem
def Ins.word : Ins → Str
  | .set _ _ => "set"
  | .swap _ _ => "swap"
  | .print _ => "print"
  | .test _ _ => "test"
  | .go _ _ => "go"
  | .bgn _ => "begin"
  | .turn _ => "turn"
  | .again _ => "again"
  | .call _ => "call"
  | .stop => "stop"
  | .ret => "return"
def Ins.rest : Ins → List PyData
  | .set x e => [.str x, e.D]
  | .swap x y => [.str x, .str y]
  | .print e => [e.D]
  | .test e n => [e.D, .int (n : Int)]
  | .go n w => [.int (n : Int), .int w]
  | .bgn e => [e.D]
  | .turn n => [.int (n : Int)]
  | .again n => [.int (n : Int)]
  | .call x => [.str x]
  | .stop => []
  | .ret => []
theorem Ins.D_eq (y : Ins) : y.D = .tuple (.str y.word :: y.rest) := by cases y <;> rfl
def Ins.tag : Ins → Nat
  | .set _ _ => 0
  | .swap _ _ => 1
  | .print _ => 2
  | .test _ _ => 3
  | .go _ _ => 4
  | .bgn _ => 5
  | .turn _ => 6
  | .again _ => 7
  | .call _ => 8
  | .stop => 9
  | .ret => 10
def wordOf : Nat → Str
  | 0 => "set"
  | 1 => "swap"
  | 2 => "print"
  | 3 => "test"
  | 4 => "go"
  | 5 => "begin"
  | 6 => "turn"
  | 7 => "again"
  | 8 => "call"
  | 9 => "stop"
  | _ => "return"
theorem wordOf_eq : ∀ i : Fin 11, ∀ j : Fin 11, decide (wordOf i.1 = wordOf j.1) = decide (i = j) := by decide +kernel
theorem Ins.tag_lt (y : Ins) : y.tag < 11 := by cases y <;> (simp only [Ins.tag]; omega)
theorem Ins.word_tag (y : Ins) : y.word = wordOf y.tag := by cases y <;> rfl
theorem Ins.word_eq (y : Ins) (t : Nat) (ht : t < 11) : y.word = wordOf t ↔ y.tag = t := by
  rw [y.word_tag]
  have := wordOf_eq ⟨y.tag, y.tag_lt⟩ ⟨t, ht⟩
  exact (decide_eq_decide.mp this).trans (by rw [Fin.mk.injEq])
theorem Ins.is_eq (y : Ins) (t : Nat) (ht : t < 11) : decide (L2.V.str y.word = L2.V.str (wordOf t)) = decide (y.tag = t) := by
  exact decide_eq_decide.mpr (Iff.trans (by rw [L2.V.str.injEq]) (y.word_eq t ht))
theorem tag_turn {y : Ins} (h : y.tag = 6) : ∃ n, y = .turn n := by cases y <;> first | exact ⟨_, rfl⟩ | cases h
theorem tag_call {y : Ins} (h : y.tag = 8) : ∃ n, y = .call n := by cases y <;> first | exact ⟨_, rfl⟩ | cases h
theorem To.lt {C : List IK} {M i j k : Nat} (h : To C M i j k) : j < C.length := by
  obtain ⟨y, hy⟩ := h.at_
  exact (List.getElem?_eq_some_iff.mp hy).1
end Pg
namespace Sp1
open PySem PySem.Spec PyProof.Rows L2 Pg
abbrev s_loop_depths : Stmt := top 61
abbrev N_loop_depths : List Str := ["code", "depths", "address", "instruction", "inside", "_"]
theorem sc_loop_depths : FnScope N_loop_depths ["code"] (defScope s_loop_depths) := ⟨rfl, rfl, rfl, by decide +kernel, rfl, by decide +kernel, by decide +kernel⟩
abbrev s_is_free : Stmt := top 60
abbrev N_is_free : List Str := ["expression"]
theorem sc_is_free : FnScope N_is_free ["expression"] (defScope s_is_free) := ⟨rfl, rfl, rfl, by decide +kernel, rfl, by decide +kernel, by decide +kernel⟩
abbrev s_divided : Stmt := top 58
abbrev N_divided : List Str := ["vector", "divisor", "entry"]
theorem sc_divided : FnScope N_divided ["vector"] (defScope s_divided) := ⟨rfl, rfl, rfl, by decide +kernel, rfl, by decide +kernel, by decide +kernel⟩
abbrev s_mv_init : Stmt := inClass (top 63) 0
abbrev N_mv_init : List Str := ["self", "program", "address", "instruction", "name", "_", "at"]
theorem sc_mv_init : FnScope N_mv_init ["self", "program"] (defScope s_mv_init) := ⟨rfl, rfl, rfl, by decide +kernel, rfl, by decide +kernel, by decide +kernel⟩
abbrev s_mv_choices : Stmt := inClass (top 63) 3
abbrev N_mv_choices : List Str := ["self", "address", "instruction", "word"]
theorem sc_mv_choices : FnScope N_mv_choices ["self", "address"] (defScope s_mv_choices) := ⟨rfl, rfl, rfl, by decide +kernel, rfl, by decide +kernel, by decide +kernel⟩
abbrev s_mv_target : Stmt := inClass (top 63) 4
abbrev N_mv_target : List Str := ["self", "address", "choice", "instruction", "word"]
theorem sc_mv_target : FnScope N_mv_target ["self", "address", "choice"] (defScope s_mv_target) := ⟨rfl, rfl, rfl, by decide +kernel, rfl, by decide +kernel, by decide +kernel⟩
abbrev s_mv_value_entries : Stmt := inClass (top 63) 5
abbrev N_mv_value_entries : List Str := ["self", "expression", "rows", "columns", "choice", "last", "_", "constant", "terms", "divisor", "entries", "factor", "name", "start", "part", "entry", "other"]
theorem sc_mv_value_entries : FnScope N_mv_value_entries ["self", "expression", "rows", "columns", "choice"] (defScope s_mv_value_entries) := ⟨rfl, rfl, rfl, by decide +kernel, rfl, by decide +kernel, by decide +kernel⟩
abbrev s_mv_result : Stmt := inClass (top 63) 6
abbrev N_mv_result : List Str := ["self", "address", "rows", "columns", "choice", "instruction", "word", "entries", "divisor", "whole", "entry"]
theorem sc_mv_result : FnScope N_mv_result ["self", "address", "rows", "columns", "choice"] (defScope s_mv_result) := ⟨rfl, rfl, rfl, by decide +kernel, rfl, by decide +kernel, by decide +kernel⟩
abbrev s_mv_after_set : Stmt := inClass (top 63) 7
abbrev N_mv_after_set : List Str := ["self", "instruction", "rows", "columns", "choice", "_", "name", "expression", "entries", "divisor", "whole", "start", "entry"]
theorem sc_mv_after_set : FnScope N_mv_after_set ["self", "instruction", "rows", "columns", "choice"] (defScope s_mv_after_set) := ⟨rfl, rfl, rfl, by decide +kernel, rfl, by decide +kernel, by decide +kernel⟩
abbrev s_mv_after_swap : Stmt := inClass (top 63) 8
abbrev N_mv_after_swap : List Str := ["self", "instruction", "rows", "columns", "_", "one", "other", "one_start", "other_start", "result"]
theorem sc_mv_after_swap : FnScope N_mv_after_swap ["self", "instruction", "rows", "columns"] (defScope s_mv_after_swap) := ⟨rfl, rfl, rfl, by decide +kernel, rfl, by decide +kernel, by decide +kernel⟩
structure MvF (K : PySem.W.Frag) (mg : Str → Option Value) extends PgF K mg where
  m_range : mg "range" = none
  m_enumerate : mg "enumerate" = none
  m_zip : mg "zip" = none
  m_list : mg "list" = none
  f_loop_depths : Addr
  fd_loop_depths : FuncData
  D_loop_depths : Dn K mg "loop_depths" s_loop_depths ["code"] f_loop_depths fd_loop_depths
  f_is_free : Addr
  fd_is_free : FuncData
  D_is_free : Dn K mg "is_free" s_is_free ["expression"] f_is_free fd_is_free
  f_divided : Addr
  fd_divided : FuncData
  D_divided : Dn K mg "divided" s_divided ["vector"] f_divided fd_divided
structure MvC (K : PySem.W.Frag) (mg : Str → Option Value) where
  C : Addr
  g : mg "Moves" = some (.ref C)
  cl : Cls K C
  n_instructions : NoAttr K C "instructions"
  n_order : NoAttr K C "order"
  n_size : NoAttr K C "size"
  n_entries : NoAttr K C "entries"
  n_returns : NoAttr K C "returns"
  n_callers : NoAttr K C "callers"
  n_depths : NoAttr K C "depths"
  n__places : NoAttr K C "_places"
  f_init : Addr
  fd_init : FuncData
  M_init : Mk K C f_init
  F_init : Fun K "__init__" "Moves.__init__" s_mv_init f_init fd_init
  b_init : L2.Binds K fd_init ["self", "program"] []
  f_choices : Addr
  fd_choices : FuncData
  M_choices : Meth K C "choices" f_choices
  F_choices : Fun K "choices" "Moves.choices" s_mv_choices f_choices fd_choices
  b_choices : L2.Binds K fd_choices ["self", "address"] []
  f_target : Addr
  fd_target : FuncData
  M_target : Meth K C "target" f_target
  F_target : Fun K "target" "Moves.target" s_mv_target f_target fd_target
  b_target : L2.Binds K fd_target ["self", "address", "choice"] []
  f_value_entries : Addr
  fd_value_entries : FuncData
  M_value_entries : Meth K C "value_entries" f_value_entries
  F_value_entries : Fun K "value_entries" "Moves.value_entries" s_mv_value_entries f_value_entries fd_value_entries
  b_value_entries : L2.Binds K fd_value_entries ["self", "expression", "rows", "columns", "choice"] []
  f_result : Addr
  fd_result : FuncData
  M_result : Meth K C "result" f_result
  F_result : Fun K "result" "Moves.result" s_mv_result f_result fd_result
  b_result : L2.Binds K fd_result ["self", "address", "rows", "columns", "choice"] []
  f_after_set : Addr
  fd_after_set : FuncData
  M_after_set : Meth K C "_after_set" f_after_set
  F_after_set : Fun K "_after_set" "Moves._after_set" s_mv_after_set f_after_set fd_after_set
  b_after_set : L2.Binds K fd_after_set ["self", "instruction", "rows", "columns", "choice"] []
  f_after_swap : Addr
  fd_after_swap : FuncData
  M_after_swap : Meth K C "_after_swap" f_after_swap
  F_after_swap : Fun K "_after_swap" "Moves._after_swap" s_mv_after_swap f_after_swap fd_after_swap
  b_after_swap : L2.Binds K fd_after_swap ["self", "instruction", "rows", "columns"] []
theorem ixnat {n j : Nat} (hj : j < n) : ixN n (j : Int) = some j := by
  unfold ixN
  rw [if_pos (by omega), if_pos (by omega)]
  simp
theorem at0 {α : Type} {x : α} {xs : List α} : atI (x :: xs) 0 = some x := atI_nat (j := 0) rfl
theorem at1 {α : Type} {x y : α} {xs : List α} : atI (x :: y :: xs) 1 = some y := atI_nat (j := 1) rfl
theorem at2 {α : Type} {x y z : α} {xs : List α} : atI (x :: y :: z :: xs) 2 = some z := atI_nat (j := 2) rfl
theorem at3 {α : Type} {x y z u : α} {xs : List α} : atI (x :: y :: z :: u :: xs) 3 = some u := atI_nat (j := 3) rfl
/-- the instruction behind a value -/
theorem dp_ins {K : PySem.W.Frag} {H : Hp} {v : V} {y : Ins} (h : Dp K H v y.D) : ∃ (a : Addr) (ys : List V), v = .ref a ∧ SqT K H a (.str y.word :: ys) ∧ DpAll K H ys y.rest := by
  rw [y.D_eq] at h
  obtain ⟨a, ys, rfl, hT, hA⟩ := dp_tup h
  cases hA with
  | cons h1 h2 =>
    cases h1
    exact ⟨a, _, rfl, hT, h2⟩
theorem cdv_at {K : PySem.W.Frag} {H : Hp} {ys : List V} {p : Pt} (h : DpAll K H ys p.code) {i : Nat} {v : V} (hv : ys[i]? = some v) : ∃ y, p.ins[i]? = some y ∧ Dp K H v y.1.D := by
  obtain ⟨d, hd, hdp⟩ := dpAll_at h hv
  rw [← p.ins_code, List.getElem?_map] at hd
  obtain ⟨y, hy, rfl⟩ := Option.map_eq_some_iff.mp hd
  exact ⟨y, hy, hdp⟩
theorem ins_tupD {p : Pt} (f : p.Fine) {i : Nat} {y : IK} (h : p.ins[i]? = some y) : tupD y.1.D = true :=
  tupAll_iff.mp (code_tupD f) _ (List.mem_of_getElem? (Pt.code_at h))
section
variable {P : Program} {w : World} {K : PySem.W.Frag} {mg : Str → Option Value} {base : Heap}
def sp_loop_depths (K : PySem.W.Frag) : Sp := fun vs H Q _ => ∃ (cv : V) (p : Pt), vs = [cv] ∧ CdV K H cv p.code ∧ p.Fine ∧ p.code.length ≤ 1000 ∧ ∀ H' t xs, Same H H' → SqT K H' t xs → Q (.ref t) H'
theorem ok_loop_depths (T : MvF K mg) : FnOk P w K mg base CX0 3 T.f_loop_depths T.fd_loop_depths ["code"] (sp_loop_depths K) := by
  refine T.D_loop_depths.F.ok sc_loop_depths (fun vs H Q E h => ?_) (fun cdv A outer s H vs Q E hr h => ?_)
  · obtain ⟨cv, p, rfl, _⟩ := h
    rfl
  · obtain ⟨cv, p, rfl, ⟨c, ys, rfl, hf, hA⟩, f, hl, q⟩ := h
    have nd := sc_loop_depths.nd
    have yl := dpAll_len hA
    have il : p.ins.length = ys.length := by rw [p.ins_len, yl]
    refine ⟨_, (pss_cons (ps_setLc (i := 1) (own := [("_", 5)]) (g := (gName 5)) (tt := tYes) rfl nd rfl rfl (sw_true rfl rfl rfl (by decide +kernel)) (pi_tup (pv 0)) (blkOk_by (N := N_loop_depths) (sc := defScope s_loop_depths) (by decide +kernel)) (fun _ _ _ _ _ => (pg_name (i := 5) nd rfl (.inl rfl))) (fun _ _ _ _ _ => pts_nil) (fun _ _ _ _ _ => pe_int))
      (pss_cons (ps_for PassesOwn.never rfl (pi_enumT (by rfl) T.m_enumerate (pa_cons (pv 0) pa_nil)) (pg_tup rfl (pgs_cons (pg_name (i := 2) nd rfl (.inl rfl)) (pgs_cons (pg_name (i := 3) nd rfl (.inl rfl)) pgs_nil)))
      (pss_one (ps_if (pt_cmpR op_eq (pe_ix (r := rIxT K) ix_tup (pv 3) pe_int (fun _ _ => rfl)) pe_str (nomark _))
        (pss_one (ps_for PassesOwn.never rfl (pi_range2 (by rfl) T.m_range (pa_cons (pv 2) (pa_cons (pe_ix (r := rIxT K) ix_tup (pv 3) pe_int (fun _ _ => rfl)) pa_nil))) (pg_name (i := 4) nd rfl (.inl rfl))
          (pss_one (ps_augS (pv 1) (pv 4) pget_list pe_int ip_add set_list))))
        pss_nil)))
      (pss_one (ps_ret (pe_callTy call_tuple_of (by rfl) T.m_tuple (by decide +kernel) (pa_cons (pv 1) pa_nil)))))), ?_⟩
    have hS : SqT K H c ys := hf.sqt
    refine ⟨_, rfl, c, rfl, ⟨_, hS⟩, fun D nD => ?_⟩
    refine lc_it (walk_tup (K := K) (a := c) (xs := ys)) (fun i H' => Same H H' ∧ ∃ ns : List Int, ns.length = i ∧ H' D = some (.lst (ns.map V.int))) ⟨same_new nD, [], rfl, upd_same⟩ (fun i H' _ h => Same.sqt h.1 hS) ?_ ?_
    · rintro i x H1 H2 hi ⟨s1, ns, nl, hD⟩ ⟨rfl, _⟩
      refine ⟨rfl, ?_⟩
      dsimp only [tYes]
      refine iteT ⟨_, hD, by rw [sizeLine_eq, List.length_map]; omega, same_at nD s1, ns ++ [0], by simp [nl], ?_⟩
      rw [upd_same, List.map_append]
      rfl
    · rintro H1 ⟨s1, ns, nl, hD⟩
      refine gn (σ' := [some (.ref c), some (.ref D), none, none, none, none]) rfl ?_
      refine ⟨_, rfl, c, ys, rfl, Same.sqt s1 hS, ?_⟩
      refine for_it (walk_enumT (K := K) (a := c) (xs := ys)) (fun i σ H' => Same H H' ∧ ∃ (ns : List Int) (y z w : Option V), ns.length = ys.length ∧ H' D = some (.lst (ns.map V.int)) ∧ σ = [some (.ref c), some (.ref D), y, z, w, none]) ⟨s1, ns, none, none, none, nl, hD, rfl⟩ (fun i σ H' _ h => Same.sqt h.1 hS) ?_ ?_
      · rintro i x σ H2 H3 hi ⟨s2, ns, y, z, w, nl, hD2, rfl⟩ ⟨T1, x1, x2, rfl, nT, rfl, g1, g2⟩
        cases g1
        refine ⟨T1, _, rfl, SqT.of upd_same, rfl, _, _, rfl, _, _, rfl, rfl, ?_⟩
        have s3 : Same H (upd H2 T1 (.tup [.int (i : Nat), x2])) := s2.trans (same_new nT)
        have hD3 := same_new (o := .tup [.int (i : Nat), x2]) nT _ _ hD2
        generalize upd H2 T1 (.tup [.int (i : Nat), x2]) = H3 at s3 hD3 ⊢
        obtain ⟨yy, hy, hdp⟩ := cdv_at hA g2
        obtain ⟨a, zs, rfl, hT, hR⟩ := dp_ins (dp_keep (Same.tk s3) hdp (ins_tupD f hy))
        dsimp only [List.set]
        refine ⟨_, rfl, a, _, 0, _, rfl, rfl, hT, at0, ?_⟩
        refine ⟨rfl, ?_⟩
        have ew : decide (V.str yy.1.word = V.str "turn") = decide (yy.1.tag = 6) := yy.1.is_eq 6 (by decide)
        rw [ew]
        refine ⟨_, rfl, ite2 (fun ht => ?_) (fun ht => ?_)⟩
        · obtain ⟨n, hn⟩ := tag_turn (y := yy.1) (of_decide_eq_true (p := yy.1.tag = 6) ht)
          have fl := Pt.flow f hy
          obtain ⟨y1, k⟩ := yy
          subst hn
          obtain ⟨m, rfl, t1, t2⟩ := fl
          have nlt := t2.lt
          cases hR with
          | cons r1 r2 =>
          cases r1
          cases r2
          refine ⟨_, rfl, _, rfl, a, _, 1, _, rfl, rfl, hT, at1, ?_⟩
          refine ⟨_, _, rfl, ⟨by omega, by omega, by omega, by omega⟩, ?_⟩
          refine for_it walk_range (fun j σ H' => Same H H' ∧ ∃ (ns : List Int) (w : Option V), ns.length = ys.length ∧ H' D = some (.lst (ns.map V.int)) ∧ σ = [some (.ref c), some (.ref D), some (.int (i : Nat)), some (.ref a), w, none]) ⟨s3, ns, w, nl, hD3, rfl⟩ (fun _ _ _ _ _ => trivial) ?_ ?_
          · rintro j x σ H4 H5 hj ⟨s4, ns, w, nl, hD4, rfl⟩ ⟨rfl, rfl⟩
            have hjl : i + j < ns.length := by rw [nl, ← il]; omega
            have e1 : ((i : Int) + (j : Int)) = ((i + j : Nat) : Int) := by omega
            refine gn (σ' := [some (.ref c), some (.ref D), some (.int (i : Nat)), some (.ref a), some (.int ((i + j : Nat) : Int)), none]) (by rw [← e1]; rfl) ?_
            refine ⟨_, rfl, _, rfl, D, _, i + j, .int ns[i + j], rfl, rfl, SqL.of hD4, by rw [List.getElem?_map, List.getElem?_eq_getElem hjl]; rfl, _, _, rfl, rfl, D, _, _, i + j, rfl, rfl, hD4, ixnat (by rw [List.length_map]; exact hjl), ?_⟩
            refine ⟨same_at nD s4, ns.set (i + j) (ns[i + j] + 1), _, by rw [List.length_set]; exact nl, ?_, rfl⟩
            rw [upd_same, List.map_set]
          · rintro σ H4 ⟨s4, ns, w, nl, hD4, rfl⟩
            exact ⟨s4, ns, _, _, w, nl, hD4, rfl⟩
        · exact ⟨s3, ns, _, _, _, nl, hD3, rfl⟩
      · rintro σ H2 ⟨s2, ns, y, z, w, nl, hD2, rfl⟩
        exact ⟨_, rfl, D, _, rfl, .inl ⟨SqL.of hD2, fun l nl' => q _ l _ (s2.trans (same_new nl')) (SqT.of upd_same)⟩⟩
end
end Sp1

set_option Elab.async false
set_option linter.all false
set_option maxRecDepth 100000
set_option maxHeartbeats 8000000
namespace Pg
open PySem
/-- an instruction is shallow -/
def Flt (d : PyData) : Prop := d.depth ≤ 8
theorem go_flat (n w : Int) : Flt (goD n w) := by
  unfold Flt goD
  simp only [depth_tup, depthAll_cons, depthAll_nil, depth_str, depth_int]
  omega
theorem app_flat {l m : List PyData} (a : ∀ d ∈ l, Flt d) (b : ∀ d ∈ m, Flt d) : ∀ d ∈ l ++ m, Flt d := fun d h => (List.mem_append.mp h).elim (a d) (b d)
theorem cons_flat {x : PyData} {m : List PyData} (a : Flt x) (b : ∀ d ∈ m, Flt d) : ∀ d ∈ x :: m, Flt d := fun d h => (List.mem_cons.mp h).elim (fun e => e ▸ a) (b d)
theorem nil_flat : ∀ d ∈ ([] : List PyData), Flt d := fun d h => by cases h
mutual
theorem st_flat : ∀ (s : St) (n : Int), ∀ d ∈ s.code n, Flt d
  | .ite e a b, n => by
    have := e.depth
    simp only [St.code]
    refine cons_flat ?_ (app_flat (bl_flat a _) (cons_flat (go_flat _ _) (app_flat (bl_flat b _) (cons_flat (go_flat _ _) nil_flat))))
    simp only [Flt, depth_tup, depthAll_cons, depthAll_nil, depth_str, depth_int]
    omega
  | .whl e b, n => by
    have := e.depth
    simp only [St.code]
    refine cons_flat (go_flat _ _) (cons_flat ?_ (app_flat (bl_flat b _) (cons_flat (go_flat _ _) nil_flat)))
    simp only [Flt, depth_tup, depthAll_cons, depthAll_nil, depth_str, depth_int]
    omega
  | .rep e b, n => by
    have := e.depth
    simp only [St.code]
    refine cons_flat ?_ (cons_flat ?_ (app_flat (bl_flat b _) (cons_flat ?_ nil_flat))) <;>
    · simp only [Flt, depth_tup, depthAll_cons, depthAll_nil, depth_str, depth_int]
      omega
  | .set x e, n => by
    have := e.depth
    simp only [St.code]
    refine cons_flat ?_ nil_flat
    simp only [St.D, Flt, depth_tup, depthAll_cons, depthAll_nil, depth_str, depth_int]
    omega
  | .swap x y, n => by
    simp only [St.code]
    refine cons_flat ?_ nil_flat
    simp only [St.D, Flt, depth_tup, depthAll_cons, depthAll_nil, depth_str, depth_int]
    omega
  | .print e, n => by
    have := e.depth
    simp only [St.code]
    refine cons_flat ?_ nil_flat
    simp only [St.D, Flt, depth_tup, depthAll_cons, depthAll_nil, depth_str, depth_int]
    omega
  | .call p, n => by
    simp only [St.code]
    refine cons_flat ?_ nil_flat
    simp only [St.D, Flt, depth_tup, depthAll_cons, depthAll_nil, depth_str, depth_int]
    omega
theorem bl_flat : ∀ (b : List St) (n : Int), ∀ d ∈ blCode b n, Flt d
  | [], n => by simp only [blCode]; exact nil_flat
  | s :: r, n => by simp only [blCode]; exact app_flat (st_flat s n) (bl_flat r _)
end
theorem one_flat (x : Str) : Flt (.tuple [.str x]) := by
  simp only [Flt, depth_tup, depthAll_cons, depthAll_nil, depth_str, depth_int]
  omega
theorem prs_flat : ∀ (ps : List Pr) (n : Int), ∀ d ∈ prsCode ps n, Flt d
  | [], n => by simp only [prsCode]; exact nil_flat
  | p :: r, n => by simp only [prsCode]; exact app_flat (bl_flat _ _) (cons_flat (one_flat _) (prs_flat r _))
theorem pg_flat (m : List St) (ps : List Pr) : ∀ d ∈ pgCode m ps, Flt d := app_flat (bl_flat m 0) (cons_flat (one_flat _) (prs_flat ps _))
theorem Pt.code_shaped {p : Pt} (f : p.Fine) : SeqAt.shaped (.tuple p.code) = true := by
  refine shaped_of (by rw [tupD_tuple]; exact Sp1.code_tupD f) ?_
  rw [depth_tup]
  have : PyData.depthAll p.code ≤ 8 := depthAll_le fun d hd => pg_flat p.m p.ps d hd
  omega
theorem least (f : Nat → Bool) (k : Nat) : ∀ (d : Nat), f (k + d) = true → ∃ j, k ≤ j ∧ j ≤ k + d ∧ f j = true ∧ ∀ m, k ≤ m → m < j → f m = false
  | 0, h => ⟨k, Nat.le_refl _, by omega, by rw [Nat.add_zero] at h; exact h, fun m h1 h2 => by omega⟩
  | d + 1, h => by
    by_cases e : ∃ d', d' ≤ d ∧ f (k + d') = true
    · obtain ⟨d', h1, h2⟩ := e
      obtain ⟨j, j1, j2, j3, j4⟩ := least f k d' h2
      exact ⟨j, j1, by omega, j3, j4⟩
    · refine ⟨k + (d + 1), by omega, Nat.le_refl _, h, fun m h1 h2 => ?_⟩
      cases hm : f m with
      | false => rfl
      | true => exact absurd ⟨m - k, by omega, by rw [show k + (m - k) = m by omega]; exact hm⟩ e
  termination_by d => d
theorem prs_ret {C : List IK} : ∀ (ps : List Pr) (n : Nat), Has C n (prsIns ps n) → ∀ x ∈ ps.map (·.1), ∃ k d, (prsEntN ps n).lookup x = some k ∧ C[k + d]? = some (.ret, 0)
  | [], _, _, x, hx => by cases hx
  | p :: r, n, h, x, hx => by
    have h1 := Has.app h
    rw [blIns_len] at h1
    have h2 := Has.cons h1.2
    by_cases e : x = p.1
    · subst e
      exact ⟨n, blSz p.2, by simp [prsEntN, List.lookup], h2.1⟩
    · have hx' : x ∈ r.map (·.1) := by
        rcases List.mem_cons.mp hx with h | h
        · exact absurd h e
        · exact h
      obtain ⟨k, d, k1, k2⟩ := prs_ret r (n + blSz p.2 + 1) h2.2 x hx'
      refine ⟨k, d, ?_, k2⟩
      have : (x == p.1) = false := by simp [e]
      simp only [prsEntN, List.lookup, this]
      exact k1
theorem ret_self : PyData.eqv retD retD = true := by decide +kernel
/-- the first return behind an entry -/
theorem Pt.first_ret {p : Pt} {x : Str} {n : Nat} (hx : x ∈ p.ps.map (·.1)) (hn : p.entN x = some n) : ∃ j z, n ≤ j ∧ p.code[j]? = some z ∧ PyData.eqv z retD = true ∧ ∀ (m : Nat) (z' : PyData), n ≤ m → m < j → p.code[m]? = some z' → PyData.eqv z' retD = false := by
  obtain ⟨k, d, h1, h2⟩ := prs_ret p.ps p.M p.has.2.2 x hx
  have ek : k = n := by
    have : p.entN x = some k := h1
    rw [hn] at this
    exact (Option.some.inj this).symm
  subst ek
  have hc := Pt.code_at h2
  obtain ⟨j, j1, j2, j3, j4⟩ := least (fun m => match p.code[m]? with | some z => PyData.eqv z retD | none => false) k d (by
    show (match p.code[k + d]? with | some z => PyData.eqv z retD | none => false) = true
    rw [hc]
    exact ret_self)
  cases hj : p.code[j]? with
  | none =>
    rw [hj] at j3
    cases j3
  | some z =>
    rw [hj] at j3
    refine ⟨j, z, j1, hj, j3, fun m z' h1 h2 h3 => ?_⟩
    have := j4 m h1 h2
    rw [h3] at this
    exact this
theorem lookup_nodup {es : List (Str × Nat)} (nd : (es.map (·.1)).Nodup) {x : Str} {i : Nat} (h : (x, i) ∈ es) : es.lookup x = some i := by
  induction es with
  | nil => cases h
  | cons e r ih =>
    rw [List.map_cons, List.nodup_cons] at nd
    unfold List.lookup
    rcases List.mem_cons.mp h with h | h
    · subst h
      simp
    · have : (x == e.1) = false := by
        refine beq_eq_false_iff_ne.mpr fun z => nd.1 ?_
        rw [← z]
        exact List.mem_map.mpr ⟨_, h, rfl⟩
      rw [this]
      exact ih nd.2 h
theorem Pt.ent_at {p : Pt} (f : p.Fine) {i : Nat} {pr : Pr} (h : p.ps[i]? = some pr) : ∃ n, p.entN pr.1 = some n ∧ p.ent[i]? = some (pr.1, (n : Int)) := by
  have h1 : ((prsEntN p.ps p.M).map (·.1))[i]? = some pr.1 := by
    rw [prsEntN_names, List.getElem?_map, h]
    rfl
  rw [List.getElem?_map] at h1
  obtain ⟨e, he, e1⟩ := Option.map_eq_some_iff.mp h1
  have nd : ((prsEntN p.ps p.M).map (·.1)).Nodup := by
    rw [prsEntN_names]
    exact f.prs.nd
  refine ⟨e.2, lookup_nodup nd (by rw [← e1]; exact List.mem_of_getElem? he), ?_⟩
  rw [← p.ent_int, List.getElem?_map, he, ← e1]
  rfl
theorem Pt.ent_len (p : Pt) : p.ent.length = p.ps.length := by
  rw [← p.ent_int, List.length_map, ← List.length_map (f := (·.1)), prsEntN_names, List.length_map]
end Pg

set_option Elab.async false
set_option linter.all false
set_option maxRecDepth 100000
set_option maxHeartbeats 8000000
namespace Sp1
open PySem PySem.Spec PyProof.Rows L2 Pg
theorem hu65 {A : Around} {k : Nat} (hr : Room k A) : A.units + 65 < cLine := by
  have := hr.un
  omega
theorem pe_fldK {X : Cx} {K : PySem.W.Frag} {e : Expr} {f : Str} {pos : Pos} {ta : TE} (hK : X.K = K) (he : PE X e ta) (hb : attributeBase e f X.env (eval e X.env) = eval e X.env) : PE X (e.Attribute f pos) (tFld K ta f) := by
  subst hK
  exact pe_fld he hb
theorem lk_eq {f : Str} {v : V} {fs : List (Str × V)} : (putF f v fs).lookup f = some v := by rw [lookup_putF, if_pos rfl]
theorem lk_ne {f g : Str} {v : V} {fs : List (Str × V)} {r : Option V} (h : g ≠ f) (e : fs.lookup g = r) : (putF f v fs).lookup g = r := by rw [lookup_putF, if_neg h]; exact e
def mf1 (iv : V) := putF "instructions" iv []
def mf2 (iv ov : V) := putF "order" ov (mf1 iv)
def mf3 (iv ov nv : V) := putF "size" nv (mf2 iv ov)
def mf4 (iv ov nv ev : V) := putF "entries" ev (mf3 iv ov nv)
def mf5 (iv ov nv ev rv : V) := putF "returns" rv (mf4 iv ov nv ev)
def mf6 (iv ov nv ev rv cv : V) := putF "callers" cv (mf5 iv ov nv ev rv)
def mf7 (iv ov nv ev rv cv dv : V) := putF "depths" dv (mf6 iv ov nv ev rv cv)
def mf8 (iv ov nv ev rv cv dv pv : V) := putF "_places" pv (mf7 iv ov nv ev rv cv dv)
section
variable {iv ov nv ev rv cv dv pv : V}
theorem mf1_len : (mf1 iv).length < 2 := putF_lt (by decide)
theorem mf2_len : (mf2 iv ov).length < 3 := putF_lt mf1_len
theorem mf3_len : (mf3 iv ov nv).length < 4 := putF_lt mf2_len
theorem mf4_len : (mf4 iv ov nv ev).length < 5 := putF_lt mf3_len
theorem mf5_len : (mf5 iv ov nv ev rv).length < 6 := putF_lt mf4_len
theorem mf6_len : (mf6 iv ov nv ev rv cv).length < 7 := putF_lt mf5_len
theorem mf7_len : (mf7 iv ov nv ev rv cv dv).length < 8 := putF_lt mf6_len
theorem mf4_ent : (mf4 iv ov nv ev).lookup ("entries" : Str) = some ev := lk_eq
theorem mf4_ins : (mf4 iv ov nv ev).lookup ("instructions" : Str) = some iv := lk_ne (by decide +kernel) (lk_ne (by decide +kernel) (lk_ne (by decide +kernel) lk_eq))
theorem mf5_ent : (mf5 iv ov nv ev rv).lookup ("entries" : Str) = some ev := lk_ne (by decide +kernel) mf4_ent
theorem mf5_ret : (mf5 iv ov nv ev rv).lookup ("returns" : Str) = some rv := lk_eq
theorem mf6_ins : (mf6 iv ov nv ev rv cv).lookup ("instructions" : Str) = some iv := lk_ne (by decide +kernel) (lk_ne (by decide +kernel) mf4_ins)
theorem mf6_ent : (mf6 iv ov nv ev rv cv).lookup ("entries" : Str) = some ev := lk_ne (by decide +kernel) mf5_ent
theorem mf6_ret : (mf6 iv ov nv ev rv cv).lookup ("returns" : Str) = some rv := lk_ne (by decide +kernel) mf5_ret
theorem mf6_cal : (mf6 iv ov nv ev rv cv).lookup ("callers" : Str) = some cv := lk_eq
theorem mf8_ins : (mf8 iv ov nv ev rv cv dv pv).lookup ("instructions" : Str) = some iv := lk_ne (by decide +kernel) (lk_ne (by decide +kernel) mf6_ins)
theorem mf8_ent : (mf8 iv ov nv ev rv cv dv pv).lookup ("entries" : Str) = some ev := lk_ne (by decide +kernel) (lk_ne (by decide +kernel) mf6_ent)
theorem mf8_pla : (mf8 iv ov nv ev rv cv dv pv).lookup ("_places" : Str) = some pv := lk_eq
theorem mf8_none {m : Str} (h1 : m ≠ "instructions") (h2 : m ≠ "order") (h3 : m ≠ "size") (h4 : m ≠ "entries") (h5 : m ≠ "returns") (h6 : m ≠ "callers") (h7 : m ≠ "depths") (h8 : m ≠ "_places") : (mf8 iv ov nv ev rv cv dv pv).lookup m = none :=
  lk_ne h8 (lk_ne h7 (lk_ne h6 (lk_ne h5 (lk_ne h4 (lk_ne h3 (lk_ne h2 (lk_ne h1 rfl)))))))
theorem mf8_choices : (mf8 iv ov nv ev rv cv dv pv).lookup ("choices" : Str) = none := mf8_none (by decide +kernel) (by decide +kernel) (by decide +kernel) (by decide +kernel) (by decide +kernel) (by decide +kernel) (by decide +kernel) (by decide +kernel)
theorem mf8_target : (mf8 iv ov nv ev rv cv dv pv).lookup ("target" : Str) = none := mf8_none (by decide +kernel) (by decide +kernel) (by decide +kernel) (by decide +kernel) (by decide +kernel) (by decide +kernel) (by decide +kernel) (by decide +kernel)
theorem mf8_value : (mf8 iv ov nv ev rv cv dv pv).lookup ("value_entries" : Str) = none := mf8_none (by decide +kernel) (by decide +kernel) (by decide +kernel) (by decide +kernel) (by decide +kernel) (by decide +kernel) (by decide +kernel) (by decide +kernel)
theorem mf8_result : (mf8 iv ov nv ev rv cv dv pv).lookup ("result" : Str) = none := mf8_none (by decide +kernel) (by decide +kernel) (by decide +kernel) (by decide +kernel) (by decide +kernel) (by decide +kernel) (by decide +kernel) (by decide +kernel)
theorem mf8_set : (mf8 iv ov nv ev rv cv dv pv).lookup ("_after_set" : Str) = none := mf8_none (by decide +kernel) (by decide +kernel) (by decide +kernel) (by decide +kernel) (by decide +kernel) (by decide +kernel) (by decide +kernel) (by decide +kernel)
theorem mf8_swap : (mf8 iv ov nv ev rv cv dv pv).lookup ("_after_swap" : Str) = none := mf8_none (by decide +kernel) (by decide +kernel) (by decide +kernel) (by decide +kernel) (by decide +kernel) (by decide +kernel) (by decide +kernel) (by decide +kernel)
end
def plD (names : List Str) : List (Key × V) := names.zipIdx.map fun e => (Sum.inr e.1, V.int (e.2 : Int))
/-- the moves of a program, at x -/
def MvAt (K : PySem.W.Frag) (C : Addr) (H : Hp) (x : Addr) (p : Pt) : Prop := ∃ dx iv ov nv ev rv cv dv pv, H x = some (.ins C dx (mf8 iv ov nv (.ref ev) rv cv dv (.ref pv))) ∧ CdV K H iv p.code ∧ H ev = some (.dK (p.ent.map entD)) ∧ H pv = some (.dK (plD p.names))
theorem MvAt.same {K : PySem.W.Frag} {C : Addr} {H H' : Hp} {x : Addr} {p : Pt} (h : MvAt K C H x p) (f : p.Fine) (s : Same H H') : MvAt K C H' x p := by
  obtain ⟨dx, iv, ov, nv, ev, rv, cv, dv, pv, h1, h2, h3, h4⟩ := h
  exact ⟨dx, iv, ov, nv, ev, rv, cv, dv, pv, s _ _ h1, h2.tk (code_tupD f) (Same.tk s), s _ _ h3, s _ _ h4⟩
/-- but one place may change, neither tuple nor frozen, and none of its parts -/
theorem PgAt.sxi {K : PySem.W.Frag} {PC C dx x : Addr} {H H' : Hp} {v : V} {p : Pt} (h : PgAt K PC H v p) (f : p.Fine) (hx : H x = some (.ins C dx [])) (s : SX x H H') : PgAt K PC H' v p := by
  obtain ⟨a, pdx, cv, d, gv, vv, qv, mv, e, h1, h2, h3, h4⟩ := h
  have tk : TK H H' := ⟨fun b xs hb => s b _ (ne_of hb hx (by intro z; cases z)) hb, fun b o u hb => s b _ (ne_of hb hx (by intro z; cases z)) hb⟩
  have ha : a ≠ x := fun z => by
    rw [z, hx] at h1
    injection h1 with h1
    injection h1 with _ _ h1
    have := pgF_code cv (.ref d) gv vv qv mv
    rw [← h1] at this
    cases this
  exact ⟨a, pdx, cv, d, gv, vv, qv, mv, e, s _ _ ha h1, h2.tk f tk, h3.tk (code_tupD f) tk, s _ _ (ne_of h4 hx (by intro z; cases z)) h4⟩
theorem same_unlock {H H' : Hp} {d : Addr} {u : HO} {od : Obj} (h : H d = some u) (s : Same (upd H d (.frz od u)) H') : Same H (upd H' d u) := fun b o e => by
  by_cases hb : b = d
  · subst hb
    rw [upd_same]
    rw [h] at e
    exact e
  · rw [upd_ne hb]
    exact s b o (by rw [upd_ne hb]; exact e)
theorem tk_lock {H : Hp} {d : Addr} {u : HO} {o : HO} (h : H d = some u) (h1 : ∀ xs, u ≠ .tup xs) (h2 : ∀ b v, u ≠ .frz b v) : TK H (upd H d o) :=
  ⟨fun b xs e => by rw [upd_ne (ne_of e h (fun z => h1 _ z.symm))]; exact e, fun b ob v e => by rw [upd_ne (ne_of e h (fun z => h2 _ _ z.symm))]; exact e⟩
/-- all but the lists that H0 doesn't know stand as they stood -/
def KL (H0 H6 H' : Hp) : Prop := ∀ b o, H6 b = some o → ((∀ xs, o ≠ .lst xs) ∨ H0 b ≠ none) → H' b = some o
theorem plD_put {names : List Str} (nd : names.Nodup) {i : Nat} {x : Str} (h : names[i]? = some x) : putK ((plD names).take i) (Sum.inr x) (.int ((i : Nat) : Int)) = (plD names).take (i + 1) := by
  have hi := (List.getElem?_eq_some_iff.mp h).1
  have hat : (plD names)[i]? = some (Sum.inr x, V.int ((i : Nat) : Int)) := by
    unfold plD
    rw [List.getElem?_map, List.getElem?_zipIdx, h]
    simp
  rw [List.take_add_one, hat]
  unfold putK
  rw [if_neg]
  · rfl
  · intro z
    obtain ⟨e, he, hx⟩ := List.any_eq_true.mp z
    have hx := of_decide_eq_true hx
    obtain ⟨j, hj, ej⟩ := List.mem_iff_getElem.mp he
    rw [List.length_take] at hj
    rw [List.getElem_take] at ej
    unfold plD at ej
    rw [List.getElem_map, List.getElem_zipIdx] at ej
    subst ej
    have hx := Sum.inr.inj hx
    have e2 := (List.getElem?_eq_some_iff.mp h).2
    have := List.pairwise_iff_getElem.mp nd j i (by omega) hi (by omega)
    rw [e2] at this
    exact this hx
theorem pgF_noentry {cv ev gv vv qv mv : V} : (pgF cv ev gv vv qv mv).lookup ("entry" : Str) = none := by
  unfold pgF
  exact lk_ne (by decide +kernel) (lk_ne (by decide +kernel) (lk_ne (by decide +kernel) (lk_ne (by decide +kernel) (lk_ne (by decide +kernel) (lk_ne (by decide +kernel) rfl)))))
section
variable {P : Program} {w : World} {K : PySem.W.Frag} {mg : Str → Option Value} {base : Heap}
def sp_mv_init (K : PySem.W.Frag) (PC C : Addr) : Sp := fun vs H Q _ => ∃ (x dx : Addr) (v : V) (p : Pt), vs = [.ref x, v] ∧ H x = some (.ins C dx []) ∧ PgAt K PC H v p ∧ p.Fine ∧ p.Small ∧
  ∀ H', SX x H H' → MvAt K C H' x p → Q .non H'
theorem ok_mv_init (T : MvF K mg) (PC : PgC K mg) (UE : PgE0 K mg PC.C) (C : MvC K mg) : FnOk P w K mg base CX0 6 C.f_init C.fd_init ["self", "program"] (sp_mv_init K PC.C C.C) := by
  refine C.F_init.ok sc_mv_init (fun vs H Q E h => ?_) (fun cdv A outer s H vs Q E hr h => ?_)
  · obtain ⟨x, dx, v, p, rfl, _⟩ := h
    rfl
  · obtain ⟨x, dx, v, p, rfl, hx, hp, f, sm, q⟩ := h
    have nd := sc_mv_init.nd
    have l4 := f.l4
    have h6 := f.prs.len
    have csz := sm.sz
    refine ⟨_, (pss_cons (ps_fld (pv 0) (pe_prop (pv 1) PC.cl PC.P_code (ok_code PC) (hr.mono (by decide)) PC.b_code .nil pass0 rfl) rfl)
      (pss_cons (ps_fld (pv 0) (pe_prop (pv 1) PC.cl PC.P_names (ok_names PC) (hr.mono (by decide)) PC.b_names .nil pass0 rfl) rfl)
      (pss_cons (ps_fld (pv 0) (pe_op op_add (pe_callB call_len_seq (by rfl) T.m_len PySem.boot_len (pa_cons (pe_prop (pv 1) PC.cl PC.P_names (ok_names PC) (hr.mono (by decide)) PC.b_names .nil pass0 rfl) pa_nil)) pe_int) rfl)
      (pss_cons (ps_fld (pv 0) (pe_dc (own := [("name", 4), ("_", 5)]) (g := (gTup K 2 (gCons (gName 4) (gCons (gName 5) gNil)))) (tt := tYes) rfl nd (pi_tup (pe_prop (pv 1) PC.cl PC.P_procedures (ok_procedures PC) (hr.mono (by decide)) PC.b_procedures .nil pass0 rfl)) (blkOk_by (N := N_mv_init) (sc := defScope s_mv_init) (by decide +kernel)) (fun _ _ _ _ _ => (pg_tup rfl (pgs_cons (pg_name (i := 4) nd rfl (.inl rfl)) (pgs_cons (pg_name (i := 5) nd rfl (.inl rfl)) pgs_nil)))) (fun _ _ _ _ _ => pts_nil) (fun _ _ _ _ _ => (pv 4)) (fun _ _ _ _ _ => (pe_meth (pv 1) PC.cl UE.M_entry (ok_entry0 T.m_isinstance T.m_str PC UE) (hr.mono (by decide)) UE.b_entry .nil pass0 (pa_cons (pv 4) pa_nil)))) rfl)
      (pss_cons (ps_lock (ps_fld (pv 0) (pe_dc (own := [("name", 4)]) (g := (gName 4)) (tt := tYes) rfl nd (pi_keys (pe_fld (pv 0) rfl)) (blkOk_by (N := N_mv_init) (sc := defScope s_mv_init) (by decide +kernel)) (fun _ _ _ _ _ => (pg_name (i := 4) nd rfl (.inl rfl))) (fun _ _ _ _ _ => pts_nil) (fun _ _ _ _ _ => (pv 4)) (fun _ _ _ _ _ => (pe_tm (r := rTupIx3 K) PySem.F.slot_tuple_index PySem.F.type_tuple_index (mt_tupIx3 (hu65 hr)) (pe_fldK (K := K) rfl (pv 0) rfl) (pa_cons (pe_tup (pa_cons pe_str pa_nil)) (pa_cons (pe_dget (hu_of hr) (pe_fldK (K := K) rfl (pv 0) rfl) (pv 4) (fun _ _ => rfl)) pa_nil))))) rfl))
      (pss_cons (ps_lock (ps_fld (pv 0) (pe_dc (own := [("name", 4)]) (g := (gName 4)) (tt := tYes) rfl nd (pi_keys (pe_fld (pv 0) rfl)) (blkOk_by (N := N_mv_init) (sc := defScope s_mv_init) (by decide +kernel)) (fun _ _ _ _ _ => (pg_name (i := 4) nd rfl (.inl rfl))) (fun _ _ _ _ _ => pts_nil) (fun _ _ _ _ _ => (pe_dget (hu_of hr) (pe_fldK (K := K) rfl (pv 0) rfl) (pv 4) (fun _ _ => rfl))) (fun _ _ _ _ _ => (pe_lst pa_nil))) rfl))
      (pss_cons (ps_for PassesOwn.never rfl (pi_enumT (by rfl) T.m_enumerate (pa_cons (pe_fld (pv 0) rfl) pa_nil)) (pg_tup rfl (pgs_cons (pg_name (i := 2) nd rfl (.inl rfl)) (pgs_cons (pg_name (i := 3) nd rfl (.inl rfl)) pgs_nil)))
      (pss_one (ps_if (pt_cmpR op_eq (pe_ix (r := rIxT K) ix_tup (pv 3) pe_int (fun _ _ => rfl)) pe_str (nomark _))
        (pss_one (ps_expr (pe_bm PySem.F.plainAttrs_list PySem.F.slot_list_append PySem.F.type_list_append mt_append (pe_dget (hu_of hr) (pe_fld (pv 0) rfl) (pe_dget (hu_of hr) (pe_fld (pv 0) rfl) (pe_ix (r := rIxT K) ix_tup (pv 3) pe_int (fun _ _ => rfl)) (fun _ _ => rfl)) (fun _ _ => rfl)) (pa_cons (pv 2) pa_nil))))
        pss_nil)))
      (pss_cons (ps_fld (pv 0) (pe_call ((ok_loop_depths T).mono (by decide)) hr (by rfl) T.D_loop_depths.g T.D_loop_depths.kp T.D_loop_depths.b .nil pass0 (pa_cons (pe_fld (pv 0) rfl) pa_nil)) rfl)
      (pss_one (ps_fld (pv 0) (pe_dc (own := [("at", 6), ("name", 4)]) (g := (gTup K 2 (gCons (gName 6) (gCons (gName 4) gNil)))) (tt := tYes) rfl nd (pi_enumT (by rfl) T.m_enumerate (pa_cons (pe_prop (pv 1) PC.cl PC.P_names (ok_names PC) (hr.mono (by decide)) PC.b_names .nil pass0 rfl) pa_nil)) (blkOk_by (N := N_mv_init) (sc := defScope s_mv_init) (by decide +kernel)) (fun _ _ _ _ _ => (pg_tup rfl (pgs_cons (pg_name (i := 6) nd rfl (.inl rfl)) (pgs_cons (pg_name (i := 4) nd rfl (.inl rfl)) pgs_nil)))) (fun _ _ _ _ _ => pts_nil) (fun _ _ _ _ _ => (pv 4)) (fun _ _ _ _ _ => (pv 6))) rfl)))))))))), ?_⟩
    have hxa : ∀ (o : HO), SX x H (upd H x o) := fun o => sx_put
    -- instructions
    obtain ⟨a, pdx, cv, d, gv, vv, qv, mv, rfl, h1, h2, h3, h4⟩ := id hp
    obtain ⟨c, ys, rfl, hF, hY⟩ := id h3
    have tC := code_tupD f
    refine ⟨_, rfl, a, pdx, _, rfl, h1, a, pdx, _, _, rfl, h1, pgF_code _ _ _ _ _ _, ?_⟩
    refine ⟨_, rfl, x, C.C, dx, _, rfl, hx, C.cl, C.n_instructions, by decide, ?_⟩
    have sx1 : SX x H (upd H x (.ins C.C dx (putF "instructions" (.ref c) []))) := sx_put
    have hx1 : (upd H x (.ins C.C dx (putF "instructions" (.ref c) []))) x = some (.ins C.C dx (mf1 (.ref c))) := upd_same
    generalize upd H x (.ins C.C dx (putF "instructions" (.ref c) [])) = H1 at sx1 hx1 ⊢
    have hax : a ≠ x := fun z => by
      rw [z, hx] at h1
      injection h1 with h1
      injection h1 with _ _ h1
      have := pgF_code (.ref c) (.ref d) gv vv qv mv
      rw [← h1] at this
      cases this
    have tkx : ∀ {H' : Hp}, SX x H H' → TK H H' := fun s => ⟨fun b xs hb => s b _ (ne_of hb hx (by intro z; cases z)) hb, fun b o u hb => s b _ (ne_of hb hx (by intro z; cases z)) hb⟩
    -- order
    refine ⟨_, rfl, a, pdx, _, rfl, sx1 _ _ hax h1, .ref a, p, rfl, hp.sxi f hx sx1, l4, fun H2 ov s2 hov => ?_⟩
    have sx2 := sx1.trans (Same.sx s2)
    have hx2 := s2 _ _ hx1
    refine ⟨_, rfl, x, C.C, dx, _, rfl, hx2, C.cl, C.n_order, Nat.lt_trans mf1_len (by decide), ?_⟩
    have sx3 : SX x H (upd H2 x (.ins C.C dx (putF "order" ov (mf1 (.ref c))))) := sx2.trans sx_put
    have hx3 : (upd H2 x (.ins C.C dx (putF "order" ov (mf1 (.ref c))))) x = some (.ins C.C dx (mf2 (.ref c) ov)) := upd_same
    generalize upd H2 x (.ins C.C dx (putF "order" ov (mf1 (.ref c)))) = H3 at sx3 hx3 ⊢
    -- size
    refine ⟨_, rfl, a, pdx, _, rfl, sx3 _ _ hax h1, .ref a, p, rfl, hp.sxi f hx sx3, l4, fun H4 nv s4 hnv => ?_⟩
    obtain ⟨na, rfl, hnT⟩ := hnv
    have sx4 := sx3.trans (Same.sx s4)
    have hx4 := s4 _ _ hx3
    refine ⟨na, _, rfl, .inr hnT, _, _, rfl, rfl, ?_⟩
    refine ⟨_, rfl, x, C.C, dx, _, rfl, hx4, C.cl, C.n_size, Nat.lt_trans mf2_len (by decide), ?_⟩
    generalize (fun i j : Int => V.int (i + j)) (((p.names.map V.str).length : Nat) : Int) 1 = nv
    have sx5 : SX x H (upd H4 x (.ins C.C dx (putF "size" nv (mf2 (.ref c) ov)))) := sx4.trans sx_put
    have hx5 : (upd H4 x (.ins C.C dx (putF "size" nv (mf2 (.ref c) ov)))) x = some (.ins C.C dx (mf3 (.ref c) ov nv)) := upd_same
    generalize upd H4 x (.ins C.C dx (putF "size" nv (mf2 (.ref c) ov))) = H5 at sx5 hx5 ⊢
    -- entries
    obtain ⟨qa, qs, rfl, hqT, hqA⟩ := dp_tup (show Dp K H qv (.tuple (p.ps.map Pg.prD)) from h2.q)
    have ql := dpAll_len hqA
    rw [List.length_map] at ql
    have tq : tupAll (p.ps.map Pg.prD) = true := by
      have := prsD_tup f.N f.prs
      rw [show prsD p.ps = .tuple (p.ps.map Pg.prD) from rfl, tupD_tuple] at this
      exact this
    have hqT5 := (tkx sx5).sqt hqT
    refine ⟨_, rfl, a, pdx, _, rfl, sx5 _ _ hax h1, a, pdx, _, _, rfl, sx5 _ _ hax h1, pgF_procedures _ _ _ _ _ _, qa, rfl, ⟨_, hqT5⟩, fun D nD => ?_⟩
    refine dc_it (walk_tup (K := K) (a := qa) (xs := qs)) (fun i H' => Same H5 H' ∧ H' D = some (.dK ((p.ent.take i).map entD))) ⟨same_new nD, upd_same⟩ (fun i H' _ h => Same.sqt h.1 hqT5) ?_ ?_
    · rintro i v H6 H7 hi ⟨s6, hD6⟩ ⟨rfl, hv⟩
      obtain ⟨d', hd', hdp⟩ := dpAll_at hqA hv
      rw [List.getElem?_map] at hd'
      obtain ⟨pr, hpr, rfl⟩ := Option.map_eq_some_iff.mp hd'
      have hpm := List.mem_of_getElem? hpr
      have sx6 := sx5.trans (Same.sx s6)
      obtain ⟨b, y, rfl, hb, hy⟩ := dp_prD (dp_keep (tkx sx6) hdp (prD_tup f.N f.prs hpm))
      obtain ⟨n, hn, hei⟩ := Pt.ent_at f hpr
      refine ⟨b, _, rfl, hb, rfl, _, _, rfl, _, _, rfl, rfl, rfl, ?_⟩
      dsimp only [tYes]
      refine iteT ?_
      refine ⟨_, rfl, _, rfl, a, pdx, _, rfl, sx6 _ _ hax h1, pgF_noentry, _, rfl, .ref a, p, pr.1, n, rfl, hp.sxi f hx sx6, f, hn, ?_⟩
      refine ⟨_, Sum.inr pr.1, rfl, hD6, by rw [sizeLine_eq, List.length_map, List.length_take, p.ent_len]; omega, same_at nD s6, ?_⟩
      have fresh : pr.1 ∉ (p.ent.take i).map (·.1) := by
        rw [List.map_take]
        intro z
        obtain ⟨j, hj, e⟩ := List.mem_iff_getElem.mp z
        rw [List.length_take, List.length_map] at hj
        rw [List.getElem_take] at e
        obtain ⟨hi', e2⟩ := List.getElem?_eq_some_iff.mp hei
        have := List.pairwise_iff_getElem.mp (Pt.ent_nd f) j i (by rw [List.length_map]; omega) (by rw [List.length_map]; omega) (by omega)
        rw [e, List.getElem_map, e2] at this
        exact this rfl
      rw [upd_same, ent_put fresh, List.take_add_one, hei]
      rfl
    · rintro H6 ⟨s6, hD6⟩
      rw [show qs.length = p.ent.length by rw [p.ent_len, ql], List.take_length] at hD6
      have sx6 := sx5.trans (Same.sx s6)
      have hx6 := s6 _ _ hx5
      have hDx : D ≠ x := fun z => by rw [z, hx6] at hD6; cases hD6
      refine ⟨_, rfl, x, C.C, dx, _, rfl, hx6, C.cl, C.n_entries, Nat.lt_trans mf3_len (by decide), ?_⟩
      have sx7 : SX x H (upd H6 x (.ins C.C dx (putF "entries" (.ref D) (mf3 (.ref c) ov nv)))) := sx6.trans sx_put
      have hx7 : (upd H6 x (.ins C.C dx (putF "entries" (.ref D) (mf3 (.ref c) ov nv)))) x = some (.ins C.C dx (mf4 (.ref c) ov nv (.ref D))) := upd_same
      have hD7 : (upd H6 x (.ins C.C dx (putF "entries" (.ref D) (mf3 (.ref c) ov nv)))) D = some (.dK (p.ent.map entD)) := by rw [upd_ne hDx]; exact hD6
      generalize upd H6 x (.ins C.C dx (putF "entries" (.ref D) (mf3 (.ref c) ov nv))) = H7 at sx7 hx7 hD7 ⊢
      have nDH : H D = none := by
        cases e : H D with
        | none => rfl
        | some o => rw [sx5 _ _ hDx e] at nD; cases nD
      -- returns
      refine ⟨D, _, hD7, trivial, fun od => ?_⟩
      have sxL : ∀ b o, b ≠ D → H7 b = some o → (upd H7 D (.frz od (.dK (p.ent.map entD)))) b = some o := fun b o hb e => by rw [upd_ne hb]; exact e
      have hDL : (upd H7 D (.frz od (.dK (p.ent.map entD)))) D = some (.frz od (.dK (p.ent.map entD))) := upd_same
      have tkL : TK H (upd H7 D (.frz od (.dK (p.ent.map entD)))) := (tkx sx7).trans (tk_lock hD7 (fun _ z => by cases z) fun _ _ z => by cases z)
      have same7 : ∀ {H' : Hp}, Same (upd H7 D (.frz od (.dK (p.ent.map entD)))) H' → Same H7 (upd H' D (.dK (p.ent.map entD))) := fun s => same_unlock hD7 s
      generalize upd H7 D (.frz od (.dK (p.ent.map entD))) = HL at sxL hDL tkL same7 ⊢
      have hxL := sxL _ _ hDx.symm hx7
      refine ⟨_, rfl, x, C.C, dx, _, _, rfl, hxL, C.cl, C.n_entries, mf4_ent, D, od, rfl, .inl ⟨_, hDL, fun R nR => ?_⟩⟩
      refine dc_it (walk_keys (d := D) (o := od) (kvs := p.ent.map entD)) (fun i H' => Same HL H' ∧ ∃ kvs, H' R = some (.dK kvs) ∧ kvs.length ≤ i ∧ ∀ j e, j < i → p.ent[j]? = some e → ∃ r : Nat, valV kvs (Sum.inr e.1) = some (.int (r : Int)))
        ⟨same_new nR, [], upd_same, Nat.le_refl _, fun j e hj => by omega⟩ (fun i H' _ h => h.1 _ _ hDL) ?_ ?_
      · rintro i v H8 H9 hi ⟨s8, kvs, hR8, kl, hk⟩ ⟨rfl, k, v', hkv, rfl⟩
        rw [List.getElem?_map] at hkv
        obtain ⟨e, he, e1⟩ := Option.map_eq_some_iff.mp hkv
        cases e1
        rw [List.length_map] at hi
        have hil : i < p.ps.length := by rw [← p.ent_len]; exact hi
        obtain ⟨n, hn, hei⟩ := Pt.ent_at f (List.getElem?_eq_getElem hil)
        rw [he] at hei
        have ee : e = (p.ps[i].1, (n : Int)) := Option.some.inj hei
        subst ee
        obtain ⟨j, z, hnj, hz, hzj, hno⟩ := Pt.first_ret (List.mem_map.mpr ⟨_, List.getElem_mem hil, rfl⟩) hn
        refine ⟨rfl, ?_⟩
        dsimp only [tYes]
        have hx8 := s8 _ _ hxL
        refine iteT ?_
        refine ⟨_, rfl, _, rfl, x, C.C, dx, _, _, rfl, hx8, C.cl, C.n_instructions, mf4_ins, ⟨c, ys, rfl, hF.tk (tkL.trans (Same.tk s8))⟩, ?_⟩
        refine ⟨small (by decide), fun t nt => ?_⟩
        have s9 := same_new (o := .tup [.str "return"]) nt
        have ht9 : SqT K (upd H9 t (.tup [.str "return"])) t [.str "return"] := SqT.of upd_same
        generalize upd H9 t (.tup [.str "return"]) = H10 at s9 ht9 ⊢
        have s10 := s8.trans s9
        have tk10 := tkL.trans (Same.tk s10)
        refine ⟨_, rfl, x, C.C, dx, _, _, rfl, s10 _ _ hxL, C.cl, C.n_entries, mf4_ent, _, rfl, D, .int (n : Int), rfl, .inl ⟨_, Sum.inr p.ps[i].1, .inr ⟨od, s10 _ _ hDL⟩, rfl, (Pt.ent_val f hn).symm⟩, ?_⟩
        refine ⟨c, ys, .ref t, retD, p.code, n, j, z, rfl, rfl, (hF.tk tk10).sqt, dpAll_keep tk10 hY tC, .tup ht9 (.cons (.str _) .nil), Pt.code_shaped f, by decide +kernel, hnj, hz, hzj, hno, ?_⟩
        refine ⟨kvs, Sum.inr p.ps[i].1, rfl, s9 _ _ hR8, by rw [sizeLine_eq]; rw [p.ent_len] at hi; omega, same_at nR s10, _, upd_same, Nat.le_trans (length_putK _ _ _) (by omega), fun j' e hj' he' => ?_⟩
        rw [valV_put]
        by_cases hjj : Sum.inr e.1 = (Sum.inr p.ps[i].1 : Key)
        · rw [if_pos hjj]
          exact ⟨_, rfl⟩
        · rw [if_neg hjj]
          refine hk j' e ?_ he'
          by_cases hjn : j' = i
          · subst hjn
            rw [he] at he'
            cases he'
            exact absurd rfl hjj
          · omega
      · rintro H8 ⟨s8, kvs, hR8, kl, hk⟩
        rw [List.length_map, p.ent_len] at kl hk
        have hx8 := s8 _ _ hxL
        have hD8 := s8 _ _ hDL
        have hRx : R ≠ x := fun z => by rw [z, hx8] at hR8; cases hR8
        have hRD : R ≠ D := fun z => by rw [z, hD8] at hR8; cases hR8
        refine ⟨_, rfl, x, C.C, dx, _, rfl, hx8, C.cl, C.n_returns, Nat.lt_trans mf4_len (by decide), by rw [upd_ne hDx]; exact hD8, ?_⟩
        have e9 : ∀ b o, b ≠ x → H7 b = some o → (upd (upd H8 x (.ins C.C dx (putF "returns" (.ref R) (mf4 (.ref c) ov nv (.ref D))))) D (.dK (p.ent.map entD))) b = some o := fun b o hb e => by
          have := same7 s8 b o e
          by_cases hbD : b = D
          · subst hbD
            rw [upd_same] at this ⊢
            exact this
          · rw [upd_ne hbD] at this
            rw [upd_ne hbD, upd_ne hb]
            exact this
        have hx9 : (upd (upd H8 x (.ins C.C dx (putF "returns" (.ref R) (mf4 (.ref c) ov nv (.ref D))))) D (.dK (p.ent.map entD))) x = some (.ins C.C dx (mf5 (.ref c) ov nv (.ref D) (.ref R))) := by
          rw [upd_ne hDx.symm, upd_same]
          rfl
        have hD9 : (upd (upd H8 x (.ins C.C dx (putF "returns" (.ref R) (mf4 (.ref c) ov nv (.ref D))))) D (.dK (p.ent.map entD))) D = some (.dK (p.ent.map entD)) := upd_same
        have hR9 : (upd (upd H8 x (.ins C.C dx (putF "returns" (.ref R) (mf4 (.ref c) ov nv (.ref D))))) D (.dK (p.ent.map entD))) R = some (.dK kvs) := by
          rw [upd_ne hRD, upd_ne hRx]
          exact hR8
        generalize upd (upd H8 x (.ins C.C dx (putF "returns" (.ref R) (mf4 (.ref c) ov nv (.ref D))))) D (.dK (p.ent.map entD)) = H9 at e9 hx9 hD9 hR9 ⊢
        have sx9 : SX x H H9 := sx7.trans e9
        clear e9 same7 tkL sxL
        -- callers
        refine ⟨D, _, hD9, trivial, fun od2 => ?_⟩
        have sxL : ∀ b o, b ≠ D → H9 b = some o → (upd H9 D (.frz od2 (.dK (p.ent.map entD)))) b = some o := fun b o hb e => by rw [upd_ne hb]; exact e
        have hDL : (upd H9 D (.frz od2 (.dK (p.ent.map entD)))) D = some (.frz od2 (.dK (p.ent.map entD))) := upd_same
        have same9 : ∀ {H' : Hp}, Same (upd H9 D (.frz od2 (.dK (p.ent.map entD)))) H' → Same H9 (upd H' D (.dK (p.ent.map entD))) := fun s => same_unlock hD9 s
        generalize upd H9 D (.frz od2 (.dK (p.ent.map entD))) = HM at sxL hDL same9 ⊢
        have hxM := sxL _ _ hDx.symm hx9
        have hRM := sxL _ _ hRD hR9
        have free : ∀ l, HM l = none → H l = none ∧ l ≠ x ∧ l ≠ D := fun l hl => by
          have l1 : l ≠ x := fun z => by rw [z, hxM] at hl; cases hl
          have l2 : l ≠ D := fun z => by rw [z, hDL] at hl; cases hl
          refine ⟨?_, l1, l2⟩
          cases e : H l with
          | none => rfl
          | some o => rw [sxL _ _ l2 (sx9 _ _ l1 e)] at hl; cases hl
        refine ⟨_, rfl, x, C.C, dx, _, _, rfl, hxM, C.cl, C.n_entries, mf5_ent, D, od2, rfl, .inl ⟨_, hDL, fun G nG => ?_⟩⟩
        refine dc_it (walk_keys (d := D) (o := od2) (kvs := p.ent.map entD)) (fun i H' => Same HM H' ∧ ∃ cs, H' G = some (.dK cs) ∧ cs.length ≤ i ∧ (∀ j e, j < i → p.ent[j]? = some e → ∃ (r : Nat) (l : Addr), valV kvs (Sum.inr e.1) = some (.int (r : Int)) ∧ valV cs (Sum.inl (r : Int)) = some (.ref l)) ∧
            ∀ k v, valV cs k = some v → ∃ l, v = .ref l ∧ HM l = none ∧ l ≠ G ∧ H' l = some (.lst []))
          ⟨same_new nG, [], upd_same, Nat.le_refl _, (fun j e hj => by omega), fun k v z => by cases z⟩ (fun i H' _ h => h.1 _ _ hDL) ?_ ?_
        · rintro i v H10 H11 hi ⟨s10, cs, hG10, cl, hc, hls⟩ ⟨rfl, k, v', hkv, rfl⟩
          rw [List.getElem?_map] at hkv
          obtain ⟨e, he, e1⟩ := Option.map_eq_some_iff.mp hkv
          cases e1
          rw [List.length_map] at hi
          obtain ⟨r, hr⟩ := hk i e (by rw [← p.ent_len]; exact hi) he
          refine ⟨rfl, ?_⟩
          dsimp only [tYes]
          refine iteT ?_
          refine ⟨_, rfl, x, C.C, dx, _, _, rfl, s10 _ _ hxM, C.cl, C.n_returns, mf5_ret, _, rfl, R, .int (r : Int), rfl, .inl ⟨_, Sum.inr e.1, .inl (s10 _ _ hRM), rfl, hr.symm⟩, ?_⟩
          refine ⟨small (Nat.zero_le _), fun l nl => ?_⟩
          have hlG : l ≠ G := fun z => by rw [z, hG10] at nl; cases nl
          have nlM : HM l = none := s10.free nl
          refine ⟨cs, Sum.inl (r : Int), rfl, (by rw [upd_ne hlG.symm]; exact hG10), by rw [sizeLine_eq]; rw [p.ent_len] at hi; omega, ?_⟩
          refine ⟨same_at nG (s10.trans (same_new nl)), _, upd_same, Nat.le_trans (length_putK _ _ _) (by omega), fun j e' hj he' => ?_, fun k v hv => ?_⟩
          · by_cases hji : j = i
            · subst hji
              rw [he] at he'
              cases he'
              refine ⟨r, l, hr, ?_⟩
              rw [valV_put, if_pos rfl]
            · obtain ⟨r', l', h1', h2'⟩ := hc j e' (by omega) he'
              by_cases hrr : (Sum.inl (r' : Int) : Key) = Sum.inl (r : Int)
              · exact ⟨r', l, h1', by rw [valV_put, if_pos hrr]⟩
              · exact ⟨r', l', h1', by rw [valV_put, if_neg hrr]; exact h2'⟩
          · rw [valV_put] at hv
            split at hv
            · cases hv
              exact ⟨l, rfl, nlM, hlG, by rw [upd_ne hlG, upd_same]⟩
            · obtain ⟨l', h1', h2', h3', h4'⟩ := hls k v hv
              refine ⟨l', h1', h2', h3', ?_⟩
              have hll : l' ≠ l := fun z => by rw [z, nl] at h4'; cases h4'
              rw [upd_ne h3', upd_ne hll]
              exact h4'
        · rintro H10 ⟨s10, cs, hG10, cl, hc, hls⟩
          rw [List.length_map] at cl hc
          have hx10 := s10 _ _ hxM
          have hD10 := s10 _ _ hDL
          have hR10 := s10 _ _ hRM
          have hGx : G ≠ x := fun z => by rw [z, hx10] at hG10; cases hG10
          have hGD : G ≠ D := fun z => by rw [z, hD10] at hG10; cases hG10
          refine ⟨_, rfl, x, C.C, dx, _, rfl, hx10, C.cl, C.n_callers, Nat.lt_trans mf5_len (by decide), by rw [upd_ne hDx]; exact hD10, ?_⟩
          have e11 : ∀ b o, b ≠ x → H9 b = some o → (upd (upd H10 x (.ins C.C dx (putF "callers" (.ref G) (mf5 (.ref c) ov nv (.ref D) (.ref R))))) D (.dK (p.ent.map entD))) b = some o := fun b o hb e => by
            have := same9 s10 b o e
            by_cases hbD : b = D
            · subst hbD
              rw [upd_same] at this ⊢
              exact this
            · rw [upd_ne hbD] at this
              rw [upd_ne hbD, upd_ne hb]
              exact this
          have hx11 : (upd (upd H10 x (.ins C.C dx (putF "callers" (.ref G) (mf5 (.ref c) ov nv (.ref D) (.ref R))))) D (.dK (p.ent.map entD))) x = some (.ins C.C dx (mf6 (.ref c) ov nv (.ref D) (.ref R) (.ref G))) := by
            rw [upd_ne hDx.symm, upd_same]
            rfl
          have hD11 : (upd (upd H10 x (.ins C.C dx (putF "callers" (.ref G) (mf5 (.ref c) ov nv (.ref D) (.ref R))))) D (.dK (p.ent.map entD))) D = some (.dK (p.ent.map entD)) := upd_same
          have hR11 := e11 _ _ hRx hR9
          have hG11 : (upd (upd H10 x (.ins C.C dx (putF "callers" (.ref G) (mf5 (.ref c) ov nv (.ref D) (.ref R))))) D (.dK (p.ent.map entD))) G = some (.dK cs) := by
            rw [upd_ne hGD, upd_ne hGx]
            exact hG10
          have hls11 : ∀ k v, valV cs k = some v → ∃ l, v = .ref l ∧ H l = none ∧ (upd (upd H10 x (.ins C.C dx (putF "callers" (.ref G) (mf5 (.ref c) ov nv (.ref D) (.ref R))))) D (.dK (p.ent.map entD))) l = some (.lst []) := fun k v hv => by
            obtain ⟨l, h1', h2', h3', h4'⟩ := hls k v hv
            obtain ⟨f1, f2, f3⟩ := free l h2'
            exact ⟨l, h1', f1, by rw [upd_ne f3, upd_ne f2]; exact h4'⟩
          generalize upd (upd H10 x (.ins C.C dx (putF "callers" (.ref G) (mf5 (.ref c) ov nv (.ref D) (.ref R))))) D (.dK (p.ent.map entD)) = H11 at e11 hx11 hD11 hR11 hG11 hls11 ⊢
          have sx11 : SX x H H11 := sx9.trans e11
          clear e11 same9 hls free hG10 s10 hD10 hR10 hx10
          -- the calls
          refine ⟨_, rfl, x, C.C, dx, _, _, rfl, hx11, C.cl, C.n_instructions, mf6_ins, c, ys, rfl, (hF.tk (tkx sx11)).sqt, ?_⟩
          have kl_refl : KL H H11 H11 := fun b o e _ => e
          have kl_tk : ∀ {H' : Hp}, KL H H11 H' → TK H H' := fun k => ⟨fun b xs hb => k b _ (sx11 _ _ (ne_of hb hx (by intro z; cases z)) hb) (.inl fun _ z => by cases z), fun b o u hb => k b _ (sx11 _ _ (ne_of hb hx (by intro z; cases z)) hb) (.inl fun _ z => by cases z)⟩
          refine for_it (walk_enumT (K := K) (a := c) (xs := ys)) (fun i σ H' => KL H H11 H' ∧ (∀ k v, valV cs k = some v → ∃ l xs, v = .ref l ∧ H l = none ∧ H' l = some (.lst xs) ∧ xs.length ≤ i) ∧ ∃ (y z : Option V), σ = [some (.ref x), some (.ref a), y, z, none, none, none])
            ⟨kl_refl, (fun k v hv => by obtain ⟨l, h1', h2', h3'⟩ := hls11 k v hv; exact ⟨l, [], h1', h2', h3', Nat.le_refl _⟩), none, none, rfl⟩ (fun i σ H' _ h => (hF.tk (kl_tk h.1)).sqt) ?_ ?_
          · rintro i v σ H12 H13 hi ⟨k12, hl12, y, z, rfl⟩ ⟨T1, x1, x2, rfl, nT, rfl, g1, g2⟩
            cases g1
            refine ⟨T1, _, rfl, SqT.of upd_same, rfl, _, _, rfl, _, _, rfl, rfl, ?_⟩
            have k13 : KL H H11 (upd H12 T1 (.tup [.int (i : Nat), x2])) := fun b o e h => same_new nT _ _ (k12 b o e h)
            have s13 := same_new (o := .tup [.int (i : Nat), x2]) nT
            generalize upd H12 T1 (.tup [.int (i : Nat), x2]) = H13 at k13 s13 ⊢
            obtain ⟨yy, hy, hdp⟩ := cdv_at hY g2
            obtain ⟨b, zs, rfl, hT, hZ⟩ := dp_ins (dp_keep (kl_tk k13) hdp (ins_tupD f hy))
            dsimp only [List.set]
            refine ⟨_, rfl, b, _, 0, _, rfl, rfl, hT, at0, ?_⟩
            refine ⟨rfl, ?_⟩
            have ew : decide (V.str yy.1.word = V.str "call") = decide (yy.1.tag = 8) := yy.1.is_eq 8 (by decide)
            rw [ew]
            have hl13 : ∀ k v, valV cs k = some v → ∃ l xs, v = .ref l ∧ H l = none ∧ H13 l = some (.lst xs) ∧ xs.length ≤ i := fun k v hv => by
              obtain ⟨l, xs, h1', h2', h3', h4'⟩ := hl12 k v hv
              exact ⟨l, xs, h1', h2', s13 _ _ h3', h4'⟩
            refine ⟨_, rfl, ite2 (fun ht => ?_) (fun ht => ?_)⟩
            · obtain ⟨xx, hn⟩ := tag_call (y := yy.1) (of_decide_eq_true (p := yy.1.tag = 8) ht)
              have iok := Pt.ins_ok f yy (List.mem_of_getElem? hy)
              rw [hn] at iok hT hZ
              cases hZ with
              | cons r1 r2 =>
              cases r1
              cases r2
              obtain ⟨pr, hpr, epr⟩ := List.mem_map.mp (show xx ∈ p.ps.map (·.1) from iok)
              obtain ⟨j, hj⟩ := List.getElem?_of_mem hpr
              obtain ⟨n, hn', hej⟩ := Pt.ent_at f hj
              have hjl : j < p.ent.length := (List.getElem?_eq_some_iff.mp hej).1
              obtain ⟨r, l, hr1, hr2⟩ := hc j _ hjl hej
              rw [epr] at hr1
              obtain ⟨l', xs, el, nl, hl', xl⟩ := hl13 _ _ hr2
              cases el
              have hi' : i < p.code.length := by rw [← dpAll_len hY]; exact hi
              have hx13 := k13 _ _ hx11 (.inl fun _ z => by cases z)
              have hR13 := k13 _ _ hR11 (.inl fun _ z => by cases z)
              have hG13 := k13 _ _ hG11 (.inl fun _ z => by cases z)
              refine ⟨_, rfl, x, C.C, dx, _, _, rfl, hx13, C.cl, C.n_callers, mf6_cal, _, rfl, x, C.C, dx, _, _, rfl, hx13, C.cl, C.n_returns, mf6_ret, _, rfl, b, _, 1, _, rfl, rfl, hT, at1, ?_⟩
              refine ⟨R, .int (r : Int), rfl, .inl ⟨_, Sum.inr xx, .inl hR13, rfl, hr1.symm⟩, G, .ref l, rfl, .inl ⟨_, Sum.inl (r : Int), .inl hG13, rfl, hr2.symm⟩, ?_⟩
              refine ⟨.inl ⟨rfl, _, SqL.of hl'⟩, _, rfl, l, xs, _, rfl, rfl, hl', by rw [sizeLine_eq]; omega, ?_⟩
              refine ⟨fun b o e h => ?_, fun k v hv => ?_, _, _, rfl⟩
              · have := k13 b o e h
                by_cases hb : b = l
                · subst hb
                  rw [hl'] at this
                  cases this
                  rcases h with h | h
                  · exact absurd rfl (h _)
                  · exact absurd nl h
                · rw [upd_ne hb]
                  exact this
              · obtain ⟨l2, xs2, h1', h2', h3', h4'⟩ := hl13 k v hv
                by_cases hb : l2 = l
                · subst hb
                  rw [hl'] at h3'
                  cases h3'
                  exact ⟨l2, _, h1', h2', upd_same, by rw [List.length_append]; show xs.length + 1 ≤ _; omega⟩
                · exact ⟨l2, xs2, h1', h2', by rw [upd_ne hb]; exact h3', by omega⟩
            · refine ⟨k13, fun k v hv => ?_, _, _, rfl⟩
              obtain ⟨l, xs, h1', h2', h3', h4'⟩ := hl13 k v hv
              exact ⟨l, xs, h1', h2', h3', by omega⟩
          · rintro σ H12 ⟨k12, hl12, y, z, rfl⟩
            have sx12 : SX x H H12 := fun b o hb e => k12 b o (sx11 b o hb e) (.inr (by rw [e]; intro z; cases z))
            have hx12 := k12 _ _ hx11 (.inl fun _ z => by cases z)
            have hD12 := k12 _ _ hD11 (.inl fun _ z => by cases z)
            have cd12 : CdV K H12 (.ref c) p.code := h3.tk tC (kl_tk k12)
            clear k12 hl12
            -- depths
            refine ⟨_, rfl, x, C.C, dx, _, _, rfl, hx12, C.cl, C.n_instructions, mf6_ins, .ref c, p, rfl, cd12, f, by omega, fun H13 t xs s13 ht => ?_⟩
            refine ⟨_, rfl, x, C.C, dx, _, rfl, s13 _ _ hx12, C.cl, C.n_depths, Nat.lt_trans mf6_len (by decide), ?_⟩
            have e14 : SX x H12 (upd H13 x (.ins C.C dx (putF "depths" (.ref t) (mf6 (.ref c) ov nv (.ref D) (.ref R) (.ref G))))) := (Same.sx s13).trans sx_put
            have hx14 : (upd H13 x (.ins C.C dx (putF "depths" (.ref t) (mf6 (.ref c) ov nv (.ref D) (.ref R) (.ref G))))) x = some (.ins C.C dx (mf7 (.ref c) ov nv (.ref D) (.ref R) (.ref G) (.ref t))) := upd_same
            generalize upd H13 x (.ins C.C dx (putF "depths" (.ref t) (mf6 (.ref c) ov nv (.ref D) (.ref R) (.ref G)))) = H14 at e14 hx14 ⊢
            have sx14 := sx12.trans e14
            have hD14 := e14 _ _ hDx hD12
            -- places
            refine ⟨_, rfl, a, pdx, _, rfl, sx14 _ _ hax h1, .ref a, p, rfl, hp.sxi f hx sx14, l4, fun H15 nv2 s15 hnv => ?_⟩
            obtain ⟨nb, rfl, hbT⟩ := hnv
            refine ⟨nb, _, rfl, hbT, fun L nL => ?_⟩
            refine dc_it (walk_enumT (K := K) (a := nb) (xs := p.names.map V.str)) (fun i H' => Same H15 H' ∧ H' L = some (.dK ((plD p.names).take i))) ⟨same_new nL, upd_same⟩ (fun i H' _ h => Same.sqt h.1 hbT) ?_ ?_
            · rintro i v H16 H17 hi ⟨s16, hL⟩ ⟨T1, x1, x2, rfl, nT, rfl, g1, g2⟩
              cases g1
              replace g2 : (p.names.map V.str)[i]? = some x2 := g2
              rw [List.getElem?_map] at g2
              obtain ⟨nm, hnm, rfl⟩ := Option.map_eq_some_iff.mp g2
              rw [List.length_map] at hi
              refine ⟨T1, _, rfl, SqT.of upd_same, rfl, _, _, rfl, _, _, rfl, rfl, rfl, ?_⟩
              dsimp only [tYes]
              refine iteT ?_
              have s17 := same_new (o := .tup [.int (i : Nat), .str nm]) nT
              refine ⟨_, rfl, _, rfl, _, Sum.inr nm, rfl, s17 _ _ hL, by rw [sizeLine_eq, List.length_take]; rw [List.length_append] at hi; omega, same_at nL (s16.trans s17), ?_⟩
              rw [upd_same, plD_put f.nd hnm]
            · rintro H16 ⟨s16, hL⟩
              rw [List.length_map, show p.names.length = (plD p.names).length by unfold plD; rw [List.length_map, List.length_zipIdx], List.take_length] at hL
              have s14 := s15.trans s16
              have hx16 := s14 _ _ hx14
              have hLx : L ≠ x := fun z => by rw [z, hx16] at hL; cases hL
              refine ⟨_, rfl, x, C.C, dx, _, rfl, hx16, C.cl, C.n__places, Nat.lt_trans mf7_len (by decide), ?_⟩
              have sxE : SX x H (upd H16 x (.ins C.C dx (putF "_places" (.ref L) (mf7 (.ref c) ov nv (.ref D) (.ref R) (.ref G) (.ref t))))) := (sx14.trans (Same.sx s14)).trans sx_put
              refine q _ sxE ⟨dx, .ref c, ov, nv, D, .ref R, .ref G, .ref t, L, upd_same, h3.tk tC (tkx sxE), ?_, ?_⟩
              · rw [upd_ne hDx]
                exact s14 _ _ hD14
              · rw [upd_ne hLx]
                exact hL
end
end Sp1

set_option Elab.async false
set_option linter.all false
set_option maxRecDepth 100000
set_option maxHeartbeats 4000000
/-! zip over a list and a tuple of one length -/
namespace ZpD
open PySem
/-- the cells of a zip, apart from what its two iterators stand on -/
structure Ap (z TI TO i1 i2 : Addr) (f1 f2 : List Addr) : Prop where
  TIz : TI ≠ z
  TOz : TO ≠ z
  i1z : i1 ≠ z
  i2z : i2 ≠ z
  TITO : TI ≠ TO
  TIi1 : TI ≠ i1
  TIi2 : TI ≠ i2
  TOi1 : TO ≠ i1
  TOi2 : TO ≠ i2
  i12 : i1 ≠ i2
  z1 : z ∉ f1
  z2 : z ∉ f2
  T1 : TO ∉ f1
  T2 : TO ∉ f2
  i21 : i2 ∉ f1
  i12' : i1 ∉ f2
section
variable {prog : Program} {w : World} {A : Around} {E : Value → Shared → Prop} {s : Shared}
theorem keepS {h h' : Heap} {c : Addr} (e : Heap.SameBut c h h') {f : List Addr} (n : c ∉ f) : ∀ b ∈ f, ∀ o, h.get? b = some o → h'.get? b = some o :=
  fun b hb o q => e.extBut b o (fun z => n (z ▸ hb)) q
theorem next_item {z TI TO i1 i2 : Addr} {f1 f2 : List Addr} {n k : Nat} {P1 P2 : Nat → Value → Prop} {S1 S2 : Nat → Heap → Prop} {a b : Value} {Q : Value → Shared → Prop}
    (D1 : Draws prog w A i1 f1 n P1 S1) (D2 : Draws prog w A i2 f2 n P2 S2) (D : Ap z TI TO i1 i2 f1 f2) (hz : IsZip s.heap z TI TO .none) (hTI : IsPair s.heap TI (.ref i1) (.ref i2)) (hTO : IsPair s.heap TO a b)
    (h1 : S1 k s.heap) (h2 : S2 k s.heap) (hk : k < n)
    (hQ : ∀ x y h' tk, P1 k x → P2 k y → IsZip h' z TI TO (rawInt s.heap.objs.size) → IsPair h' TO x y → S1 (k + 1) h' → S2 (k + 1) h' → IsPair h' s.heap.objs.size x y →
      (∀ c o, c ≠ z → c ≠ TO → c ≠ i1 → c ≠ i2 → s.heap.get? c = some o → h'.get? c = some o) → Q (.ref s.heap.objs.size) { s with heap := h', toks := tk }) :
    wpAny (model prog w) A (Builtin.«zip.__next__» ⟨[.ref z], []⟩) (fun fin s' => ∃ v, fin = .done (.ret v) ∧ Q v s') E s := by
  show wpAny _ _ (field (.ref z) 2 >>= _) _ _ _
  refine wpAny_bind (wpAny_field hz rfl (x := .bool false) rfl ?_)
  show wpAny _ _ (field (.ref z) 3 >>= _) _ _ _
  refine wpAny_bind (wpAny_field hz rfl (x := .ref TI) rfl (wpAny_bind (wpAny_seqItems hTI rfl ?_)))
  show wpAny _ _ (Builtin.SmallTypes.ownedTupleIsFree (.ref z) >>= _) _ _ _
  refine wpAny_bind ?_
  unfold Builtin.SmallTypes.ownedTupleIsFree
  refine wpAny_bind (wpAny_field hz rfl (x := .none) rfl (wpAny_pure ?_))
  simp only [if_true]
  refine wpAny_bind (wpAny_rule (wpAny_bind (wpAny_field hz rfl (x := .ref TO) rfl ?_)))
  refine wpAny_bind (wpAny_setField_rec hz (by simp) fun ha za sa => wpAny_bind ?_)
  replace za : IsZip ha z TI TO .ellipsis := za
  simp only [List.zipIdx_cons, List.zipIdx_nil, List.forIn_cons, List.forIn_nil]
  -- the first one
  refine wpAny_bind (wpAny_bind (wpAny_onRaise ?_))
  show wpAny _ _ (Builtin.SmallTypes.nextOf (.ref i1) >>= _) _ _ _
  refine wpAny_bind (D1.item k _ _ _ hk (D1.frame _ _ _ h1 (keepS sa D.z1)) fun x hb tb px s1b sb => wpAny_pure ?_)
  have Tb : IsPair hb TO a b := sb.extBut _ _ D.TOi1 (sa.extBut _ _ D.TOz hTO)
  refine wpAny_bind (wpAny_seqItems Tb rfl (wpAny_bind (wpAny_updateSeq_pair Tb fun hc Tc sc => wpAny_bind (wpAny_letGo (wpAny_pure ?_)))))
  replace Tc : IsPair hc TO x b := Tc
  -- the other one
  refine wpAny_bind (wpAny_bind (wpAny_onRaise ?_))
  show wpAny _ _ (Builtin.SmallTypes.nextOf (.ref i2) >>= _) _ _ _
  refine wpAny_bind (D2.item k _ _ _ hk (D2.frame _ _ _ (D2.frame _ _ _ (D2.frame _ _ _ h2 (keepS sa D.z2)) (keepS sb D.i12')) (keepS sc D.T2)) fun y hd td py s2d sd => wpAny_pure ?_)
  have Td : IsPair hd TO x b := sd.extBut _ _ D.TOi2 Tc
  refine wpAny_bind (wpAny_seqItems Td rfl (wpAny_bind (wpAny_updateSeq_pair Td fun he Te se => wpAny_bind (wpAny_letGo (wpAny_pure (wpAny_pure ?_))))))
  replace Te : IsPair he TO x y := Te
  -- the pair handed out
  refine wpAny_bind (wpAny_seqItems Te rfl (wpAny_bind (wpAny_newTuple ?_)))
  have size : he.objs.size = s.heap.objs.size := by rw [se.1, sd.1, sc.1, sb.1, sa.1]
  have ze : IsZip he z TI TO .ellipsis := se.extBut _ _ D.TOz.symm (sd.extBut _ _ D.i2z.symm (sc.extBut _ _ D.TOz.symm (sb.extBut _ _ D.i1z.symm za)))
  have kept : ∀ c o, c ≠ z → c ≠ TO → c ≠ i1 → c ≠ i2 → s.heap.get? c = some o → he.get? c = some o := fun c o c1 c2 c3 c4 q =>
    se.extBut _ _ c2 (sd.extBut _ _ c4 (sc.extBut _ _ c2 (sb.extBut _ _ c3 (sa.extBut _ _ c1 q))))
  have s1e := D1.frame _ _ _ (D1.frame _ _ _ (D1.frame _ _ _ s1b (keepS sc D.T1)) (keepS sd D.i21)) (keepS se D.T1)
  have s2e := D2.frame _ _ _ s2d (keepS se D.T2)
  have zl : z < he.objs.size := Heap.lt_size ze
  show wpAny _ _ (Builtin.SmallTypes.ownedTupleHandOut (.ref z) (.ref he.objs.size) >>= _) _ _ _
  refine wpAny_bind ?_
  unfold Builtin.SmallTypes.ownedTupleHandOut
  have zf : IsZip (he.push { cls := .type "tuple", data := .seq #[x, y] }) z TI TO .ellipsis := Heap.get?_push_of_some _ ze
  refine wpAny_bind (wpAny_setField_rec zf (by simp) fun hg zg sg => ?_)
  replace zg : IsZip hg z TI TO (rawInt he.objs.size) := zg
  refine wpAny_setField_rec zg (by simp) fun hh zh sh => wpAny_pure ⟨_, rfl, ?_⟩
  replace zh : IsZip hh z TI TO (rawInt he.objs.size) := zh
  have up : ∀ c o, c ≠ z → he.get? c = some o → hh.get? c = some o := fun c o c1 q => sh.extBut _ _ c1 (sg.extBut _ _ c1 (Heap.get?_push_of_some _ q))
  have Th : IsPair hh he.objs.size x y := sh.extBut _ _ (Nat.ne_of_gt zl) (sg.extBut _ _ (Nat.ne_of_gt zl) (Heap.get?_push_size _ rfl))
  rw [size] at zh Th
  show Q (.ref he.objs.size) _
  rw [size]
  exact hQ x y hh _ px py zh (up _ _ D.TOz Te) (D1.frame _ _ _ s1e fun b hb o q => up b o (fun e => D.z1 (e ▸ hb)) q) (D2.frame _ _ _ s2e fun b hb o q => up b o (fun e => D.z2 (e ▸ hb)) q) Th fun c o c1 c2 c3 c4 q => up c o c1 (kept c o c1 c2 c3 c4 q)
/-- the first one ends -/
theorem next_end {z TI TO i1 i2 : Addr} {f1 f2 : List Addr} {n : Nat} {P1 : Nat → Value → Prop} {S1 : Nat → Heap → Prop} {a b : Value} {Q : Fin → Shared → Prop}
    (D1 : Draws prog w A i1 f1 n P1 S1) (D : Ap z TI TO i1 i2 f1 f2) (hz : IsZip s.heap z TI TO .none) (hTI : IsPair s.heap TI (.ref i1) (.ref i2)) (hTO : IsPair s.heap TO a b) (h1 : S1 n s.heap)
    (hE : ∀ h' e, (∀ c o, c ≠ z → c ≠ i1 → s.heap.get? c = some o → h'.get? c = some o) → (∃ o, h'.get? e = some o ∧ o.cls = .type "StopIteration") → E (.ref e) { s with heap := h' }) :
    wpAny (model prog w) A (Builtin.«zip.__next__» ⟨[.ref z], []⟩) Q E s := by
  show wpAny _ _ (field (.ref z) 2 >>= _) _ _ _
  refine wpAny_bind (wpAny_field hz rfl (x := .bool false) rfl ?_)
  show wpAny _ _ (field (.ref z) 3 >>= _) _ _ _
  refine wpAny_bind (wpAny_field hz rfl (x := .ref TI) rfl (wpAny_bind (wpAny_seqItems hTI rfl ?_)))
  show wpAny _ _ (Builtin.SmallTypes.ownedTupleIsFree (.ref z) >>= _) _ _ _
  refine wpAny_bind ?_
  unfold Builtin.SmallTypes.ownedTupleIsFree
  refine wpAny_bind (wpAny_field hz rfl (x := .none) rfl (wpAny_pure ?_))
  simp only [if_true]
  refine wpAny_bind (wpAny_rule (wpAny_bind (wpAny_field hz rfl (x := .ref TO) rfl ?_)))
  refine wpAny_bind (wpAny_setField_rec hz (by simp) fun ha za sa => wpAny_bind ?_)
  replace za : IsZip ha z TI TO .ellipsis := za
  simp only [List.zipIdx_cons, List.zipIdx_nil, List.forIn_cons, List.forIn_nil]
  refine wpAny_bind (wpAny_bind (wpAny_onRaise ?_))
  show wpAny _ _ (Builtin.SmallTypes.nextOf (.ref i1) >>= _) _ _ _
  refine wpAny_bind (D1.done _ _ _ (D1.frame _ _ _ h1 (keepS sa D.z1)) fun hb e sb he => ?_)
  obtain ⟨oe, hoe, hce⟩ := he
  have zb : IsZip hb z TI TO .ellipsis := sb _ _ D.i1z.symm za
  have ez : e ≠ z := fun x => by subst x; rw [zb] at hoe; cases hoe; simp at hce
  exact wpAny_setField_rec zb (by simp) fun hc _ sc => hE hc e (fun c o c1 c2 q => sc.extBut _ _ c1 (sb _ _ c2 (sa.extBut _ _ c1 q))) ⟨oe, sc.extBut _ _ ez hoe, hce⟩
end
end ZpD

set_option Elab.async false
set_option linter.all false
set_option maxRecDepth 100000
set_option maxHeartbeats 4000000
/-! zip over a list and a tuple of one length: the call, a turn -/
namespace ZpD
open PySem
abbrev hA (h : Heap) (l : Addr) : Heap := h.push { cls := .type "list_iterator", data := .fields #[.ref l, .int 0 0] }
abbrev hB (h : Heap) (l t : Addr) : Heap := (hA h l).push { cls := .type "tuple_iterator", data := .fields #[.ref t, .int 0 0] }
abbrev hC (h : Heap) (l t : Addr) : Heap := (hB h l t).push { cls := .type "tuple", data := .seq #[.ref h.objs.size, .ref (hA h l).objs.size] }
abbrev hD (h : Heap) (l t : Addr) : Heap := (hC h l t).push { cls := .type "tuple", data := .seq #[.none, .none] }
abbrev hE (h : Heap) (l t : Addr) : Heap := (hD h l t).push { cls := .type "zip", data := .fields #[.none, .bool false, .bool false, .ref (hB h l t).objs.size, .ref (hC h l t).objs.size] }
theorem makes (l t : Addr) (xs ys : Array Value) :
    Meets (Builtin.«zip.__new__» ⟨[.type "zip", .ref l, .ref t], []⟩) (fun _ R s => s.heap.IsList l xs ∧ s.heap.IsTuple t ys ∧ R (.ok (.ret (.ref (hD s.heap l t).objs.size))) { s with heap := hE s.heap l t }) :=
  .of_wp fun prog w A R s h => by
    obtain ⟨hp, g, d, tk, os⟩ := s; obtain ⟨hl, ht, h⟩ := h
    have same := sub_zip
    have h1 : Heap.IsList (Shared.heap ⟨hp, g, d, tk, os⟩) l xs := hl
    have h2 : Heap.IsTuple (Shared.heap ⟨hp.push { cls := .type "list_iterator", data := .fields #[.ref l, .int 0 0] }, g, d, tk, os⟩) t ys := Heap.IsTuple.push ht _
    wp_walk using wpAny_pyIter_list h1, wpAny_pyIter_tuple h2
    exact ⟨_, rfl, h⟩
section
variable {prog : Program} {w : World} {A : Around} {E : Value → Shared → Prop} {s : Shared}
theorem calls {l t : Addr} {xs ys : Array Value} {Q : Value → Shared → Prop} (hl : s.heap.IsList l xs) (ht : s.heap.IsTuple t ys)
    (h : ∀ h', IsZip h' (s.heap.objs.size + 4) (s.heap.objs.size + 2) (s.heap.objs.size + 3) .none → IsPair h' (s.heap.objs.size + 2) (.ref s.heap.objs.size) (.ref (s.heap.objs.size + 1)) →
      IsPair h' (s.heap.objs.size + 3) .none .none → h'.IsListIter s.heap.objs.size l 0 → h'.IsTupleIter (s.heap.objs.size + 1) t 0 → (∀ c o, s.heap.get? c = some o → h'.get? c = some o) → Q (.ref (s.heap.objs.size + 4)) { s with heap := h' }) :
    wpAny (model prog w) A (call (.type "zip") [.ref l, .ref t]) Q E s := by
  refine callType_new F.called_zip (by decide) (F.typeCall_zip_2 _ _) (F.newCall_zip_2 _ _) (fun obj => F.args_object_init_3 obj _ _) F.entry_zip_new (makes l t xs ys) ⟨hl, ht, ?_⟩
  have n1 : (hA s.heap l).objs.size = s.heap.objs.size + 1 := Heap.size_push ..
  have n2 : (hB s.heap l t).objs.size = s.heap.objs.size + 2 := by rw [Heap.size_push, n1]
  have n3 : (hC s.heap l t).objs.size = s.heap.objs.size + 3 := by rw [Heap.size_push, n2]
  have n4 : (hD s.heap l t).objs.size = s.heap.objs.size + 4 := by rw [Heap.size_push, n3]
  have up : ∀ {h : Heap} {o : Obj} {c : Addr} {u : Obj}, h.get? c = some u → (h.push o).get? c = some u := fun q => Heap.get?_push_of_some _ q
  have gE : (hE s.heap l t).get? (hD s.heap l t).objs.size = some _ := Heap.get?_push_size _ rfl
  have gD : (hE s.heap l t).get? (hC s.heap l t).objs.size = some _ := up (Heap.get?_push_size _ rfl)
  have gC : (hE s.heap l t).get? (hB s.heap l t).objs.size = some _ := up (up (Heap.get?_push_size _ rfl))
  have gB : (hE s.heap l t).get? (hA s.heap l).objs.size = some _ := up (up (up (Heap.get?_push_size _ rfl)))
  have gA : (hE s.heap l t).get? s.heap.objs.size = some _ := up (up (up (up (Heap.get?_push_size _ rfl))))
  show _ ∧ _
  rw [n2, n3, n4] at gE
  rw [n1, n2] at gC
  rw [n3] at gD
  rw [n1] at gB
  rw [n4]
  exact ⟨⟨_, gE, rfl⟩, h _ gE gC gD ⟨_, gA, rfl, rfl⟩ ⟨_, gB, rfl, rfl⟩ fun c o q => up (up (up (up (up q))))⟩
end
end ZpD
namespace Sp1
open PySem PySem.Spec PyProof.Rows L2 ZpD
/-- the list at a and the tuple at b, of one length, the items in new pairs -/
def ItzM (K : PySem.W.Frag) (a b : Addr) : It :=
  ⟨fun i H => ∃ (xs ys : List V) (x y : V), SqL K H a xs ∧ SqT K H b ys ∧ xs.length = ys.length ∧ xs[i]? = some x ∧ ys[i]? = some y,
    fun i H v H' => ∃ T x y, v = .ref T ∧ H T = none ∧ H' = upd H T (.tup [x, y]) ∧ (∀ xs, SqL K H a xs → xs[i]? = some x) ∧ ∀ ys, SqT K H b ys → ys[i]? = some y,
    fun i H => ∃ xs : List V, SqL K H a xs ∧ xs.length = i⟩
theorem turn_zipM {P : Program} {w : World} {K : PySem.W.Frag} {elts : List Expr} {kk : Nat} {tpos : Pos} {a b z TI TO i1 i2 : Addr} (D : Ap z TI TO i1 i2 [i1, a] [i2, b]) (na : a ≠ i1) (nb : b ≠ i2) :
    Turn P w K (.Tuple elts kk tpos) (ItzM K a b) [z, TI, TO, i1, i2] z (fun i h => IsZip h z TI TO .none ∧ IsPair h TI (.ref i1) (.ref i2) ∧ (∃ x y, IsPair h TO x y) ∧ h.IsListIter i1 a i ∧ h.IsTupleIter i2 b i) where
  mem := List.mem_cons_self
  obj := fun i h st c hc => by
    obtain ⟨hz, hTI, ⟨x, y, hTO⟩, ⟨o1, e1, _, d1⟩, ⟨o2, e2, _, d2⟩⟩ := st
    simp only [List.mem_cons, List.not_mem_nil, or_false] at hc
    rcases hc with rfl | rfl | rfl | rfl | rfl
    · exact ⟨_, hz, fun v q => nomatch q⟩
    · exact ⟨_, hTI, fun v q => nomatch q⟩
    · exact ⟨_, hTO, fun v q => nomatch q⟩
    · exact ⟨o1, e1, fun v q => by rw [d1] at q; cases q⟩
    · exact ⟨o2, e2, fun v q => by rw [d2] at q; cases q⟩
  keep := fun i h h' st k => by
    obtain ⟨hz, hTI, ⟨x, y, hTO⟩, h1, h2⟩ := st
    exact ⟨k z (by simp) _ hz, k TI (by simp) _ hTI, ⟨x, y, k TO (by simp) _ hTO⟩, h1.at fun o q => k i1 (by simp) o q, h2.at fun o q => k i2 (by simp) o q⟩
  item := by
    intro X hP hw hK hc i pins s σ H E I hf st hg
    subst hP hw hK
    obtain ⟨hz, hTI, ⟨x0, y0, hTO⟩, h1, h2⟩ := st
    obtain ⟨xs, ys, x, y, hqx, hqy, hl, hx, hy⟩ := hg
    obtain ⟨its, rv, p1, _⟩ := I.list hqx
    obtain ⟨its2, rv2, p2, _⟩ := I.tuple hqy
    obtain ⟨u, hu, ru⟩ := rv.get hx
    obtain ⟨u2, hu2, ru2⟩ := rv2.get hy
    have l1 := rv.length
    have l2 := rv2.length
    have hi : i < its.toArray.size := by
      rw [List.size_toArray]
      exact (List.getElem?_eq_some_iff.mp hu).1
    have e : its2.toArray.size = its.toArray.size := by rw [List.size_toArray, List.size_toArray]; omega
    have D2 : ∀ {A : Around}, A.handled = none → Draws X.prog X.w A i2 [i2, b] its.toArray.size (fun i v => its2.toArray[i]? = some v) (fun i h => h.IsTupleIter i2 b i ∧ h.IsTuple b its2.toArray) := fun hh => e ▸ Draws.tuple hh i2 b nb its2.toArray
    have hT : s.TypeIs (.ref z) "zip" := ⟨_, hz, rfl⟩
    have hzl : z < s.heap.objs.size := Heap.lt_size hz
    unfold pyNext
    refine wpAny_bind (wpAny_attempt (wpAny_callSpecial?_slot (name := Str.ofString "__next__") hT F.slot_zip_next (wpAny_call_entry F.slot_zip_next hT F.entry_zip_next
      (next_item (Draws.list (prog := X.prog) (w := X.w) (A := X.A.in1) (I.ok.hd hc) i1 a na its.toArray) (D2 (A := X.A.in1) (I.ok.hd hc)) D hz hTI hTO ⟨h1, p1.isList⟩ ⟨h2, p2⟩ hi fun v v2 h' tk hv hv2 z' TO' s1 s2 hT' hk => wpAny_pure ?_) (F.args_zip_next_1 _))))
    have ev : v = u := by
      have : its.toArray[i]? = some u := by simpa using hu
      rw [this] at hv
      exact (Option.some.inj hv).symm
    have ev2 : v2 = u2 := by
      have : its2.toArray[i]? = some u2 := by simpa using hu2
      rw [this] at hv2
      exact (Option.some.inj hv2).symm
    subst ev
    subst ev2
    refine ⟨_, rfl, wpAny_letOwnedTupleGo_zip (s := { s with heap := h', toks := tk }) z' fun h'' z'' sb => ?_⟩
    have hT2 : h''.get? s.heap.objs.size = some { cls := .type "tuple", data := .seq #[v, v2] } := (sb.2 _ (Nat.ne_of_gt hzl)).trans hT'
    have new : ObjOk X.prog X.w (upd H s.heap.objs.size (.tup [x, y])) h'' s.heap.objs.size (.tup [x, y]) :=
      ⟨by show 2 ≤ sizeLine; decide, [v, v2], .cons ru (.cons ru2 .nil), ⟨_, hT2, rfl, _, rfl⟩⟩
    have I1 : Inv X pins σ (upd H s.heap.objs.size (.tup [x, y])) { s with heap := h'', toks := tk } :=
      I.turnedNew (ch := [z, TI, TO, i1, i2]) (fun c o hb q => by
        simp only [List.mem_cons, List.not_mem_nil, or_false, not_or] at hb
        exact (sb.2 c hb.1).trans (hk c o hb.1 hb.2.2.1 hb.2.2.2.1 hb.2.2.2.2 q)) hf (Nat.le_refl _) new
    refine ⟨.ref s.heap.objs.size, _, I1, rfl, ⟨_, x, y, rfl, I.hok.fresh (Nat.le_refl _), rfl, fun l hl' => by rw [I.list_inj hl' hqx]; exact hx, fun l hl' => by rw [I.tuple_inj hl' hqy]; exact hy⟩, ⟨z'', (sb.2 _ D.TIz).trans (hk _ _ D.TIz D.TITO D.TIi1 D.TIi2 hTI), ⟨v, v2, (sb.2 _ D.TOz).trans TO'⟩, s1.1.at fun o q => (sb.2 _ D.i1z).trans q, s2.1.at fun o q => (sb.2 _ D.i2z).trans q⟩, fun c hcm => ?_⟩
    have hlt : c < s.heap.objs.size := by
      simp only [List.mem_cons, List.not_mem_nil, or_false] at hcm
      rcases hcm with rfl | rfl | rfl | rfl | rfl
      · exact hzl
      · exact Heap.lt_size hTI
      · exact Heap.lt_size hTO
      · obtain ⟨_, e1, _⟩ := h1
        exact Heap.lt_size e1
      · obtain ⟨_, e2, _⟩ := h2
        exact Heap.lt_size e2
    rw [upd_ne (Nat.ne_of_lt hlt)]
    exact (hf c hcm).1
  done := by
    intro X hP hw hK hc i pins s σ H E I hf st hg
    subst hP hw hK
    obtain ⟨hz, hTI, ⟨x0, y0, hTO⟩, h1, h2⟩ := st
    obtain ⟨xs, hqx, hl⟩ := hg
    obtain ⟨its, rv, p1, _⟩ := I.list hqx
    have l1 := rv.length
    have hi : i = its.toArray.size := by rw [List.size_toArray]; omega
    subst hi
    have hT : s.TypeIs (.ref z) "zip" := ⟨_, hz, rfl⟩
    unfold pyNext
    refine wpAny_bind (wpAny_attempt (wpAny_callSpecial?_slot (name := Str.ofString "__next__") hT F.slot_zip_next (wpAny_call_entry F.slot_zip_next hT F.entry_zip_next
      (next_end (Draws.list (prog := X.prog) (w := X.w) (A := X.A.in1) (I.ok.hd hc) i1 a na its.toArray) D hz hTI hTO ⟨h1, p1.isList⟩ fun h' e hk he => ?_) (F.args_zip_next_1 _))))
    obtain ⟨o, ho, hcl⟩ := he
    refine wpAny_bind (wpAny_isInstance (T := "StopIteration") (b := true) ⟨o, ho, hcl⟩ isSubtype_stop ?_)
    refine wpAny_pure ⟨rfl, I.turnedL (t' := s.toks) (ch := [z, TI, TO, i1, i2]) (fun c o hb q => ?_) hf⟩
    simp only [List.mem_cons, List.not_mem_nil, or_false, not_or] at hb
    exact hk c o hb.1 hb.2.2.2.1 q
  self := fun A i s Q E st h => wpAny_pyIter_zip st.1 h
def iZipM (K : PySem.W.Frag) (ta : TA) : TI := fun σ H R => ta σ H fun vs H1 => ∃ a b xs ys, vs = [.ref a, .ref b] ∧ SqL K H1 a xs ∧ SqT K H1 b ys ∧ R (ItzM K a b) H1
theorem pi_zipM {X : Cx} {e e2 : Expr} {ta : TA} {p pos tpos : Pos} {elts : List Expr} {kk : Nat} (hg : Gl X "zip") (hm : X.mg "zip" = none) (ha : PA X [e, e2] ta)
    (hs : starEach [e, e2] X.env = (false, eval e X.env) :: starEach [e2] X.env := by rfl) (hpl : (backTo pos (starEach [e2] X.env)).any (·.1) = false := by rfl) :
    PI X (.Tuple elts kk tpos) (.Call (.Name "zip" p) [e, e2] [] pos) (iZipM X.K ta) := by
  refine ⟨fun pins s σ H R I h => ?_⟩
  refine Call_ (ld_blt I hg hm PyProof.Rows.boot_zip (PyProof.Rows.callWith_type1 (thn (ha.run pos pins s σ H _ I h) fun us s1 ⟨vs, H1, I1, r1, q1⟩ => ?_) hs hpl))
  obtain ⟨a, b, xs, ys, rfl, hqx, hqy, q⟩ := q1
  obtain ⟨u, u2, rfl, r, r'⟩ := vals2 r1
  cases r
  cases r'
  obtain ⟨its, rv, p1, _⟩ := I1.list hqx
  obtain ⟨its2, rv2, p2, _⟩ := I1.tuple hqy
  have la : (a : Nat) < s1.heap.objs.size := p1.lt
  have lb : (b : Nat) < s1.heap.objs.size := by
    obtain ⟨o, ho, _⟩ := id p2
    exact Heap.lt_size ho
  refine calls p1.isList p2 fun h' hz hTI hTO h1 h2 hk => wpAny_pyIter_zip hz ?_
  have I2 : Inv X pins σ H1 { s1 with heap := h' } := I1.kept (t' := s1.toks) hk
  have D : Ap (s1.heap.objs.size + 4) (s1.heap.objs.size + 2) (s1.heap.objs.size + 3) s1.heap.objs.size (s1.heap.objs.size + 1) [s1.heap.objs.size, a] [s1.heap.objs.size + 1, b] := by
    generalize s1.heap.objs.size = n at la lb
    have f1 : ∀ k : Nat, n ≤ k → k ≠ a := fun k hk e => Nat.lt_irrefl n (Nat.lt_of_le_of_lt (e ▸ hk) la)
    have f2 : ∀ k : Nat, n ≤ k → k ≠ b := fun k hk e => Nat.lt_irrefl n (Nat.lt_of_le_of_lt (e ▸ hk) lb)
    refine ⟨?_, ?_, ?_, ?_, ?_, ?_, ?_, ?_, ?_, ?_, ?_, ?_, ?_, ?_, ?_, ?_⟩
    all_goals first
      | exact fun e => absurd (show (_ : Nat) = _ from e) (by omega)
      | (intro e
         simp only [List.mem_cons, List.not_mem_nil, or_false] at e
         rcases e with e | e
         · exact absurd (show (_ : Nat) = _ from e) (by omega)
         · first
             | exact f1 _ (by omega) e
             | exact f2 _ (by omega) e)
  refine ⟨s1.heap.objs.size + 4, [s1.heap.objs.size + 4, s1.heap.objs.size + 2, s1.heap.objs.size + 3, s1.heap.objs.size, s1.heap.objs.size + 1], _, _, H1, rfl, I2, turn_zipM D (Nat.ne_of_lt la) (Nat.ne_of_lt (Nat.lt_succ_of_lt lb)), ⟨hz, hTI, ⟨_, _, hTO⟩, h1, h2⟩, fun c hcm => ?_, q⟩
  have hle : s1.heap.objs.size ≤ c := by
    simp only [List.mem_cons, List.not_mem_nil, or_false] at hcm
    rcases hcm with rfl | rfl | rfl | rfl | rfl
    all_goals first
      | exact Nat.le_refl _
      | exact Nat.le_add_right _ _
  exact I1.fpOk hle (I1.hok.fresh hle)
theorem walk_zipM {K : PySem.W.Frag} {a b : Addr} {xs ys : List V} (hl : xs.length = ys.length) : Walk (ItzM K a b) xs.length (fun H => SqL K H a xs ∧ SqT K H b ys) (YPair (fun i => xs[i]?) (fun i => ys[i]?)) := by
  refine ⟨fun i _ hi q => ⟨xs, ys, xs[i], ys[i]'(by omega), q.1, q.2, hl, List.getElem?_eq_getElem hi, List.getElem?_eq_getElem _⟩, fun _ q => ⟨xs, q.1, rfl⟩, fun i H v H' _ q y => ?_⟩
  obtain ⟨T, x, y, h1, h2, h3, h4, h5⟩ := y
  exact ⟨T, x, y, h1, h2, h3, h4 xs q.1, h5 ys q.2⟩
end Sp1

set_option Elab.async false
set_option linter.all false
set_option maxRecDepth 100000
set_option maxHeartbeats 4000000
/-! xs[a:c] = t, xs a list and t a tuple -/
namespace SlT
open PySem PySem.Spec PyProof.Rows L2
section
variable {prog : Program} {w : World} {A : Around} {E : Value → Shared → Prop} {s : Shared}
theorem store {l b sl : Addr} {items new : Array Value} {n : Nat} {vl vu : Value} {a c : Nat} {Q : Unit → Shared → Prop}
    (e : s.heap.get? l = some { cls := .type "list", data := .seq items n }) (hb : s.heap.IsTuple b new) (hne : l ≠ b)
    (hs : s.heap.IsSliceOf sl vl vu .none) (pl : IsPart vl (some (a : Int))) (pu : IsPart vu (some (c : Int))) (hac : a ≤ c) (hc : c ≤ items.size)
    (hsz : items.size + new.size ≤ sizeLine) (h : Q () { s with heap := s.heap.update l (Obj.mapSeq fun xs => xs.extract 0 a ++ new ++ xs.extract c xs.size) }) :
    wpAny (model prog w) A (setItem (.ref l) (.ref sl) (.ref b)) Q E s := by
  have hl : s.heap.IsList l items := PySem.IsL.isList e
  obtain ⟨ob, hob, hcb, nb, hdb⟩ := id hb
  have tb : s.TypeIs (.ref b) "tuple" := ⟨ob, hob, hcb⟩
  obtain ⟨os, hos, hcs, hds⟩ := id hs
  have ts : s.TypeIs (.ref sl) "slice" := ⟨os, hos, hcs⟩
  have apart : Builtin.List.listSameRef (.ref l) (.ref b) = false := beq_eq_false_iff_ne.mpr hne
  have top : (max (a : Int) (c : Int)).toNat = c := by omega
  have fits : ((fun xs : Array Value => xs.extract 0 a ++ new ++ xs.extract c xs.size) items).size ≤ sizeLine + 1 := by
    simp only [Array.size_append, Array.size_extract]
    omega
  unfold setItem
  try with_reducible refine wpAny_holding ?_
  first | refine wpAny_bind (wpAny_pure ?_) | skip
  refine wpAny_bind (wpAny_sequenceKey hl.typeIs (by decide) ?_)
  refine wpAny_bind (wpAny_callSpecial?_slot (name := Str.ofString "__setitem__") hl.typeIs slot_list_setitem (wpAny_call_entry slot_list_setitem hl.typeIs entry_list_setitem ?_ (args_list_setitem _ _ _)))
  show wpAny _ _ (Builtin.List.listSubscript? (.ref sl) >>= _) _ _ s
  refine wpAny_bind ?_
  unfold Builtin.List.listSubscript?
  refine wpAny_bind (wpAny_specialOf ts slice_no_index ?_)
  simp only [Option.isNone_none, if_true]
  refine wpAny_pure ?_
  show wpAny _ _ (typeOf (.ref sl) >>= _) _ _ s
  refine wpAny_bind (wpAny_typeOf ts ?_)
  first
    | rw [if_neg (by decide)]
    | refine PySem.W.KFB.if_not (by decide) ?_
  rw [listSliceParts_eq]
  refine wpAny_bind (wpAny_bind (wpAny_field hos hds (x := .none) rfl (wpAny_bind (wpAny_listPart .none ?_))))
  rw [if_neg (show ¬ ((rawPart none == rawInt 0) = true) from Bool.false_ne_true)]
  refine wpAny_bind (wpAny_field hos hds (x := vl) rfl (wpAny_bind (wpAny_listPart pl ?_)))
  refine wpAny_bind (wpAny_field hos hds (x := vu) rfl (wpAny_bind (wpAny_listPart pu (wpAny_pure ?_))))
  first
    | simp only [apart, Bool.false_eq_true, if_false]
    | refine PySem.W.KFB.if_not apart ?_
    | (dsimp only
       rw [if_neg (by rw [apart]; exact Bool.false_ne_true)])
  refine wpAny_bind (m := Builtin.List.listAllItems (.ref b) "must assign iterable to extended slice") ?_
  unfold Builtin.List.listAllItems
  refine wpAny_bind (wpAny_typeOf tb ?_)
  first
    | refine PySem.W.KFB.if_so (by decide) ?_
    | rw [if_pos (by decide)]
  unfold Builtin.List.listItems
  refine wpAny_bind (wpAny_seqItems hob hdb (wpAny_pure ?_))
  refine wpAny_bind (wpAny_bind (wpAny_seqItems e rfl (wpAny_pure ?_)))
  refine wpAny_bind (wpAny_of_eq ((sliceIndices_raw (some (a : Int)) (some (c : Int)) none items.size (by simp)).trans (congrArg (pure : Int × Int × Int → Sem (Int × Int × Int)) (bounds_run hac hc))) ?_)
  show wpAny _ _ (if ((1 : Int) == 1) = true then _ else _) _ _ s
  rw [if_pos (by decide)]
  refine wpAny_bind (wpAny_rule ?_)
  first
    | simp only [notLongL hsz, Bool.false_eq_true, if_false]
    | refine PySem.W.KFB.if_not (notLongL hsz) ?_
  first | refine wpAny_bind (wpAny_pure ?_) | skip
  show wpAny _ _ (updateSeq l (fun xs => xs.extract 0 ((a : Int)).toNat ++ new ++ xs.extract (max (a : Int) (c : Int)).toNat xs.size) >>= _) _ _ s
  rw [top, Int.toNat_natCast]
  refine wpAny_bind (wpAny_updateSeq (hz := Nat.le_trans (Nat.le_add_right _ _) hsz) (_hz' := fits) e rfl (wpAny_bind (wpAny_letGo ?_)))
  first
    | exact wpAny_bind (wpAny_pure (wpAny_pure ⟨.none, rfl, wpAny_pure h⟩))
    | exact wpAny_pure ⟨.none, rfl, wpAny_pure h⟩
end
end SlT
namespace Sp1
open PySem PySem.Spec PyProof.Rows L2
section
variable {X : Cx} {o : Expr} {lo hi : Option Expr} {pos p2 : Pos} {to : TE} {tl th : TO}
/-- o[lo:hi] = t, o a list and t a tuple -/
def gSlT (K : PySem.W.Frag) (to : TE) (tl th : TO) : TG := fun v σ H Q => to σ H fun x H1 => tl σ H1 fun l H2 => th σ H2 fun u H3 => ∃ (p b : Addr) (xs ys : List V) (a c : Nat), x = .ref p ∧ v = .ref b ∧ l = some (a : Int) ∧ u = some (c : Int) ∧
  H3 p = some (.lst xs) ∧ SqT K H3 b ys ∧ a ≤ c ∧ c ≤ xs.length ∧ xs.length + ys.length ≤ sizeLine ∧ Q σ (upd H3 p (.lst (xs.take a ++ ys ++ xs.drop c)))
theorem pg_slT (ho : PE X o to) (hl : PO X lo tl) (hu : PO X hi th)
    (ha : ∀ v, assign (.Subscript o (.Slice lo hi none p2) pos) X.env v = (do
      let ov ← holding [v] (eval o X.env)
      let iv ← holding [v, ov] (eval (.Slice lo hi none p2) X.env)
      standAt pos
      holding [v, ov, iv] (setItem ov iv v)
      release [iv, v, ov] []) := by intro _; rfl) : PG X (.Subscript o (.Slice lo hi none p2) pos) (gSlT X.K to tl th) := by
  refine ⟨fun pins s σ H v u Q I r h => ?_⟩
  rw [ha]
  refine wpAny_bind (wpAny_holding (thn (ho.run pins s σ H _ I h) fun ov s1 ⟨x, H1, I1, r1, q1⟩ => ?_))
  refine wpAny_bind (wpAny_holding ?_)
  refine wpAny_Slice (thn (hl.run pins s1 σ H1 _ I1 q1) fun vl s2 ⟨l, H2, I2, pl, q2⟩ => thn (hu.run pins s2 σ H2 _ I2 q2) fun vu s3 ⟨w, H3, I3, pu, q3⟩ => ?_)
  rw [evalPart_none]
  refine wpAny_pure ?_
  have I4 : Inv X pins σ H3 { s3 with heap := s3.heap.push { cls := .type "slice", data := .fields #[vl, vu, .none] } } := I3.kept (t' := s3.toks) fun b ob q => Heap.get?_push_of_some _ q
  obtain ⟨p, b, xs, ys, a, c, rfl, rfl, rfl, rfl, hp, hb, hac, hc, hz, q⟩ := q3
  cases r1
  cases r
  obtain ⟨z, its, n, rv, hll, e⟩ := I4.lstM hp
  obtain ⟨its2, rv2, p2', hz2⟩ := I4.tuple hb
  have hne : p ≠ b := fun z => by
    subst z
    obtain ⟨o2, ho2, hc2, _⟩ := p2'
    rw [e] at ho2
    cases ho2
    injection hc2 with hc2
    exact absurd hc2 (by decide)
  have l1 := rv.length
  have l2 := rv2.length
  refine wpAny_bind (wpAny_standAt (wpAny_bind (wpAny_holding (SlT.store (a := a) (c := c) e (show Heap.IsTuple _ b its2.toArray from p2') hne (Heap.IsSliceOf.new ..) pl pu hac (by rw [List.size_toArray]; omega) (by rw [List.size_toArray, List.size_toArray]; omega) (wpAny_release ⟨σ, _, ?_, q⟩)))))
  refine I4.lset (its' := its.take a ++ its2 ++ its.drop c) (t' := s3.toks) hp e (splice_eq its its2 a c) (Vals.append (Vals.append (rv.take _) rv2) (rv.drop _)) ?_
  rw [List.length_append, List.length_append, List.length_take, List.length_drop]
  omega
end
end Sp1

set_option Elab.async false
set_option linter.all false
set_option maxRecDepth 100000
set_option maxHeartbeats 8000000
namespace Pg
open PySem
/-- divided by what divides them all -/
def lowV (u : List Int) : List Int := u.map fun x => x / (gcdL u : Int)
theorem lowV_one {u : List Int} (h : gcdL u = 1) : lowV u = u := by
  unfold lowV
  rw [h]
  conv => rhs; rw [← List.map_id u]
  exact List.map_congr_left fun x _ => by show x / 1 = x; exact Int.ediv_one x
theorem gcdL_one {u : List Int} {i : Nat} (h : gcdL (u.take i) = 1) : gcdL u = 1 := by
  have h1 : gcdL u ∣ gcdL (u.take i) := dvd_gcdL fun x hx => gcdL_dvd (List.mem_of_mem_take hx)
  rw [h] at h1
  exact Nat.dvd_one.mp h1
theorem gcdL_pos {u : List Int} {x : Int} (hx : x ∈ u) (x0 : x ≠ 0) : 1 ≤ gcdL u ∧ gcdL u ≤ x.natAbs := by
  have h := gcdL_dvd hx
  refine ⟨?_, Nat.le_of_dvd (by omega) h⟩
  rcases Nat.eq_zero_or_pos (gcdL u) with e | e
  · rw [e] at h
    have := Nat.eq_zero_of_zero_dvd h
    omega
  · exact e
theorem range_getD {l : List Int} {n : Nat} (h : l.length = n) : (List.range n).map (fun j => L2.V.int (l.getD j 0)) = l.map L2.V.int := by
  refine List.ext_getElem (by simp [h]) fun i h1 h2 => ?_
  rw [List.length_map] at h2
  simp [List.getD_eq_getElem?_getD, h2]
end Pg
namespace Sp1
open PySem PySem.Spec PyProof.Rows L2 Pg
section
variable {P : Program} {w : World} {K : PySem.W.Frag} {mg : Str → Option Value} {base : Heap}

def sp_cdL (K : PySem.W.Frag) : Sp := fun vs H Q _ => ∃ (g : Addr) (u : List Int), vs = [.ref g] ∧ SqL K H g (u.map V.int) ∧ Q (.int (gcdL u : Nat)) H
theorem okL_common_divisor (T : MvF K mg) : FnOk P w K mg base CX0 1 T.f_common_divisor T.fd_common_divisor ["numbers"] (sp_cdL K) := by
  refine T.D_common_divisor.F.ok sc_common_divisor (fun vs H Q E h => ?_) (fun cdv A outer s H vs Q E hr h => ?_)
  · obtain ⟨g, u, rfl, _⟩ := h
    rfl
  · obtain ⟨g, u, rfl, hg, q⟩ := h
    have nd := sc_common_divisor.nd
    refine ⟨_, (pss_cons (ps_set (i := 1) nd rfl (.inl rfl) pe_int)
      (pss_cons (ps_for PassesOwn.never rfl (pi_list (pv 0)) (pg_name (i := 2) nd rfl (.inl rfl))
      (pss_cons (ps_set (i := 1) nd rfl (.inl rfl) (pe_callBfun cr_gcd (by rfl) T.m_gcd (pa_cons (pv 1) (pa_cons (pv 2) pa_nil))))
        (pss_one (ps_if (pt_cmpR op_eq (pv 1) pe_int (nomark _))
        (pss_one (ps_ret pe_int))
        pss_nil))))
      (pss_one (ps_ret (pv 1))))), ?_⟩
    refine ⟨_, rfl, g, rfl, ⟨_, hg⟩, for_it (walk_list (K := K) (a := g) (xs := u.map V.int)) (fun i σ H' => H' = H ∧ ∃ y, σ = [some (.ref g), some (.int (gcdL (u.take i) : Nat)), y])
      ⟨rfl, none, rfl⟩ (fun i σ H' _ h => h.1 ▸ hg) ?_ ?_⟩
    · rintro i x σ H1 H2 hi ⟨rfl, y, rfl⟩ ⟨rfl, hx⟩
      rw [List.length_map] at hi
      rw [List.getElem?_map, List.getElem?_eq_getElem hi] at hx
      cases hx
      refine ⟨_, rfl, _, rfl, ?_⟩
      refine ⟨_, _, rfl, ?_⟩
      rw [Int.natAbs_natCast, ← gcdL_take hi]
      refine ⟨_, rfl, rfl, _, rfl, ite2 (fun e => ?_) (fun e => ⟨rfl, _, rfl⟩)⟩
      have e1 : gcdL (u.take (i + 1)) = 1 := by
        have := V.int.inj (of_decide_eq_true e)
        omega
      have e2 : gcdL u = 1 := gcdL_one e1
      show Q (.int 1) _
      rw [e2] at q
      exact q
    · rintro σ H1 ⟨rfl, y, rfl⟩
      rw [List.length_map, List.take_length]
      exact ⟨_, rfl, q⟩
def sp_divL (K : PySem.W.Frag) : Sp := fun vs H Q _ => ∃ (g : Addr) (u : List Int), vs = [.ref g] ∧ SqL K H g (u.map V.int) ∧ u.length ≤ 1000 ∧ (∃ x ∈ u, x ≠ 0 ∧ x.natAbs < 2 ^ 8000) ∧ ∀ H' t, Same H H' → SqT K H' t ((lowV u).map V.int) → Q (.ref t) H'
theorem okL_divided (T : MvF K mg) : FnOk P w K mg base CX0 2 T.f_divided T.fd_divided ["vector"] (sp_divL K) := by
  refine T.D_divided.F.ok sc_divided (fun vs H Q E h => ?_) (fun cdv A outer s H vs Q E hr h => ?_)
  · obtain ⟨g, u, rfl, _⟩ := h
    rfl
  · obtain ⟨g, u, rfl, hg, ul, ⟨x, hx, x0, xb⟩, q⟩ := h
    have nd := sc_divided.nd
    obtain ⟨g1, g2⟩ := gcdL_pos hx x0
    have gb : gcdL u < 2 ^ 8000 := Nat.lt_of_le_of_lt g2 xb
    refine ⟨_, (pss_cons (ps_set (i := 1) nd rfl (.inr rfl) (pe_call ((okL_common_divisor T).mono (by decide)) hr (by rfl) T.D_common_divisor.g T.D_common_divisor.kp T.D_common_divisor.b .nil pass0 (pa_cons (pv 0) pa_nil)))
      (pss_cons (ps_if (pt_cmpR op_le (pv 1) pe_int (nomark _))
      (pss_one (ps_ret (pe_callTy call_tuple_of (by rfl) T.m_tuple (by decide +kernel) (pa_cons (pv 0) pa_nil))))
      pss_nil)
      (pss_one (ps_ret (pe_callTy call_tuple_of (by rfl) T.m_tuple (by decide +kernel) (pa_cons (pe_lc (own := [("entry", 2)]) (g := (gName 2)) (tt := tYes) rfl nd (pi_list (pv 0)) (blkOk_by (N := N_divided) (sc := defScope s_divided) (by decide +kernel)) (fun _ _ _ _ _ => (pg_name (i := 2) nd rfl (.inl rfl))) (fun _ _ _ _ _ => pts_nil) (fun _ _ _ _ _ => (pe_op op_fdivW (pv 2) (pv 1)))) pa_nil)))))), ?_⟩
    refine ⟨_, rfl, g, u, rfl, hg, ?_⟩
    refine gn (σ' := [some (.ref g), some (.int (gcdL u : Nat)), none]) rfl ?_
    refine ⟨_, rfl, _, _, rfl, rfl, _, rfl, ite2 (fun e => ?_) (fun e => ?_)⟩
    · have e1 : gcdL u = 1 := by
        have : ((gcdL u : Nat) : Int) ≤ 1 := of_decide_eq_true e
        omega
      refine ⟨_, rfl, g, _, rfl, .inl ⟨hg, fun t nt => q _ t (same_new nt) (by rw [lowV_one e1]; exact SqT.of upd_same)⟩⟩
    · refine ⟨_, rfl, g, rfl, ⟨_, hg⟩, fun D nD => ?_⟩
      refine lc_it (walk_list (K := K) (a := g) (xs := u.map V.int)) (Acc H D fun j => V.int ((lowV u).getD j 0)) (Acc.start nD) (fun i H' _ h => Same.seq h.1 hg) ?_ ?_
      · rintro i x H1 H2 hi ac ⟨rfl, hx⟩
        rw [List.length_map] at hi
        rw [List.getElem?_map, List.getElem?_eq_getElem hi] at hx
        cases hx
        refine ⟨rfl, ?_⟩
        dsimp only [tYes]
        refine iteT ⟨_, rfl, _, rfl, _, _, rfl, rfl, wide_div (b := 8000) (by omega) (by rw [Int.natAbs_natCast]; exact gb) (by decide) (by decide), ac.turn nD (Same.refl _) (by omega) ?_⟩
        unfold lowV
        rw [List.getD_eq_getElem?_getD, List.getElem?_map, List.getElem?_eq_getElem hi]
        rfl
      · rintro H1 ⟨s1, hD⟩
        rw [List.length_map] at hD
        have hD' : H1 D = some (.lst ((lowV u).map V.int)) := by
          rw [hD]
          congr 2
          exact range_getD (by unfold lowV; rw [List.length_map])
        exact ⟨D, _, rfl, .inl ⟨SqL.of hD', fun t nt => q _ t (s1.trans (same_new nt)) (SqT.of upd_same)⟩⟩

def sp_cdT (K : PySem.W.Frag) : Sp := fun vs H Q _ => ∃ (g : Addr) (u : List Int), vs = [.ref g] ∧ SqT K H g (u.map V.int) ∧ Q (.int (gcdL u : Nat)) H
theorem okT_common_divisor (T : MvF K mg) : FnOk P w K mg base CX0 1 T.f_common_divisor T.fd_common_divisor ["numbers"] (sp_cdT K) := by
  refine T.D_common_divisor.F.ok sc_common_divisor (fun vs H Q E h => ?_) (fun cdv A outer s H vs Q E hr h => ?_)
  · obtain ⟨g, u, rfl, _⟩ := h
    rfl
  · obtain ⟨g, u, rfl, hg, q⟩ := h
    have nd := sc_common_divisor.nd
    refine ⟨_, (pss_cons (ps_set (i := 1) nd rfl (.inl rfl) pe_int)
      (pss_cons (ps_for PassesOwn.never rfl (pi_tup (pv 0)) (pg_name (i := 2) nd rfl (.inl rfl))
      (pss_cons (ps_set (i := 1) nd rfl (.inl rfl) (pe_callBfun cr_gcd (by rfl) T.m_gcd (pa_cons (pv 1) (pa_cons (pv 2) pa_nil))))
        (pss_one (ps_if (pt_cmpR op_eq (pv 1) pe_int (nomark _))
        (pss_one (ps_ret pe_int))
        pss_nil))))
      (pss_one (ps_ret (pv 1))))), ?_⟩
    refine ⟨_, rfl, g, rfl, ⟨_, hg⟩, for_it (walk_tup (K := K) (a := g) (xs := u.map V.int)) (fun i σ H' => H' = H ∧ ∃ y, σ = [some (.ref g), some (.int (gcdL (u.take i) : Nat)), y])
      ⟨rfl, none, rfl⟩ (fun i σ H' _ h => h.1 ▸ hg) ?_ ?_⟩
    · rintro i x σ H1 H2 hi ⟨rfl, y, rfl⟩ ⟨rfl, hx⟩
      rw [List.length_map] at hi
      rw [List.getElem?_map, List.getElem?_eq_getElem hi] at hx
      cases hx
      refine ⟨_, rfl, _, rfl, ?_⟩
      refine ⟨_, _, rfl, ?_⟩
      rw [Int.natAbs_natCast, ← gcdL_take hi]
      refine ⟨_, rfl, rfl, _, rfl, ite2 (fun e => ?_) (fun e => ⟨rfl, _, rfl⟩)⟩
      have e1 : gcdL (u.take (i + 1)) = 1 := by
        have := V.int.inj (of_decide_eq_true e)
        omega
      have e2 : gcdL u = 1 := gcdL_one e1
      show Q (.int 1) _
      rw [e2] at q
      exact q
    · rintro σ H1 ⟨rfl, y, rfl⟩
      rw [List.length_map, List.take_length]
      exact ⟨_, rfl, q⟩
def sp_divT (K : PySem.W.Frag) : Sp := fun vs H Q _ => ∃ (g : Addr) (u : List Int), vs = [.ref g] ∧ SqT K H g (u.map V.int) ∧ u.length ≤ 1000 ∧ (∃ x ∈ u, x ≠ 0 ∧ x.natAbs < 2 ^ 8000) ∧ ∀ H' t, Same H H' → SqT K H' t ((lowV u).map V.int) → Q (.ref t) H'
theorem okT_divided (T : MvF K mg) : FnOk P w K mg base CX0 2 T.f_divided T.fd_divided ["vector"] (sp_divT K) := by
  refine T.D_divided.F.ok sc_divided (fun vs H Q E h => ?_) (fun cdv A outer s H vs Q E hr h => ?_)
  · obtain ⟨g, u, rfl, _⟩ := h
    rfl
  · obtain ⟨g, u, rfl, hg, ul, ⟨x, hx, x0, xb⟩, q⟩ := h
    have nd := sc_divided.nd
    obtain ⟨g1, g2⟩ := gcdL_pos hx x0
    have gb : gcdL u < 2 ^ 8000 := Nat.lt_of_le_of_lt g2 xb
    refine ⟨_, (pss_cons (ps_set (i := 1) nd rfl (.inr rfl) (pe_call ((okT_common_divisor T).mono (by decide)) hr (by rfl) T.D_common_divisor.g T.D_common_divisor.kp T.D_common_divisor.b .nil pass0 (pa_cons (pv 0) pa_nil)))
      (pss_cons (ps_if (pt_cmpR op_le (pv 1) pe_int (nomark _))
      (pss_one (ps_ret (pe_callTy call_tuple_of (by rfl) T.m_tuple (by decide +kernel) (pa_cons (pv 0) pa_nil))))
      pss_nil)
      (pss_one (ps_ret (pe_callTy call_tuple_of (by rfl) T.m_tuple (by decide +kernel) (pa_cons (pe_lc (own := [("entry", 2)]) (g := (gName 2)) (tt := tYes) rfl nd (pi_tup (pv 0)) (blkOk_by (N := N_divided) (sc := defScope s_divided) (by decide +kernel)) (fun _ _ _ _ _ => (pg_name (i := 2) nd rfl (.inl rfl))) (fun _ _ _ _ _ => pts_nil) (fun _ _ _ _ _ => (pe_op op_fdivW (pv 2) (pv 1)))) pa_nil)))))), ?_⟩
    refine ⟨_, rfl, g, u, rfl, hg, ?_⟩
    refine gn (σ' := [some (.ref g), some (.int (gcdL u : Nat)), none]) rfl ?_
    refine ⟨_, rfl, _, _, rfl, rfl, _, rfl, ite2 (fun e => ?_) (fun e => ?_)⟩
    · have e1 : gcdL u = 1 := by
        have : ((gcdL u : Nat) : Int) ≤ 1 := of_decide_eq_true e
        omega
      refine ⟨_, rfl, g, _, rfl, .inr ⟨hg, q _ g (Same.refl _) (by rw [lowV_one e1]; exact hg)⟩⟩
    · refine ⟨_, rfl, g, rfl, ⟨_, hg⟩, fun D nD => ?_⟩
      refine lc_it (walk_tup (K := K) (a := g) (xs := u.map V.int)) (Acc H D fun j => V.int ((lowV u).getD j 0)) (Acc.start nD) (fun i H' _ h => Same.sqt h.1 hg) ?_ ?_
      · rintro i x H1 H2 hi ac ⟨rfl, hx⟩
        rw [List.length_map] at hi
        rw [List.getElem?_map, List.getElem?_eq_getElem hi] at hx
        cases hx
        refine ⟨rfl, ?_⟩
        dsimp only [tYes]
        refine iteT ⟨_, rfl, _, rfl, _, _, rfl, rfl, wide_div (b := 8000) (by omega) (by rw [Int.natAbs_natCast]; exact gb) (by decide) (by decide), ac.turn nD (Same.refl _) (by omega) ?_⟩
        unfold lowV
        rw [List.getD_eq_getElem?_getD, List.getElem?_map, List.getElem?_eq_getElem hi]
        rfl
      · rintro H1 ⟨s1, hD⟩
        rw [List.length_map] at hD
        have hD' : H1 D = some (.lst ((lowV u).map V.int)) := by
          rw [hD]
          congr 2
          exact range_getD (by unfold lowV; rw [List.length_map])
        exact ⟨D, _, rfl, .inl ⟨SqL.of hD', fun t nt => q _ t (s1.trans (same_new nt)) (SqT.of upd_same)⟩⟩

end
end Sp1

set_option Elab.async false
set_option linter.all false
set_option maxRecDepth 100000
set_option maxHeartbeats 8000000
namespace Pg
open PySem
def Ex.free : Ex → Bool
  | .sum _ => false
  | _ => true
/-- what a move asks for: 0 nothing, 1 any number, 2 a way -/
def Ins.need : Ins → Nat
  | .test _ _ => 2
  | .turn _ => 2
  | .set _ e => if e.free then 1 else 0
  | .bgn e => if e.free then 1 else 0
  | _ => 0
/-- where a move leads -/
def Ins.next (c : Bool) (i : Nat) : Ins → Nat
  | .go n _ => n
  | .again n => n
  | .test _ n => if c then n else i + 1
  | .turn n => if c then n else i + 1
  | _ => i + 1
theorem in_crs : ∀ t : Fin 11, L2.inV (.str (wordOf t.1)) [.str "call", .str "return", .str "stop"] = decide (8 ≤ t.1) := by decide +kernel
theorem in_tt : ∀ t : Fin 11, L2.inV (.str (wordOf t.1)) [.str "test", .str "turn"] = decide (t.1 = 3 ∨ t.1 = 6) := by decide +kernel
theorem in_sb : ∀ t : Fin 11, L2.inV (.str (wordOf t.1)) [.str "set", .str "begin"] = decide (t.1 = 0 ∨ t.1 = 5) := by decide +kernel
theorem in_ga : ∀ t : Fin 11, L2.inV (.str (wordOf t.1)) [.str "go", .str "again"] = decide (t.1 = 4 ∨ t.1 = 7) := by decide +kernel
theorem Ins.crs (y : Ins) : L2.inV (.str y.word) [.str "call", .str "return", .str "stop"] = decide (8 ≤ y.tag) := by
  rw [y.word_tag]
  exact in_crs ⟨y.tag, y.tag_lt⟩
theorem Ins.tt (y : Ins) : L2.inV (.str y.word) [.str "test", .str "turn"] = decide (y.tag = 3 ∨ y.tag = 6) := by
  rw [y.word_tag]
  exact in_tt ⟨y.tag, y.tag_lt⟩
theorem Ins.sb (y : Ins) : L2.inV (.str y.word) [.str "set", .str "begin"] = decide (y.tag = 0 ∨ y.tag = 5) := by
  rw [y.word_tag]
  exact in_sb ⟨y.tag, y.tag_lt⟩
theorem Ins.ga (y : Ins) : L2.inV (.str y.word) [.str "go", .str "again"] = decide (y.tag = 4 ∨ y.tag = 7) := by
  rw [y.word_tag]
  exact in_ga ⟨y.tag, y.tag_lt⟩
theorem pw_not : ∀ w ∈ pairWords, w ≠ "sum" := by decide +kernel
end Pg
namespace Sp1
open PySem PySem.Spec PyProof.Rows L2 Pg
section
variable {P : Program} {w : World} {K : PySem.W.Frag} {mg : Str → Option Value} {base : Heap}
/-- the head of an expression -/
theorem dp_ex {H : Hp} {v : V} {names : List Str} {e : Ex} (h : Dp K H v e.D) (ok : e.Ok names) : ∃ (a : Addr) (z : Str) (ys : List V), v = .ref a ∧ SqT K H a (.str z :: ys) ∧ (!decide (V.str z = V.str "sum")) = e.free := by
  have go : ∀ (z : Str) (r : List PyData), e.D = .tuple (.str z :: r) → ((!decide (V.str z = V.str "sum")) = e.free) → ∃ (a : Addr) (z : Str) (ys : List V), v = .ref a ∧ SqT K H a (.str z :: ys) ∧ (!decide (V.str z = V.str "sum")) = e.free := fun z r hd he => by
    rw [hd] at h
    obtain ⟨a, ys, rfl, hT, hA⟩ := dp_tup h
    cases hA with
    | cons h1 h2 =>
      cases h1
      exact ⟨a, z, _, rfl, hT, he⟩
  cases e with
  | sum s => exact go "sum" _ rfl (by rw [decide_eq_true rfl]; rfl)
  | read => exact go "read" _ rfl (by decide +kernel)
  | two x a b => exact go x _ rfl (by rw [decide_eq_false fun z => pw_not x ok.1 (V.str.inj z)]; rfl)
def sp_is_free (K : PySem.W.Frag) : Sp := fun vs H Q _ => ∃ (v : V) (names : List Str) (e : Ex), vs = [v] ∧ Dp K H v e.D ∧ e.Ok names ∧ Q (.bl e.free) H
theorem ok_is_free (T : MvF K mg) : FnOk P w K mg base CX0 1 T.f_is_free T.fd_is_free ["expression"] (sp_is_free K) := by
  refine T.D_is_free.F.ok sc_is_free (fun vs H Q E h => ?_) (fun cdv A outer s H vs Q E hr h => ?_)
  · obtain ⟨v, names, e, rfl, _⟩ := h
    rfl
  · obtain ⟨v, names, e, rfl, hd, ok, q⟩ := h
    have nd := sc_is_free.nd
    obtain ⟨a, z, ys, rfl, hT, he⟩ := dp_ex hd ok
    refine ⟨_, (pss_one (ps_ret (pe_cmpR op_ne (pe_ix (r := rIxT K) ix_tup (pv 0) pe_int (fun _ _ => rfl)) pe_str (nomark _)))), ?_⟩
    refine ⟨_, rfl, a, _, 0, _, rfl, rfl, hT, at0, ?_⟩
    refine ⟨rfl, ?_⟩
    show Q (V.bl (!decide (V.str z = V.str "sum"))) H
    rw [he]
    exact q
/-- the instruction at an address, by the moves -/
theorem mv_ins {C : Addr} {H : Hp} {x : Addr} {p : Pt} (h : MvAt K C H x p) {i : Nat} {y : IK} (hy : p.ins[i]? = some y) : ∃ (dx c : Addr) (ov nv rv cv dv : V) (ev pl : Addr) (ys zs : List V) (a : Addr), H x = some (.ins C dx (mf8 (.ref c) ov nv (.ref ev) rv cv dv (.ref pl))) ∧ SqT K H c ys ∧ atI ys (i : Int) = some (.ref a) ∧ SqT K H a (.str y.1.word :: zs) ∧ DpAll K H zs y.1.rest := by
  obtain ⟨dx, iv, ov, nv, ev, rv, cv, dv, pl, h1, ⟨c, ys, rfl, hF, hY⟩, h3, h4⟩ := h
  have hl : i < ys.length := by
    rw [dpAll_len hY, ← p.ins_len]
    exact (List.getElem?_eq_some_iff.mp hy).1
  obtain ⟨y', hy', hdp⟩ := cdv_at hY (List.getElem?_eq_getElem hl)
  rw [hy] at hy'
  cases hy'
  obtain ⟨a, zs, ea, hT, hR⟩ := dp_ins hdp
  exact ⟨dx, c, ov, nv, rv, cv, dv, ev, pl, ys, zs, a, h1, hF.sqt, by rw [← ea]; exact atI_nat (List.getElem?_eq_getElem hl), hT, hR⟩
def chV (y : Ins) : List V := if y.need = 0 then [.non] else [.int 1, .int 0]
theorem chV_way {y : Ins} (h : y.tag = 3 ∨ y.tag = 6) : chV y = [.int 1, .int 0] := by
  cases y <;> first | rfl | (simp only [Ins.tag] at h; omega)
theorem chV_no {y : Ins} (h : ¬ (y.tag = 3 ∨ y.tag = 6)) (h2 : ¬ (y.tag = 0 ∨ y.tag = 5)) : chV y = [.non] := by
  cases y <;> first | rfl | exact absurd (Or.inl rfl) h | exact absurd (Or.inr rfl) h | exact absurd (Or.inl rfl) h2 | exact absurd (Or.inr rfl) h2
theorem chV_ex {b : Bool} : (if (if b = true then (1 : Nat) else 0) = 0 then [V.non] else [V.int 1, V.int 0]) = if b = true then [V.int 1, V.int 0] else [V.non] := by
  cases b <;> rfl
def sp_mv_choices (K : PySem.W.Frag) (C : Addr) : Sp := fun vs H Q _ => ∃ (x : Addr) (p : Pt) (i : Nat) (y : IK), vs = [.ref x, .int (i : Int)] ∧ MvAt K C H x p ∧ p.Fine ∧ p.ins[i]? = some y ∧ y.1.tag < 8 ∧
  ∀ H' t, Same H H' → SqT K H' t (chV y.1) → Q (.ref t) H'
theorem ok_mv_choices (T : MvF K mg) (C : MvC K mg) : FnOk P w K mg base CX0 2 C.f_choices C.fd_choices ["self", "address"] (sp_mv_choices K C.C) := by
  refine C.F_choices.ok sc_mv_choices (fun vs H Q E h => ?_) (fun cdv A outer s H vs Q E hr h => ?_)
  · obtain ⟨x, p, i, y, rfl, _⟩ := h
    rfl
  · obtain ⟨x, p, i, y, rfl, hm, f, hy, ht, q⟩ := h
    have nd := sc_mv_choices.nd
    obtain ⟨dx, c, ov, nv, rv, cv, dv, ev, pl, ys, zs, a, hx, hc, hi, hT, hR⟩ := mv_ins hm hy
    have iok := Pt.ins_ok f y (List.mem_of_getElem? hy)
    refine ⟨_, (pss_cons (ps_set (i := 2) nd rfl (.inl rfl) (pe_ix (r := rIxT K) ix_tup (pe_fld (pv 0) rfl) (pv 1) (fun _ _ => rfl)))
      (pss_cons (ps_set (i := 3) nd rfl (.inl rfl) (pe_ix (r := rIxT K) ix_tup (pv 2) pe_int (fun _ _ => rfl)))
      (pss_cons (ps_if (pt_cmpR op_in_seq (pv 3) (pe_tup (pa_cons pe_str (pa_cons pe_str (pa_cons pe_str pa_nil)))) (by with_unfolding_all rfl))
      (pss_one (ps_ret (pe_tup pa_nil)))
      pss_nil)
      (pss_cons (ps_if (pt_cmpR op_in_seq (pv 3) (pe_tup (pa_cons pe_str (pa_cons pe_str pa_nil))) (by with_unfolding_all rfl))
      (pss_one (ps_ret (pe_tup (pa_cons pe_int (pa_cons pe_int pa_nil)))))
      pss_nil)
      (pss_cons (ps_if (PW.pt (pw_and (pt_cmpR op_in_seq (pv 3) (pe_tup (pa_cons pe_str (pa_cons pe_str pa_nil))) (by with_unfolding_all rfl)) (pw_and1 (pt_val (pe_call ((ok_is_free T).mono (by decide)) hr (by rfl) T.D_is_free.g T.D_is_free.kp T.D_is_free.b .nil pass0 (pa_cons (pe_ix (r := rIxT K) ix_tup (pv 2) (pe_un un_neg pe_int) (fun _ _ => rfl)) pa_nil))))))
      (pss_one (ps_ret (pe_tup (pa_cons pe_int (pa_cons pe_int pa_nil)))))
      pss_nil)
      (pss_one (ps_ret (pe_tup (pa_cons pe_non pa_nil))))))))), ?_⟩
    refine ⟨_, rfl, x, C.C, dx, _, _, rfl, hx, C.cl, C.n_instructions, mf8_ins, _, rfl, c, ys, _, _, rfl, rfl, hc, hi, ?_⟩
    refine gn (σ' := [some (.ref x), some (.int (i : Int)), some (.ref a), none]) rfl ?_
    refine ⟨_, rfl, a, _, 0, _, rfl, rfl, hT, at0, ?_⟩
    refine gn (σ' := [some (.ref x), some (.int (i : Int)), some (.ref a), some (.str y.1.word)]) rfl ?_
    refine ⟨_, rfl, small (by show 3 ≤ 5000; decide), fun t1 n1 => ?_⟩
    have s1 := same_new (o := HO.tup [.str "call", .str "return", .str "stop"]) n1
    have h1 : (upd H t1 (HO.tup [.str "call", .str "return", .str "stop"])) t1 = some (HO.tup [.str "call", .str "return", .str "stop"]) := upd_same
    generalize upd H t1 (HO.tup [.str "call", .str "return", .str "stop"]) = H1 at s1 h1 ⊢
    refine ⟨t1, _, rfl, .inr (SqT.of h1), rfl, rfl, ?_⟩
    refine ⟨_, rfl, ite2 (fun e => ?_) (fun _ => ?_)⟩
    · have e : L2.inV (.str y.1.word) [.str "call", .str "return", .str "stop"] = true := e
      rw [y.1.crs] at e
      have := of_decide_eq_true e
      omega
    refine tNextI ?_
    refine ⟨_, rfl, small (by show 2 ≤ 5000; decide), fun t2 n2 => ?_⟩
    have s2 := same_new (o := HO.tup [.str "test", .str "turn"]) n2
    have h2 : (upd H1 t2 (HO.tup [.str "test", .str "turn"])) t2 = some (HO.tup [.str "test", .str "turn"]) := upd_same
    generalize upd H1 t2 (HO.tup [.str "test", .str "turn"]) = H2 at s2 h2 ⊢
    refine ⟨t2, _, rfl, .inr (SqT.of h2), rfl, rfl, ?_⟩
    refine ⟨_, rfl, ite2 (fun e => ?_) (fun e => ?_)⟩
    · have e : L2.inV (.str y.1.word) [.str "test", .str "turn"] = true := e
      rw [y.1.tt] at e
      have e := of_decide_eq_true e
      have hch := chV_way e
      refine ⟨small (by show 2 ≤ 5000; decide), fun t3 n3 => q _ t3 (s1.trans (s2.trans (same_new n3))) (by rw [hch]; exact SqT.of upd_same)⟩
    replace e : ¬ (y.1.tag = 3 ∨ y.1.tag = 6) := fun z => e (by
      show L2.inV (.str y.1.word) [.str "test", .str "turn"] = true
      rw [y.1.tt]
      exact decide_eq_true z)
    refine tNextI ?_
    refine ⟨_, rfl, small (by show 2 ≤ 5000; decide), fun t3 n3 => ?_⟩
    have s3 := same_new (o := HO.tup [.str "set", .str "begin"]) n3
    have h3 : (upd H2 t3 (HO.tup [.str "set", .str "begin"])) t3 = some (HO.tup [.str "set", .str "begin"]) := upd_same
    generalize upd H2 t3 (HO.tup [.str "set", .str "begin"]) = H3 at s3 h3 ⊢
    have s03 := s1.trans (s2.trans s3)
    refine ⟨t3, _, rfl, .inr (SqT.of h3), rfl, rfl, ?_⟩
    refine ⟨_, rfl, ite2 (fun e2 => ?_) (fun e2 => ?_)⟩
    · have e2 : L2.inV (.str y.1.word) [.str "set", .str "begin"] = true := e2
      rw [y.1.sb] at e2
      have e2 := of_decide_eq_true e2
      obtain ⟨ex, v, hv, hdx, okx, hch⟩ : ∃ (ex : Ex) (v : V), atI (.str y.1.word :: zs) (-1) = some v ∧ Dp K H3 v ex.D ∧ ex.Ok p.names ∧ chV y.1 = if ex.free then [.int 1, .int 0] else [.non] := by
        obtain ⟨y1, k⟩ := y
        cases y1 with
        | set n e' =>
          cases hR with
          | cons r1 r2 =>
          cases r2 with
          | cons r2 r3 =>
          cases r3
          refine ⟨e', _, atI_last [_, _] _, dp_keep (Same.tk s03) r2 (Ex.tup f.N iok.2), iok.2, ?_⟩
          exact chV_ex
        | bgn e' =>
          cases hR with
          | cons r1 r2 =>
          cases r2
          refine ⟨e', _, atI_last [_] _, dp_keep (Same.tk s03) r1 (Ex.tup f.N iok), iok, ?_⟩
          exact chV_ex
        | _ =>
          simp only [Ins.tag] at e2
          omega
      refine ⟨_, rfl, _, rfl, a, _, _, v, rfl, rfl, Same.sqt s03 hT, hv, ?_⟩
      dsimp only [tNil]
      refine ⟨v, p.names, ex, rfl, hdx, okx, ?_⟩
      refine ⟨_, rfl, ite2 (fun e3 => ?_) (fun e3 => ?_)⟩
      · rw [if_pos e3] at hch
        refine ⟨small (by show 2 ≤ 5000; decide), fun t4 n4 => q _ t4 (s03.trans (same_new n4)) (by rw [hch]; exact SqT.of upd_same)⟩
      · rw [if_neg e3] at hch
        refine tNextI ?_
        refine ⟨small (by show 1 ≤ 5000; decide), fun t4 n4 => q _ t4 (s03.trans (same_new n4)) (by rw [hch]; exact SqT.of upd_same)⟩
    · replace e2 : ¬ (y.1.tag = 0 ∨ y.1.tag = 5) := fun z => e2 (by
        show L2.inV (.str y.1.word) [.str "set", .str "begin"] = true
        rw [y.1.sb]
        exact decide_eq_true z)
      have hch := chV_no e e2
      refine iteF ?_
      refine tNextI ?_
      refine ⟨small (by show 1 ≤ 5000; decide), fun t4 n4 => q _ t4 (s03.trans (same_new n4)) (by rw [hch]; exact SqT.of upd_same)⟩
def sp_mv_target (K : PySem.W.Frag) (C : Addr) : Sp := fun vs H Q _ => ∃ (x : Addr) (p : Pt) (i : Nat) (y : IK) (c : V) (b : Bool), vs = [.ref x, .int (i : Int), c] ∧ MvAt K C H x p ∧ p.Fine ∧ p.ins[i]? = some y ∧ (y.1.need = 2 → scal c (.int 0) = true ∧ decide (c = .int 0) = b) ∧
  ∀ H', Same H H' → Q (.int (y.1.next b i : Nat)) H'
theorem need_way {y : Ins} : y.tag = 3 ∨ y.tag = 6 → y.need = 2 := by
  intro h
  cases y <;> first | rfl | (simp only [Ins.tag] at h; omega)
theorem ok_mv_target (T : MvF K mg) (C : MvC K mg) : FnOk P w K mg base CX0 2 C.f_target C.fd_target ["self", "address", "choice"] (sp_mv_target K C.C) := by
  refine C.F_target.ok sc_mv_target (fun vs H Q E h => ?_) (fun cdv A outer s H vs Q E hr h => ?_)
  · obtain ⟨x, p, i, y, c, b, rfl, _⟩ := h
    rfl
  · obtain ⟨x, p, i, y, ch, b, rfl, hm, f, hy, hb, q⟩ := h
    have nd := sc_mv_target.nd
    obtain ⟨dx, c, ov, nv, rv, cv, dv, ev, pl, ys, zs, a, hx, hc, hi, hT, hR⟩ := mv_ins hm hy
    refine ⟨_, (pss_cons (ps_set (i := 3) nd rfl (.inl rfl) (pe_ix (r := rIxT K) ix_tup (pe_fld (pv 0) rfl) (pv 1) (fun _ _ => rfl)))
      (pss_cons (ps_set (i := 4) nd rfl (.inl rfl) (pe_ix (r := rIxT K) ix_tup (pv 3) pe_int (fun _ _ => rfl)))
      (pss_cons (ps_if (pt_cmpR op_in_seq (pv 4) (pe_tup (pa_cons pe_str (pa_cons pe_str pa_nil))) (by with_unfolding_all rfl))
      (pss_one (ps_ret (pe_ix (r := rIxT K) ix_tup (pv 3) pe_int (fun _ _ => rfl))))
      pss_nil)
      (pss_cons (ps_if (PW.pt (pw_and (pt_cmpR op_in_seq (pv 4) (pe_tup (pa_cons pe_str (pa_cons pe_str pa_nil))) (by with_unfolding_all rfl)) (pw_and1 (pt_cmpR op_eq (pv 2) pe_int (nomark _)))))
      (pss_one (ps_ret (pe_ix (r := rIxT K) ix_tup (pv 3) (pe_un un_neg pe_int) (fun _ _ => rfl))))
      pss_nil)
      (pss_one (ps_ret (pe_op op_add (pv 1) pe_int))))))), ?_⟩
    refine ⟨_, rfl, x, C.C, dx, _, _, rfl, hx, C.cl, C.n_instructions, mf8_ins, _, rfl, c, ys, _, _, rfl, rfl, hc, hi, ?_⟩
    refine gn (σ' := [some (.ref x), some (.int (i : Int)), some ch, some (.ref a), none]) rfl ?_
    refine ⟨_, rfl, a, _, 0, _, rfl, rfl, hT, at0, ?_⟩
    refine gn (σ' := [some (.ref x), some (.int (i : Int)), some ch, some (.ref a), some (.str y.1.word)]) rfl ?_
    refine ⟨_, rfl, small (by show 2 ≤ 5000; decide), fun t1 n1 => ?_⟩
    have s1 := same_new (o := HO.tup [.str "go", .str "again"]) n1
    have h1 : (upd H t1 (HO.tup [.str "go", .str "again"])) t1 = some (HO.tup [.str "go", .str "again"]) := upd_same
    generalize upd H t1 (HO.tup [.str "go", .str "again"]) = H1 at s1 h1 ⊢
    refine ⟨t1, _, rfl, .inr (SqT.of h1), rfl, rfl, ?_⟩
    obtain ⟨y1, k⟩ := y
    refine ⟨_, rfl, ite2 (fun e => ?_) (fun e => ?_)⟩
    · have e : L2.inV (.str y1.word) [.str "go", .str "again"] = true := e
      rw [y1.ga] at e
      have e := of_decide_eq_true e
      have : ∃ n rs, zs = .int ((y1.next b i : Nat) : Int) :: rs ∧ n = 0 := by
        cases y1 with
        | go n w =>
          cases hR with
          | cons r1 r2 =>
          cases r1
          exact ⟨0, _, rfl, rfl⟩
        | again n =>
          cases hR with
          | cons r1 r2 =>
          cases r1
          exact ⟨0, _, rfl, rfl⟩
        | _ =>
          simp only [Ins.tag] at e
          omega
      obtain ⟨_, rs, rfl, _⟩ := this
      exact ⟨_, rfl, a, _, 1, _, rfl, rfl, Same.sqt s1 hT, at1, q _ s1⟩
    have e : ¬ (y1.tag = 4 ∨ y1.tag = 7) := fun z => e (by
      show L2.inV (.str y1.word) [.str "go", .str "again"] = true
      rw [y1.ga]
      exact decide_eq_true z)
    refine tNextI ?_
    refine ⟨_, rfl, small (by show 2 ≤ 5000; decide), fun t2 n2 => ?_⟩
    have s2 := same_new (o := HO.tup [.str "test", .str "turn"]) n2
    have h2 : (upd H1 t2 (HO.tup [.str "test", .str "turn"])) t2 = some (HO.tup [.str "test", .str "turn"]) := upd_same
    generalize upd H1 t2 (HO.tup [.str "test", .str "turn"]) = H2 at s2 h2 ⊢
    have s02 := s1.trans s2
    refine ⟨t2, _, rfl, .inr (SqT.of h2), rfl, rfl, ?_⟩
    refine ⟨_, rfl, ite2 (fun e2 => ?_) (fun e2 => ?_)⟩
    · have e2 : L2.inV (.str y1.word) [.str "test", .str "turn"] = true := e2
      rw [y1.tt] at e2
      have e2 := of_decide_eq_true e2
      obtain ⟨hs, hbc⟩ := hb (need_way e2)
      refine ⟨_, rfl, hs, ?_⟩
      rw [hbc]
      have hb2 : ∃ n, atI (.str y1.word :: zs) (-1) = some (.int ((n : Nat) : Int)) ∧ y1.next b i = if b then n else i + 1 := by
        cases y1 with
        | test e' n =>
          cases hR with
          | cons r1 r2 =>
          cases r2 with
          | cons r2 r3 =>
          cases r2
          cases r3
          exact ⟨n, atI_last [_, _] _, rfl⟩
        | turn n =>
          cases hR with
          | cons r1 r2 =>
          cases r1
          cases r2
          exact ⟨n, atI_last [_] _, rfl⟩
        | _ =>
          simp only [Ins.tag] at e2
          omega
      obtain ⟨n, hn, hnx⟩ := hb2
      refine ⟨_, rfl, ite2 (fun e3 => ?_) (fun e3 => ?_)⟩
      · rw [if_pos e3] at hnx
        rw [hnx] at q
        exact ⟨_, rfl, _, rfl, a, _, _, _, rfl, rfl, Same.sqt s02 hT, hn, q _ s02⟩
      · rw [if_neg e3] at hnx
        rw [hnx] at q
        refine tNextI ?_
        exact ⟨_, rfl, _, _, rfl, rfl, q _ s02⟩
    · replace e2 : ¬ (y1.tag = 3 ∨ y1.tag = 6) := fun z => e2 (by
        show L2.inV (.str y1.word) [.str "test", .str "turn"] = true
        rw [y1.tt]
        exact decide_eq_true z)
      have hnx : y1.next b i = i + 1 := by
        cases y1 <;> first | rfl | exact absurd (Or.inl rfl) e | exact absurd (Or.inr rfl) e | exact absurd (Or.inl rfl) e2 | exact absurd (Or.inr rfl) e2
      rw [hnx] at q
      refine iteF ?_
      refine tNextI ?_
      exact ⟨_, rfl, _, _, rfl, rfl, q _ s02⟩
end
end Sp1

set_option Elab.async false
set_option linter.all false
set_option maxRecDepth 100000
set_option maxHeartbeats 8000000
namespace Pg
open PySem
def lastV (u : List Int) : Int := u.getD (u.length - 1) 0
def atV (names : List Str) (u : List Int) (x : Str) : Int := u.getD (names.idxOf x) 0
def smVal (names : List Str) (u : List Int) (s : Sm) : Int := s.ts.foldl (fun a t => a + t.1 * atV names u t.2) (s.c * lastV u)
/-- the value of an expression times m times its divisor, and its divisor -/
def Ex.val (names : List Str) (u : List Int) (k : Int) : Ex → Int × Int
  | .sum s => (smVal names u s, s.d)
  | _ => (k * lastV u, 1)
end Pg
namespace Sp1
open PySem PySem.Spec PyProof.Rows L2 Pg
theorem cut_last {u : List Int} (h : 1 ≤ u.length) : cutV (u.map V.int) (some (-1)) none = [V.int (lastV u)] := by
  unfold cutV HT.sIx
  rw [List.length_map]
  have e : ((-1 : Int) + (u.length : Int)).toNat = u.length - 1 := by omega
  simp only [show ((-1 : Int) < 0) = True from by simp, if_true, e]
  rw [show u.length - (u.length - 1) = 1 by omega]
  unfold lastV
  have hl : u.length - 1 < (u.map V.int).length := by rw [List.length_map]; omega
  rw [List.drop_eq_getElem_cons hl, List.take_succ_cons, List.take_zero, List.getElem_map]
  rw [List.getD_eq_getElem?_getD, List.getElem?_eq_getElem (by omega)]
  rfl
theorem not_last {u : List Int} (h : 2 ≤ u.length) : ¬ (HT.sIx (u.map V.int).length 0 (some (-1)) = 0 ∧ HT.sIx (u.map V.int).length (u.map V.int).length none = (u.map V.int).length) := by
  rw [List.length_map]
  intro ⟨z, _⟩
  unfold HT.sIx at z
  simp only [show ((-1 : Int) < 0) = True from by simp, if_true] at z
  omega
theorem cut_one {u : List Int} {i : Nat} (h : i < u.length) : cutV (u.map V.int) (some (i : Int)) (some ((i : Int) + 1)) = [V.int (u.getD i 0)] := by
  unfold cutV HT.sIx
  rw [List.length_map]
  have e0 : ¬ ((i : Int) < 0) := by omega
  have e1 : ¬ ((i : Int) + 1 < 0) := by omega
  simp only [e0, e1, if_false]
  rw [show min ((i : Int)).toNat u.length = i by omega, show min ((i : Int) + 1).toNat u.length = i + 1 by omega, show i + 1 - i = 1 by omega]
  have hl : i < (u.map V.int).length := by rw [List.length_map]; omega
  rw [List.drop_eq_getElem_cons hl, List.take_succ_cons, List.take_zero, List.getElem_map]
  rw [List.getD_eq_getElem?_getD, List.getElem?_eq_getElem h]
  rfl
theorem not_one {u : List Int} {i : Nat} (h : 2 ≤ u.length) (hi : i < u.length) : ¬ (HT.sIx (u.map V.int).length 0 (some (i : Int)) = 0 ∧ HT.sIx (u.map V.int).length (u.map V.int).length (some ((i : Int) + 1)) = (u.map V.int).length) := by
  rw [List.length_map]
  intro ⟨z, z2⟩
  unfold HT.sIx at z z2
  have e0 : ¬ ((i : Int) < 0) := by omega
  have e1 : ¬ ((i : Int) + 1 < 0) := by omega
  simp only [e0, if_false] at z
  simp only [e1, if_false] at z2
  omega
theorem plD_val : ∀ {names : List Str} {x : Str} (n : Nat), x ∈ names → valV ((names.zipIdx n).map fun e => (Sum.inr e.1, V.int (e.2 : Int))) (Sum.inr x : Key) = some (.int ((names.idxOf x + n : Nat) : Int))
  | [], x, n, h => by cases h
  | y :: r, x, n, h => by
    rw [List.zipIdx_cons, List.map_cons]
    unfold valV
    rw [List.find?_cons, List.idxOf_cons]
    by_cases e : y = x
    · subst e
      simp
    · have hx : x ∈ r := by
        rcases List.mem_cons.mp h with h | h
        · exact absurd h.symm e
        · exact h
      have ih := plD_val (n + 1) hx
      unfold valV at ih
      have e2 : decide ((Sum.inr y : Key) = Sum.inr x) = false := decide_eq_false fun z => e (Sum.inr.inj z)
      have e3 : (y == x) = false := beq_eq_false_iff_ne.mpr e
      simp only [e2, e3, cond_false]
      rw [ih]
      congr 2
      omega
theorem place_val {names : List Str} {x : Str} (h : x ∈ names) : valV (plD names) (Sum.inr x : Key) = some (.int ((names.idxOf x : Nat) : Int)) := plD_val 0 h
section
variable {P : Program} {w : World} {K : PySem.W.Frag} {mg : Str → Option Value} {base : Heap}
/-- a sum, opened -/
theorem dp_sm {H : Hp} {v : V} {s : Sm} (h : Dp K H v s.D) : ∃ (a t : Addr) (ts : List V), v = .ref a ∧ SqT K H a [.str "sum", .int s.c, .ref t, .int s.d] ∧ SqT K H t ts ∧ DpAll K H ts (s.ts.map tD) := by
  obtain ⟨a, ys, rfl, hT, hA⟩ := dp_tup (show Dp K H v (.tuple [.str "sum", .int s.c, .tuple (s.ts.map tD), .int s.d]) from h)
  cases hA with
  | cons r1 r2 =>
  cases r1
  cases r2 with
  | cons r2 r3 =>
  cases r2
  cases r3 with
  | cons r3 r4 =>
  cases r4 with
  | cons r4 r5 =>
  cases r4
  cases r5
  obtain ⟨t, ts, rfl, hT2, hA2⟩ := dp_tup r3
  exact ⟨a, t, ts, rfl, hT, hT2, hA2⟩
def cmL {i j : Int} (h : i.natAbs ≤ 10 ^ 12) : CMul i j := .inl (by omega)
def sp_mv_value (K : PySem.W.Frag) (C : Addr) : Sp := fun vs H Q _ => ∃ (x r : Addr) (p : Pt) (v ch : V) (e : Ex) (u : List Int) (k : Int), vs = [.ref x, v, .ref r, .int 1, ch] ∧ MvAt K C H x p ∧ p.Fine ∧ Dp K H v e.D ∧ e.Ok p.names ∧ e.Lo ∧ SqT K H r (u.map V.int) ∧ u.length = p.names.length + 1 ∧
  (e.free = true → ch = .int k ∧ CMul k (lastV u)) ∧ ∀ H' t l, Same H H' → SqT K H' t [.ref l, .int (e.val p.names u k).2] → H' l = some (.lst [.int (e.val p.names u k).1]) → Q (.ref t) H'
theorem ok_mv_value (T : MvF K mg) (C : MvC K mg) : FnOk P w K mg base CX0 2 C.f_value_entries C.fd_value_entries ["self", "expression", "rows", "columns", "choice"] (sp_mv_value K C.C) := by
  refine C.F_value_entries.ok sc_mv_value_entries (fun vs H Q E h => ?_) (fun cdv A outer s H vs Q E hr h => ?_)
  · obtain ⟨x, r, p, v, ch, e, u, k, rfl, _⟩ := h
    rfl
  · obtain ⟨x, r, p, v, ch, e, u, k, rfl, hm, f, hd, ok, lo, hu, ul, hk, q⟩ := h
    have nd := sc_mv_value_entries.nd
    have l1 : 1 ≤ p.names.length := by
      have := f.l1
      show 1 ≤ (p.given ++ p.vars).length
      rw [List.length_append]
      omega
    have u2 : 2 ≤ u.length := by omega
    obtain ⟨dx, iv, ov, nv, ev, rv, cv, dv, pl, hx, hI, hev, hpl⟩ := id hm
    refine ⟨_, (pss_cons (ps_set (i := 5) nd rfl (.inl rfl) (pe_slice sl_tupA (pv 2) (po_some (pe_un un_neg (pv 3))) po_none))
      (pss_cons (ps_if (pt_val (pe_call ((ok_is_free T).mono (by decide)) hr (by rfl) T.D_is_free.g T.D_is_free.kp T.D_is_free.b .nil pass0 (pa_cons (pv 1) pa_nil)))
      (pss_one (ps_ret (pe_tup (pa_cons (pe_lc (own := [("entry", 15)]) (g := (gName 15)) (tt := tYes) rfl nd (pi_tup (pv 5)) (blkOk_by (N := N_mv_value_entries) (sc := defScope s_mv_value_entries) (by decide +kernel)) (fun _ _ _ _ _ => (pg_name (i := 15) nd rfl (.inl rfl))) (fun _ _ _ _ _ => pts_nil) (fun _ _ _ _ _ => (pe_op op_mul (pv 4) (pv 15)))) (pa_cons pe_int pa_nil)))))
      pss_nil)
      (pss_cons (ps_asg (pv 1) (pg_tup rfl (pgs_cons (pg_name (i := 6) nd rfl (.inl rfl)) (pgs_cons (pg_name (i := 7) nd rfl (.inr rfl)) (pgs_cons (pg_name (i := 8) nd rfl (.inl rfl)) (pgs_cons (pg_name (i := 9) nd rfl (.inl rfl)) pgs_nil))))))
      (pss_cons (ps_setLc (i := 10) (own := [("entry", 15)]) (g := (gName 15)) (tt := tYes) rfl nd rfl rfl (sw_true rfl rfl rfl (by decide +kernel)) (pi_tup (pv 5)) (blkOk_by (N := N_mv_value_entries) (sc := defScope s_mv_value_entries) (by decide +kernel)) (fun _ _ _ _ _ => (pg_name (i := 15) nd rfl (.inl rfl))) (fun _ _ _ _ _ => pts_nil) (fun _ _ _ _ _ => (pe_op op_mul (pv 7) (pv 15))))
      (pss_cons (ps_for PassesOwn.never rfl (pi_tup (pv 8)) (pg_tup rfl (pgs_cons (pg_name (i := 11) nd rfl (.inr rfl)) (pgs_cons (pg_name (i := 12) nd rfl (.inl rfl)) pgs_nil)))
      (pss_cons (ps_set (i := 13) nd rfl (.inl rfl) (pe_op op_mul (pe_dget (hu_of hr) (pe_fld (pv 0) rfl) (pv 12) (fun _ _ => rfl)) (pv 3)))
        (pss_cons (ps_set (i := 14) nd rfl (.inl rfl) (pe_slice sl_tupA (pv 2) (po_some (pv 13)) (po_some (pe_op op_add (pv 13) (pv 3)))))
        (pss_one (ps_setLc (i := 10) (own := [("entry", 15), ("other", 16)]) (g := (gTup K 2 (gCons (gName 15) (gCons (gName 16) gNil)))) (tt := tYes) rfl nd rfl rfl (sw_true rfl rfl rfl (by decide +kernel)) (pi_zipM (by rfl) T.m_zip (pa_cons (pv 10) (pa_cons (pv 14) pa_nil))) (blkOk_by (N := N_mv_value_entries) (sc := defScope s_mv_value_entries) (by decide +kernel)) (fun _ _ _ _ _ => (pg_tup rfl (pgs_cons (pg_name (i := 15) nd rfl (.inl rfl)) (pgs_cons (pg_name (i := 16) nd rfl (.inl rfl)) pgs_nil)))) (fun _ _ _ _ _ => pts_nil) (fun _ _ _ _ _ => (pe_op op_add (pv 15) (pe_op op_mul (pv 11) (pv 16)))))))))
      (pss_one (ps_ret (pe_tup (pa_cons (pv 10) (pa_cons (pv 9) pa_nil)))))))))), ?_⟩
    refine ⟨_, rfl, _, rfl, _, rfl, _, rfl, ?_⟩
    dsimp only [tNoPart]
    refine ⟨r, _, rfl, hu, fun z => absurd z (not_last u2), fun _ t1 n1 => ?_⟩
    rw [cut_last (by omega)]
    have s1 := same_new (o := HO.tup [V.int (lastV u)]) n1
    have h1 : (upd H t1 (HO.tup [V.int (lastV u)])) t1 = some (HO.tup [V.int (lastV u)]) := upd_same
    generalize upd H t1 (HO.tup [V.int (lastV u)]) = H1 at s1 h1 ⊢
    refine gn (σ' := [some (.ref x), some v, some (.ref r), some (.int 1), some ch, some (.ref t1), none, none, none, none, none, none, none, none, none, none, none]) rfl ?_
    have hd1 := dp_keep (Same.tk s1) hd (Ex.tup f.N ok)
    refine ⟨_, rfl, v, p.names, e, rfl, hd1, ok, ?_⟩
    refine ⟨_, rfl, ite2 (fun e1 => ?_) (fun e1 => ?_)⟩
    · obtain ⟨rfl, hcm⟩ := hk e1
      have hval : e.val p.names u k = (k * lastV u, 1) := by
        cases e with
        | sum s => cases e1
        | _ => rfl
      rw [hval] at q
      refine ⟨_, rfl, t1, rfl, ⟨_, SqT.of h1⟩, fun D nD => ?_⟩
      refine lc_it (walk_tup (K := K) (a := t1) (xs := [V.int (lastV u)])) (Acc H1 D fun _ => V.int (k * lastV u)) (Acc.start nD) (fun i H' _ h => Same.sqt h.1 (SqT.of h1)) ?_ ?_
      · rintro i x' H2 H3 hi ac ⟨rfl, hx'⟩
        have i0 : i = 0 := by
          have : i < 1 := hi
          omega
        subst i0
        cases hx'
        refine ⟨rfl, ?_⟩
        dsimp only [tYes]
        exact iteT ⟨_, rfl, _, rfl, _, _, rfl, rfl, hcm, ac.turn nD (Same.refl _) (by omega) rfl⟩
      · rintro H2 ⟨s2, hD⟩
        refine ⟨small (by show 2 ≤ 5000; decide), fun t2 n2 => q _ t2 D ((s1.trans s2).trans (same_new n2)) (SqT.of upd_same) (same_new n2 _ _ hD)⟩
    · cases e with
      | sum s =>
        obtain ⟨a, tt, ts, rfl, hT, hT2, hA2⟩ := dp_sm hd1
        obtain ⟨lc, ld, lt⟩ := lo
        have ta : tupAll (s.ts.map tD) = true := tupAll_iff.mpr fun d hd => by
          obtain ⟨t, ht, rfl⟩ := List.mem_map.mp hd
          exact tD_tup (f.N _ (ok.nz t ht).2).tup
        have tl := dpAll_len hA2
        rw [List.length_map] at tl
        refine tNextI ?_
        refine ⟨_, rfl, a, _, rfl, hT, rfl, _, _, rfl, _, _, rfl, _, _, rfl, _, _, rfl, rfl, ?_⟩
        dsimp only [List.set]
        refine ⟨_, rfl, t1, rfl, ⟨_, SqT.of h1⟩, fun D nD => ?_⟩
        refine lc_it (walk_tup (K := K) (a := t1) (xs := [V.int (lastV u)])) (Acc H1 D fun _ => V.int (s.c * lastV u)) (Acc.start nD) (fun i H' _ h => Same.sqt h.1 (SqT.of h1)) ?_ ?_
        · rintro i x' H2 H3 hi ac ⟨rfl, hx'⟩
          have i0 : i = 0 := by
            have : i < 1 := hi
            omega
          subst i0
          cases hx'
          refine ⟨rfl, ?_⟩
          dsimp only [tYes]
          exact iteT ⟨_, rfl, _, rfl, _, _, rfl, rfl, cmL lc, ac.turn nD (Same.refl _) (by omega) rfl⟩
        · rintro H2 ⟨s2, hD⟩
          refine gn (σ' := [some (.ref x), some (.ref a), some (.ref r), some (.int 1), some ch, some (.ref t1), some (.str "sum"), some (.int s.c), some (.ref tt), some (.int s.d), some (.ref D), none, none, none, none, none, none]) rfl ?_
          have s02 := s1.trans s2
          refine ⟨_, rfl, tt, rfl, ⟨_, Same.sqt s2 hT2⟩, for_it (walk_tup (K := K) (a := tt) (xs := ts)) (fun i σ H' => Same H H' ∧ ∃ (D : Addr) (y1 y2 y3 y4 : Option V), H' D = some (.lst [.int ((s.ts.take i).foldl (fun a t => a + t.1 * atV p.names u t.2) (s.c * lastV u))]) ∧ SqT K H' tt ts ∧ DpAll K H' ts (s.ts.map tD) ∧
              σ = [some (.ref x), some (.ref a), some (.ref r), some (.int 1), some ch, some (.ref t1), some (.str "sum"), some (.int s.c), some (.ref tt), some (.int s.d), some (.ref D), y1, y2, y3, y4, none, none])
            ⟨s02, D, none, none, none, none, hD, Same.sqt s2 hT2, ?_, rfl⟩ (fun i σ H' _ h => by obtain ⟨_, _, _, _, _, _, _, h, _⟩ := h; exact h) ?_ ?_⟩
          · exact dpAll_keep (Same.tk s2) hA2 ta
          · rintro i v σ H3 H4 hi ⟨s3, D, y1, y2, y3, y4, hD3, hT3, hA3, rfl⟩ ⟨rfl, hv⟩
            obtain ⟨d', hd', hdp⟩ := dpAll_at hA3 hv
            rw [List.getElem?_map] at hd'
            obtain ⟨t, ht, rfl⟩ := Option.map_eq_some_iff.mp hd'
            have htm := List.mem_of_getElem? ht
            have hin := (ok.nz t htm).2
            have hlt := lt t htm
            have hix : p.names.idxOf t.2 < u.length := by
              have := List.idxOf_lt_length_of_mem hin
              omega
            obtain ⟨b, rfl, hb⟩ := dp_tD hdp
            refine ⟨b, _, rfl, hb, rfl, _, _, rfl, _, _, rfl, rfl, ?_⟩
            dsimp only [List.set]
            refine ⟨_, rfl, x, C.C, dx, _, _, rfl, s3 _ _ hx, C.cl, C.n__places, mf8_pla, _, rfl, pl, .int ((p.names.idxOf t.2 : Nat) : Int), rfl, .inl ⟨_, Sum.inr t.2, .inl (s3 _ _ hpl), rfl, (place_val hin).symm⟩, _, rfl, _, _, rfl, rfl, .inr (by decide), ?_⟩
            refine gn (σ' := [some (.ref x), some (.ref a), some (.ref r), some (.int 1), some ch, some (.ref t1), some (.str "sum"), some (.int s.c), some (.ref tt), some (.int s.d), some (.ref D), some (.int t.1), some (.str t.2), some (.int ((p.names.idxOf t.2 : Nat) : Int)), y4, none, none]) (by rw [show (fun i j : Int => V.int (i * j)) ((p.names.idxOf t.2 : Nat) : Int) 1 = V.int ((p.names.idxOf t.2 : Nat) : Int) by show V.int (_ * 1) = _; rw [Int.mul_one]]; rfl) ?_
            refine ⟨_, rfl, _, rfl, _, rfl, _, rfl, _, rfl, _, _, rfl, rfl, _, rfl, ?_⟩
            refine ⟨r, _, rfl, Same.sqt s3 hu, fun z => absurd z (not_one u2 hix), fun _ t3 n3 => ?_⟩
            rw [cut_one hix]
            have s4 := same_new (o := HO.tup [V.int (u.getD (p.names.idxOf t.2) 0)]) n3
            have h4 : (upd H4 t3 (HO.tup [V.int (u.getD (p.names.idxOf t.2) 0)])) t3 = some (HO.tup [V.int (u.getD (p.names.idxOf t.2) 0)]) := upd_same
            generalize upd H4 t3 (HO.tup [V.int (u.getD (p.names.idxOf t.2) 0)]) = H5 at s4 h4 ⊢
            refine gn (σ' := [some (.ref x), some (.ref a), some (.ref r), some (.int 1), some ch, some (.ref t1), some (.str "sum"), some (.int s.c), some (.ref tt), some (.int s.d), some (.ref D), some (.int t.1), some (.str t.2), some (.int ((p.names.idxOf t.2 : Nat) : Int)), some (.ref t3), none, none]) rfl ?_
            refine ⟨_, rfl, _, rfl, D, t3, _, _, rfl, SqL.of (s4 _ _ hD3), SqT.of h4, fun D2 nD2 => ?_⟩
            have hD5 := s4 _ _ hD3
            refine lc_it (walk_zipM (K := K) (a := D) (b := t3) (xs := [V.int ((s.ts.take i).foldl (fun a t => a + t.1 * atV p.names u t.2) (s.c * lastV u))]) (ys := [V.int (u.getD (p.names.idxOf t.2) 0)]) rfl) (Acc H5 D2 fun _ => V.int ((s.ts.take i).foldl (fun a t => a + t.1 * atV p.names u t.2) (s.c * lastV u) + t.1 * atV p.names u t.2)) (Acc.start nD2) (fun i H' _ h => ⟨SqL.of (h.1 _ _ hD5), Same.sqt h.1 (SqT.of h4)⟩) ?_ ?_
            · rintro i' x' H6 H7 hi' ac ⟨T1, z1, z2, rfl, nT, rfl, g1, g2⟩
              have i0 : i' = 0 := by
                have : i' < 1 := hi'
                omega
              subst i0
              cases g1
              cases g2
              refine ⟨T1, _, rfl, SqT.of upd_same, rfl, _, _, rfl, _, _, rfl, rfl, rfl, ?_⟩
              dsimp only [tYes]
              exact iteT ⟨_, rfl, _, rfl, _, rfl, _, _, rfl, rfl, cmL (Nat.le_trans hlt (by decide)), _, _, rfl, rfl, ac.turn nD2 (same_new nT) (by omega) rfl⟩
            · rintro H6 ⟨s6, hD6⟩
              refine gn (σ' := [some (.ref x), some (.ref a), some (.ref r), some (.int 1), some ch, some (.ref t1), some (.str "sum"), some (.int s.c), some (.ref tt), some (.int s.d), some (.ref D2), some (.int t.1), some (.str t.2), some (.int ((p.names.idxOf t.2 : Nat) : Int)), some (.ref t3), none, none]) rfl ?_
              refine ⟨s3.trans (s4.trans s6), D2, _, _, _, _, ?_, Same.sqt (s4.trans s6) hT3, dpAll_keep (Same.tk (s4.trans s6)) hA3 ta, rfl⟩
              rw [List.take_add_one, ht, List.foldl_append]
              exact hD6
          · rintro σ H3 ⟨s3, D, y1, y2, y3, y4, hD3, hT3, hA3, rfl⟩
            rw [tl, List.take_length] at hD3
            refine ⟨_, rfl, _, rfl, small (by show 2 ≤ 5000; decide), fun t2 n2 => q _ t2 D (s3.trans (same_new n2)) (SqT.of upd_same) (same_new n2 _ _ hD3)⟩
      | read => exact absurd rfl e1
      | two a b c => exact absurd rfl e1
end
end Sp1

set_option Elab.async false
set_option linter.all false
set_option maxRecDepth 100000
set_option maxHeartbeats 8000000
namespace Pg
open PySem
/-- what a move makes of a vector, before it is reduced -/
def Ins.res (names : List Str) (u : List Int) (k : Int) : Ins → List Int
  | .set x e => (u.map ((e.val names u k).2 * ·)).set (names.idxOf x) (e.val names u k).1
  | .swap x y => (u.set (names.idxOf x) (atV names u y)).set (names.idxOf y) (atV names u x)
  | _ => u
theorem val_d {names : List Str} {u : List Int} {k : Int} {e : Ex} (lo : e.Lo) (ok : e.Ok names) : 1 ≤ (e.val names u k).2 ∧ (e.val names u k).2 ≤ 3 := by
  cases e with
  | sum s => exact ⟨ok.dp, lo.2.1⟩
  | read => exact ⟨by show (1 : Int) ≤ 1; decide, by show (1 : Int) ≤ 3; decide⟩
  | two a b c => exact ⟨by show (1 : Int) ≤ 1; decide, by show (1 : Int) ≤ 3; decide⟩
theorem set_cut {α : Type} (l : List α) (i : Nat) (z : α) (h : i < l.length) : l.take i ++ [z] ++ l.drop (i + 1) = l.set i z := by
  rw [List.set_eq_take_append_cons_drop, if_pos h, List.append_assoc]
  rfl
end Pg
namespace Sp1
open PySem PySem.Spec PyProof.Rows L2 Pg
theorem cutV_to {u : List V} {i : Nat} (h : i ≤ u.length) : cutV u none (some (i : Int)) = u.take i := by
  unfold cutV HT.sIx
  have e0 : ¬ ((i : Int) < 0) := by omega
  simp only [e0, if_false]
  rw [show min ((i : Int)).toNat u.length = i by omega, Nat.sub_zero, List.drop_zero]
theorem cutV_from {u : List V} {i : Nat} (h : i ≤ u.length) : cutV u (some (i : Int)) none = u.drop i := by
  unfold cutV HT.sIx
  have e0 : ¬ ((i : Int) < 0) := by omega
  simp only [e0, if_false]
  rw [show min ((i : Int)).toNat u.length = i by omega]
  exact List.take_of_length_le (by rw [List.length_drop]; omega)
section
variable {P : Program} {w : World} {K : PySem.W.Frag} {mg : Str → Option Value} {base : Heap}
def sp_mv_set (K : PySem.W.Frag) (C : Addr) : Sp := fun vs H Q _ => ∃ (x r a : Addr) (p : Pt) (v ch : V) (nm : Str) (e : Ex) (u : List Int) (k : Int), vs = [.ref x, .ref a, .ref r, .int 1, ch] ∧ MvAt K C H x p ∧ p.Fine ∧ SqT K H a [.str "set", .str nm, v] ∧ Dp K H v e.D ∧ nm ∈ p.names ∧ e.Ok p.names ∧ e.Lo ∧ SqT K H r (u.map V.int) ∧ u.length = p.names.length + 1 ∧
  (e.free = true → ch = .int k ∧ CMul k (lastV u)) ∧ ∀ H' l, Same H H' → H' l = some (.lst (((Ins.set nm e).res p.names u k).map V.int)) → Q (.ref l) H'
theorem ok_mv_set (T : MvF K mg) (C : MvC K mg) : FnOk P w K mg base CX0 3 C.f_after_set C.fd_after_set ["self", "instruction", "rows", "columns", "choice"] (sp_mv_set K C.C) := by
  refine C.F_after_set.ok sc_mv_after_set (fun vs H Q E h => ?_) (fun cdv A outer s H vs Q E hr h => ?_)
  · obtain ⟨x, r, a, p, v, ch, nm, e, u, k, rfl, _⟩ := h
    rfl
  · obtain ⟨x, r, a, p, v, ch, nm, e, u, k, rfl, hm, f, hT, hd, hin, ok, lo, hu, ul, hk, q⟩ := h
    have nd := sc_mv_after_set.nd
    have l4 := f.l4
    have nl : p.names.length ≤ 4 := by
      show (p.given ++ p.vars).length ≤ 4
      rw [List.length_append]
      exact l4
    obtain ⟨dx, iv, ov, nv, ev, rv, cv, dv, pl, hx, hI, hev, hpl⟩ := id hm
    have hix : p.names.idxOf nm < u.length := by
      have := List.idxOf_lt_length_of_mem hin
      omega
    obtain ⟨d1, d3⟩ := val_d (u := u) (k := k) lo ok
    refine ⟨_, (pss_cons (ps_asg (pv 1) (pg_tup rfl (pgs_cons (pg_name (i := 5) nd rfl (.inl rfl)) (pgs_cons (pg_name (i := 6) nd rfl (.inl rfl)) (pgs_cons (pg_name (i := 7) nd rfl (.inl rfl)) pgs_nil)))))
      (pss_cons (ps_asg (pe_meth (pv 0) C.cl C.M_value_entries (ok_mv_value T C) (hr.mono (by decide)) C.b_value_entries .nil pass0 (pa_cons (pv 7) (pa_cons (pv 2) (pa_cons (pv 3) (pa_cons (pv 4) pa_nil))))) (pg_tup rfl (pgs_cons (pg_name (i := 8) nd rfl (.inl rfl)) (pgs_cons (pg_name (i := 9) nd rfl (.inr rfl)) pgs_nil))))
      (pss_cons (ps_setLc (i := 10) (own := [("entry", 12)]) (g := (gName 12)) (tt := tYes) rfl nd rfl rfl (sw_true rfl rfl rfl (by decide +kernel)) (pi_tup (pv 2)) (blkOk_by (N := N_mv_after_set) (sc := defScope s_mv_after_set) (by decide +kernel)) (fun _ _ _ _ _ => (pg_name (i := 12) nd rfl (.inl rfl))) (fun _ _ _ _ _ => pts_nil) (fun _ _ _ _ _ => (pe_op op_mul (pv 9) (pv 12))))
      (pss_cons (ps_set (i := 11) nd rfl (.inl rfl) (pe_op op_mul (pe_dget (hu_of hr) (pe_fld (pv 0) rfl) (pv 6) (fun _ _ => rfl)) (pv 3)))
      (pss_one (ps_ret (pe_op op_cat (pe_op op_cat (pe_slice sl_list (pv 10) po_none (po_some (pv 11))) (pv 8)) (pe_slice sl_list (pv 10) (po_some (pe_op op_add (pv 11) (pv 3))) po_none)))))))), ?_⟩
    refine ⟨_, rfl, a, _, rfl, hT, rfl, _, _, rfl, _, _, rfl, _, _, rfl, rfl, ?_⟩
    dsimp only [List.set]
    refine ⟨_, rfl, x, dx, _, rfl, hx, mf8_value, _, rfl, _, rfl, _, rfl, _, rfl, ?_⟩
    refine ⟨x, r, p, v, ch, e, u, k, rfl, hm, f, hd, ok, lo, hu, ul, hk, fun H1 t l s1 ht hl => ?_⟩
    refine ⟨t, _, rfl, ht, rfl, _, _, rfl, _, _, rfl, rfl, ?_⟩
    dsimp only [List.set]
    have hu1 := Same.sqt s1 hu
    refine ⟨_, rfl, r, rfl, ⟨_, hu1⟩, fun D nD => ?_⟩
    refine lc_it (walk_tup (K := K) (a := r) (xs := u.map V.int)) (Acc H1 D fun j => V.int ((e.val p.names u k).2 * u.getD j 0)) (Acc.start nD) (fun i H' _ h => Same.sqt h.1 hu1) ?_ ?_
    · rintro i x' H2 H3 hi ac ⟨rfl, hx'⟩
      rw [List.length_map] at hi
      rw [List.getElem?_map, List.getElem?_eq_getElem hi] at hx'
      cases hx'
      refine ⟨rfl, ?_⟩
      dsimp only [tYes]
      refine iteT ⟨_, rfl, _, rfl, _, _, rfl, rfl, .inl (by omega), ac.turn nD (Same.refl _) (by omega) ?_⟩
      rw [List.getD_eq_getElem?_getD, List.getElem?_eq_getElem hi]
      rfl
    · rintro H2 ⟨s2, hD⟩
      have hD' : H2 D = some (.lst ((u.map ((e.val p.names u k).2 * ·)).map V.int)) := by
        rw [hD, List.length_map]
        congr 2
        rw [← range_getD (n := u.length) (by rw [List.length_map])]
        refine List.map_congr_left fun j hj => ?_
        have hj := List.mem_range.mp hj
        simp [List.getD_eq_getElem?_getD, hj]
      have s12 := s1.trans s2
      have ei : (fun i j : Int => V.int (i * j)) ((p.names.idxOf nm : Nat) : Int) 1 = V.int ((p.names.idxOf nm : Nat) : Int) := by
        show V.int (_ * 1) = _
        rw [Int.mul_one]
      have ei2 : (fun i j : Int => V.int (i + j)) ((p.names.idxOf nm : Nat) : Int) 1 = V.int ((p.names.idxOf nm + 1 : Nat) : Int) := rfl
      have wl : (((u.map ((e.val p.names u k).2 * ·)).map V.int)).length = u.length := by rw [List.length_map, List.length_map]
      refine gn (σ' := [some (.ref x), some (.ref a), some (.ref r), some (.int 1), some ch, some (.str "set"), some (.str nm), some v, some (.ref l), some (.int (e.val p.names u k).2), some (.ref D), none, none]) rfl ?_
      refine ⟨_, rfl, x, C.C, dx, _, _, rfl, s12 _ _ hx, C.cl, C.n__places, mf8_pla, _, rfl, pl, .int ((p.names.idxOf nm : Nat) : Int), rfl, .inl ⟨_, Sum.inr nm, .inl (s12 _ _ hpl), rfl, (place_val hin).symm⟩, _, rfl, _, _, rfl, rfl, .inr (by decide), ?_⟩
      refine gn (σ' := [some (.ref x), some (.ref a), some (.ref r), some (.int 1), some ch, some (.str "set"), some (.str nm), some v, some (.ref l), some (.int (e.val p.names u k).2), some (.ref D), some (.int ((p.names.idxOf nm : Nat) : Int)), none]) (by rw [ei]; rfl) ?_
      refine ⟨_, rfl, ?_⟩
      dsimp only [tNoPart]
      refine ⟨_, rfl, _, rfl, D, _, rfl, SqL.of hD', fun l1 n1 => ?_⟩
      rw [cutV_to (by rw [wl]; omega)]
      have s3 := same_new (o := HO.lst ((((u.map ((e.val p.names u k).2 * ·)).map V.int)).take (p.names.idxOf nm))) n1
      have h3 : (upd H2 l1 (HO.lst ((((u.map ((e.val p.names u k).2 * ·)).map V.int)).take (p.names.idxOf nm)))) l1 = some (HO.lst ((((u.map ((e.val p.names u k).2 * ·)).map V.int)).take (p.names.idxOf nm))) := upd_same
      generalize upd H2 l1 (HO.lst ((((u.map ((e.val p.names u k).2 * ·)).map V.int)).take (p.names.idxOf nm))) = H3 at s3 h3 ⊢
      refine ⟨_, rfl, l1, l, _, _, rfl, rfl, h3, (s2.trans s3) _ _ hl, by rw [sizeLine_eq, List.length_take]; show _ + 1 ≤ _; omega, fun l2 n2 => ?_⟩
      have s4 := same_new (o := HO.lst ((((u.map ((e.val p.names u k).2 * ·)).map V.int)).take (p.names.idxOf nm) ++ [V.int (e.val p.names u k).1])) n2
      have h4 : (upd H3 l2 (HO.lst ((((u.map ((e.val p.names u k).2 * ·)).map V.int)).take (p.names.idxOf nm) ++ [V.int (e.val p.names u k).1]))) l2 = some (HO.lst ((((u.map ((e.val p.names u k).2 * ·)).map V.int)).take (p.names.idxOf nm) ++ [V.int (e.val p.names u k).1])) := upd_same
      generalize upd H3 l2 (HO.lst ((((u.map ((e.val p.names u k).2 * ·)).map V.int)).take (p.names.idxOf nm) ++ [V.int (e.val p.names u k).1])) = H4 at s4 h4 ⊢
      refine ⟨_, rfl, _, rfl, _, rfl, _, _, rfl, rfl, _, rfl, ?_⟩
      dsimp only [tNoPart]
      refine ⟨D, _, rfl, SqL.of ((s3.trans s4) _ _ hD'), fun l3 n3 => ?_⟩
      have ec : cutV ((u.map ((e.val p.names u k).2 * ·)).map V.int) (some (((p.names.idxOf nm : Nat) : Int) + 1)) none = ((u.map ((e.val p.names u k).2 * ·)).map V.int).drop (p.names.idxOf nm + 1) := cutV_from (i := p.names.idxOf nm + 1) (by rw [wl]; omega)
      rw [ec]
      have s5 := same_new (o := HO.lst ((((u.map ((e.val p.names u k).2 * ·)).map V.int)).drop (p.names.idxOf nm + 1))) n3
      have h5 : (upd H4 l3 (HO.lst ((((u.map ((e.val p.names u k).2 * ·)).map V.int)).drop (p.names.idxOf nm + 1)))) l3 = some (HO.lst ((((u.map ((e.val p.names u k).2 * ·)).map V.int)).drop (p.names.idxOf nm + 1))) := upd_same
      generalize upd H4 l3 (HO.lst ((((u.map ((e.val p.names u k).2 * ·)).map V.int)).drop (p.names.idxOf nm + 1))) = H5 at s5 h5 ⊢
      refine ⟨l2, l3, _, _, rfl, rfl, s5 _ _ h4, h5, by rw [sizeLine_eq, List.length_append, List.length_take, List.length_drop]; show _ + 1 + _ ≤ _; omega, fun l4 n4 => ?_⟩
      refine q _ l4 (s12.trans (s3.trans (s4.trans (s5.trans (same_new n4))))) ?_
      rw [upd_same, set_cut _ _ _ (by rw [wl]; omega)]
      show some (HO.lst _) = some (.lst (((u.map ((e.val p.names u k).2 * ·)).set (p.names.idxOf nm) (e.val p.names u k).1).map V.int))
      rw [List.map_set]
def sp_mv_swap (K : PySem.W.Frag) (C : Addr) : Sp := fun vs H Q _ => ∃ (x r a : Addr) (p : Pt) (n1 n2 : Str) (u : List Int), vs = [.ref x, .ref a, .ref r, .int 1] ∧ MvAt K C H x p ∧ p.Fine ∧ SqT K H a [.str "swap", .str n1, .str n2] ∧ n1 ∈ p.names ∧ n2 ∈ p.names ∧ SqT K H r (u.map V.int) ∧ u.length = p.names.length + 1 ∧
  ∀ H' l, Same H H' → H' l = some (.lst (((Ins.swap n1 n2).res p.names u 0).map V.int)) → Q (.ref l) H'
theorem ok_mv_swap (T : MvF K mg) (C : MvC K mg) : FnOk P w K mg base CX0 2 C.f_after_swap C.fd_after_swap ["self", "instruction", "rows", "columns"] (sp_mv_swap K C.C) := by
  refine C.F_after_swap.ok sc_mv_after_swap (fun vs H Q E h => ?_) (fun cdv A outer s H vs Q E hr h => ?_)
  · obtain ⟨x, r, a, p, n1, n2, u, rfl, _⟩ := h
    rfl
  · obtain ⟨x, r, a, p, n1, n2, u, rfl, hm, f, hT, hn1, hn2, hu, ul, q⟩ := h
    have nd := sc_mv_after_swap.nd
    have l4 := f.l4
    have nl : p.names.length ≤ 4 := by
      show (p.given ++ p.vars).length ≤ 4
      rw [List.length_append]
      exact l4
    have l1 : 1 ≤ p.names.length := by
      have := f.l1
      show 1 ≤ (p.given ++ p.vars).length
      rw [List.length_append]
      omega
    obtain ⟨dx, iv, ov, nv, ev, rv, cv, dv, pl, hx, hI, hev, hpl⟩ := id hm
    have hi1 : p.names.idxOf n1 < u.length := by
      have := List.idxOf_lt_length_of_mem hn1
      omega
    have hi2 : p.names.idxOf n2 < u.length := by
      have := List.idxOf_lt_length_of_mem hn2
      omega
    have ei : ∀ n : Nat, (fun i j : Int => V.int (i * j)) (n : Int) 1 = V.int (n : Int) := fun n => by
      show V.int (_ * 1) = _
      rw [Int.mul_one]
    refine ⟨_, (pss_cons (ps_asg (pv 1) (pg_tup rfl (pgs_cons (pg_name (i := 4) nd rfl (.inl rfl)) (pgs_cons (pg_name (i := 5) nd rfl (.inl rfl)) (pgs_cons (pg_name (i := 6) nd rfl (.inl rfl)) pgs_nil)))))
      (pss_cons (ps_set (i := 7) nd rfl (.inl rfl) (pe_op op_mul (pe_dget (hu_of hr) (pe_fld (pv 0) rfl) (pv 5) (fun _ _ => rfl)) (pv 3)))
      (pss_cons (ps_set (i := 8) nd rfl (.inl rfl) (pe_op op_mul (pe_dget (hu_of hr) (pe_fld (pv 0) rfl) (pv 6) (fun _ _ => rfl)) (pv 3)))
      (pss_cons (ps_set (i := 9) nd rfl (.inl rfl) (pe_callTy call_list_of (by rfl) T.m_list (by decide +kernel) (pa_cons (pv 2) pa_nil)))
      (pss_cons (ps_asg (pe_slice sl_tupA (pv 2) (po_some (pv 8)) (po_some (pe_op op_add (pv 8) (pv 3)))) (pg_slT (pv 9) (po_some (pv 7)) (po_some (pe_op op_add (pv 7) (pv 3)))))
      (pss_cons (ps_asg (pe_slice sl_tupA (pv 2) (po_some (pv 7)) (po_some (pe_op op_add (pv 7) (pv 3)))) (pg_slT (pv 9) (po_some (pv 8)) (po_some (pe_op op_add (pv 8) (pv 3)))))
      (pss_one (ps_ret (pv 9))))))))), ?_⟩
    refine ⟨_, rfl, a, _, rfl, hT, rfl, _, _, rfl, _, _, rfl, _, _, rfl, rfl, ?_⟩
    dsimp only [List.set]
    refine ⟨_, rfl, x, C.C, dx, _, _, rfl, hx, C.cl, C.n__places, mf8_pla, _, rfl, pl, .int ((p.names.idxOf n1 : Nat) : Int), rfl, .inl ⟨_, Sum.inr n1, .inl hpl, rfl, (place_val hn1).symm⟩, _, rfl, _, _, rfl, rfl, .inr (by decide), ?_⟩
    refine gn (σ' := [some (.ref x), some (.ref a), some (.ref r), some (.int 1), some (.str "swap"), some (.str n1), some (.str n2), some (.int ((p.names.idxOf n1 : Nat) : Int)), none, none]) (by rw [ei]; rfl) ?_
    refine ⟨_, rfl, x, C.C, dx, _, _, rfl, hx, C.cl, C.n__places, mf8_pla, _, rfl, pl, .int ((p.names.idxOf n2 : Nat) : Int), rfl, .inl ⟨_, Sum.inr n2, .inl hpl, rfl, (place_val hn2).symm⟩, _, rfl, _, _, rfl, rfl, .inr (by decide), ?_⟩
    refine gn (σ' := [some (.ref x), some (.ref a), some (.ref r), some (.int 1), some (.str "swap"), some (.str n1), some (.str n2), some (.int ((p.names.idxOf n1 : Nat) : Int)), some (.int ((p.names.idxOf n2 : Nat) : Int)), none]) (by rw [ei]; rfl) ?_
    refine ⟨_, rfl, r, _, rfl, .inr hu, fun l nl' => ?_⟩
    have s1 := same_new (o := HO.lst (u.map V.int)) nl'
    have h1 : (upd H l (HO.lst (u.map V.int))) l = some (HO.lst (u.map V.int)) := upd_same
    generalize upd H l (HO.lst (u.map V.int)) = H1 at s1 h1 ⊢
    refine gn (σ' := [some (.ref x), some (.ref a), some (.ref r), some (.int 1), some (.str "swap"), some (.str n1), some (.str n2), some (.int ((p.names.idxOf n1 : Nat) : Int)), some (.int ((p.names.idxOf n2 : Nat) : Int)), some (.ref l)]) rfl ?_
    have u2 : 2 ≤ u.length := by omega
    -- the first one
    refine ⟨_, rfl, _, rfl, _, rfl, _, rfl, _, rfl, _, _, rfl, rfl, _, rfl, ?_⟩
    refine ⟨r, _, rfl, Same.sqt s1 hu, fun z => absurd z (not_one u2 hi2), fun _ t1 m1 => ?_⟩
    rw [cut_one hi2]
    have s2 := same_new (o := HO.tup [V.int (u.getD (p.names.idxOf n2) 0)]) m1
    have h2 : (upd H1 t1 (HO.tup [V.int (u.getD (p.names.idxOf n2) 0)])) t1 = some (HO.tup [V.int (u.getD (p.names.idxOf n2) 0)]) := upd_same
    generalize upd H1 t1 (HO.tup [V.int (u.getD (p.names.idxOf n2) 0)]) = H2 at s2 h2 ⊢
    refine ⟨_, rfl, _, rfl, _, rfl, _, rfl, _, rfl, _, _, rfl, rfl, _, rfl, l, t1, _, _, p.names.idxOf n1, p.names.idxOf n1 + 1, rfl, rfl, rfl, rfl, s2 _ _ h1, SqT.of h2, by omega, by rw [List.length_map]; omega, by rw [sizeLine_eq, List.length_map]; show _ + 1 ≤ _; omega, ?_⟩
    rw [set_cut _ _ _ (by rw [List.length_map]; exact hi1), ← List.map_set]
    have s02 : Same H (upd H2 l (.lst ((u.set (p.names.idxOf n1) (u.getD (p.names.idxOf n2) 0)).map V.int))) := same_at nl' (s1.trans s2)
    have h3 : (upd H2 l (.lst ((u.set (p.names.idxOf n1) (u.getD (p.names.idxOf n2) 0)).map V.int))) l = some (.lst ((u.set (p.names.idxOf n1) (u.getD (p.names.idxOf n2) 0)).map V.int)) := upd_same
    generalize upd H2 l (.lst ((u.set (p.names.idxOf n1) (u.getD (p.names.idxOf n2) 0)).map V.int)) = H3 at s02 h3 ⊢
    -- the other one
    refine ⟨_, rfl, _, rfl, _, rfl, _, rfl, _, rfl, _, _, rfl, rfl, _, rfl, ?_⟩
    refine ⟨r, _, rfl, Same.sqt s02 hu, fun z => absurd z (not_one u2 hi1), fun _ t2 m2 => ?_⟩
    rw [cut_one hi1]
    have s4 := same_new (o := HO.tup [V.int (u.getD (p.names.idxOf n1) 0)]) m2
    have h4 : (upd H3 t2 (HO.tup [V.int (u.getD (p.names.idxOf n1) 0)])) t2 = some (HO.tup [V.int (u.getD (p.names.idxOf n1) 0)]) := upd_same
    generalize upd H3 t2 (HO.tup [V.int (u.getD (p.names.idxOf n1) 0)]) = H4 at s4 h4 ⊢
    refine ⟨_, rfl, _, rfl, _, rfl, _, rfl, _, rfl, _, _, rfl, rfl, _, rfl, l, t2, _, _, p.names.idxOf n2, p.names.idxOf n2 + 1, rfl, rfl, rfl, rfl, s4 _ _ h3, SqT.of h4, by omega, by rw [List.length_map, List.length_set]; omega, by rw [sizeLine_eq, List.length_map, List.length_set]; show _ + 1 ≤ _; omega, ?_⟩
    rw [set_cut _ _ _ (by rw [List.length_map, List.length_set]; exact hi2), ← List.map_set]
    exact ⟨_, rfl, q _ l (same_at nl' (s02.trans s4)) upd_same⟩
end
end Sp1

set_option Elab.async false
set_option linter.all false
set_option maxRecDepth 100000
set_option maxHeartbeats 8000000
namespace Pg
open PySem
theorem tag_set {y : Ins} (h : y.tag = 0) : ∃ x e, y = .set x e := by cases y <;> first | exact ⟨_, _, rfl⟩ | cases h
theorem tag_swap {y : Ins} (h : y.tag = 1) : ∃ x z, y = .swap x z := by cases y <;> first | exact ⟨_, _, rfl⟩ | cases h
theorem tag_bgn {y : Ins} (h : y.tag = 5) : ∃ e, y = .bgn e := by cases y <;> first | exact ⟨_, rfl⟩ | cases h
theorem res_same {names : List Str} {u : List Int} {k : Int} {y : Ins} (h0 : ¬ y.tag = 0) (h1 : ¬ y.tag = 1) : y.res names u k = u := by
  cases y <;> first | rfl | exact absurd rfl h0 | exact absurd rfl h1
end Pg
namespace Sp1
open PySem PySem.Spec PyProof.Rows L2 Pg
section
variable {P : Program} {w : World} {K : PySem.W.Frag} {mg : Str → Option Value} {base : Heap}
def sp_mv_result (K : PySem.W.Frag) (C : Addr) : Sp := fun vs H Q _ => ∃ (x r : Addr) (p : Pt) (i : Nat) (y : IK) (ch : V) (u : List Int) (k : Int), vs = [.ref x, .int (i : Int), .ref r, .int 1, ch] ∧ MvAt K C H x p ∧ p.Fine ∧ p.ins[i]? = some y ∧ ¬ y.1.tag = 5 ∧ y.1.Lo ∧ SqT K H r (u.map V.int) ∧ u.length = p.names.length + 1 ∧
  (y.1.tag = 6 → scal ch (.int 0) = true ∧ decide (ch = .int 0) = false) ∧ (y.1.need = 1 → ch = .int k ∧ CMul k (lastV u)) ∧ ∀ H' l, Same H H' → H' l = some (.lst ((y.1.res p.names u k).map V.int)) → Q (.ref l) H'
theorem ok_mv_result (T : MvF K mg) (C : MvC K mg) : FnOk P w K mg base CX0 4 C.f_result C.fd_result ["self", "address", "rows", "columns", "choice"] (sp_mv_result K C.C) := by
  refine C.F_result.ok sc_mv_result (fun vs H Q E h => ?_) (fun cdv A outer s H vs Q E hr h => ?_)
  · obtain ⟨x, r, p, i, y, ch, u, k, rfl, _⟩ := h
    rfl
  · obtain ⟨x, r, p, i, y, ch, u, k, rfl, hm, f, hy, h5, lo, hu, ul, h6, hk, q⟩ := h
    have nd := sc_mv_result.nd
    obtain ⟨dx, c, ov, nv, rv, cv, dv, ev, pl, ys, zs, a, hx, hc, hi, hT, hR⟩ := mv_ins hm hy
    have iok := Pt.ins_ok f y (List.mem_of_getElem? hy)
    refine ⟨_, (pss_cons (ps_set (i := 5) nd rfl (.inl rfl) (pe_ix (r := rIxT K) ix_tup (pe_fld (pv 0) rfl) (pv 1) (fun _ _ => rfl)))
      (pss_cons (ps_set (i := 6) nd rfl (.inl rfl) (pe_ix (r := rIxT K) ix_tup (pv 5) pe_int (fun _ _ => rfl)))
      (pss_cons (ps_if (pt_cmpR op_eq (pv 6) pe_str (nomark _))
      (pss_one (ps_ret (pe_meth (pv 0) C.cl C.M_after_set (ok_mv_set T C) (hr.mono (by decide)) C.b_after_set .nil pass0 (pa_cons (pv 5) (pa_cons (pv 2) (pa_cons (pv 3) (pa_cons (pv 4) pa_nil)))))))
      pss_nil)
      (pss_cons (ps_if (pt_cmpR op_eq (pv 6) pe_str (nomark _))
      (pss_one (ps_ret (pe_meth (pv 0) C.cl C.M_after_swap (ok_mv_swap T C) (hr.mono (by decide)) C.b_after_swap .nil pass0 (pa_cons (pv 5) (pa_cons (pv 2) (pa_cons (pv 3) pa_nil))))))
      pss_nil)
      (pss_cons (ps_if (PW.pt (pw_and (pt_cmpR op_eq (pv 3) pe_int (nomark _)) (pw_and1 (pt_cmpR op_eq (pv 6) pe_str (nomark _)))))
      (pss_cons (ps_asg (pe_meth (pv 0) C.cl C.M_value_entries (ok_mv_value T C) (hr.mono (by decide)) C.b_value_entries .nil pass0 (pa_cons (pe_ix (r := rIxT K) ix_tup (pv 5) pe_int (fun _ _ => rfl)) (pa_cons (pv 2) (pa_cons pe_int (pa_cons (pv 4) pa_nil))))) (pg_tup rfl (pgs_cons (pg_name (i := 7) nd rfl (.inl rfl)) (pgs_cons (pg_name (i := 8) nd rfl (.inr rfl)) pgs_nil))))
        (pss_cons (ps_setLc (i := 9) (own := [("entry", 10)]) (g := (gName 10)) (tt := tYes) rfl nd rfl rfl (sw_true rfl rfl rfl (by decide +kernel)) (pi_tup (pv 2)) (blkOk_by (N := N_mv_result) (sc := defScope s_mv_result) (by decide +kernel)) (fun _ _ _ _ _ => (pg_name (i := 10) nd rfl (.inl rfl))) (fun _ _ _ _ _ => pts_nil) (fun _ _ _ _ _ => (pe_op op_mul (pv 8) (pv 10))))
        (pss_one (ps_ret (pe_op op_cat (pe_op op_cat (pe_slice sl_list (pv 9) po_none (po_some (pe_un un_neg pe_int))) (pv 7)) (pe_slice sl_list (pv 9) (po_some (pe_un un_neg pe_int)) po_none))))))
      pss_nil)
      (pss_cons (ps_if (PW.pt (pw_and (pt_cmpR op_eq (pv 3) pe_int (nomark _)) (pw_and (pt_cmpR op_eq (pv 6) pe_str (nomark _)) (pw_and1 (pt_cmpR op_eq (pv 4) pe_int (nomark _))))))
      (pss_one (ps_ret (pe_lst (StX.pa_star (pe_slice sl_tupA (pv 2) po_none (po_some (pe_un un_neg pe_int))) (pa_cons (pe_ix (r := rIxT K) ix_tup (pv 2) (pe_un un_neg pe_int) (fun _ _ => rfl)) pa_nil)))))
      pss_nil)
      (pss_one (ps_ret (pe_callTy call_list_of (by rfl) T.m_list (by decide +kernel) (pa_cons (pv 2) pa_nil)))))))))), ?_⟩
    refine ⟨_, rfl, x, C.C, dx, _, _, rfl, hx, C.cl, C.n_instructions, mf8_ins, _, rfl, c, ys, _, _, rfl, rfl, hc, hi, ?_⟩
    refine gn (σ' := [some (.ref x), some (.int (i : Int)), some (.ref r), some (.int 1), some ch, some (.ref a), none, none, none, none, none]) rfl ?_
    refine ⟨_, rfl, a, _, 0, _, rfl, rfl, hT, at0, ?_⟩
    refine gn (σ' := [some (.ref x), some (.int (i : Int)), some (.ref r), some (.int 1), some ch, some (.ref a), some (.str y.1.word), none, none, none, none]) rfl ?_
    obtain ⟨y1, kk⟩ := y
    have e0 : decide (V.str y1.word = V.str "set") = decide (y1.tag = 0) := y1.is_eq 0 (by decide)
    have e1 : decide (V.str y1.word = V.str "swap") = decide (y1.tag = 1) := y1.is_eq 1 (by decide)
    have e5 : decide (V.str y1.word = V.str "begin") = decide (y1.tag = 5) := y1.is_eq 5 (by decide)
    have e6 : decide (V.str y1.word = V.str "turn") = decide (y1.tag = 6) := y1.is_eq 6 (by decide)
    refine ⟨_, rfl, rfl, ?_⟩
    rw [e0]
    refine ⟨_, rfl, ite2 (fun t0 => ?_) (fun t0 => ?_)⟩
    · obtain ⟨nm, e, rfl⟩ := tag_set (of_decide_eq_true (p := y1.tag = 0) t0)
      cases hR with
      | cons r1 r2 =>
      cases r1
      cases r2 with
      | cons r2 r3 =>
      cases r3
      refine ⟨_, rfl, x, dx, _, rfl, hx, mf8_set, _, rfl, _, rfl, _, rfl, _, rfl, ?_⟩
      exact ⟨x, r, a, p, _, ch, nm, e, u, k, rfl, hm, f, hT, r2, iok.1, iok.2, lo, hu, ul, fun he => hk (by show (if e.free then 1 else 0) = 1; rw [if_pos he]), fun H' l s1 hl => q H' l s1 hl⟩
    replace t0 : ¬ y1.tag = 0 := fun z => t0 (decide_eq_true z)
    refine tNextI ?_
    refine ⟨_, rfl, rfl, ?_⟩
    rw [e1]
    refine ⟨_, rfl, ite2 (fun t1 => ?_) (fun t1 => ?_)⟩
    · obtain ⟨n1, n2, rfl⟩ := tag_swap (of_decide_eq_true (p := y1.tag = 1) t1)
      cases hR with
      | cons r1 r2 =>
      cases r1
      cases r2 with
      | cons r2 r3 =>
      cases r2
      cases r3
      refine ⟨_, rfl, x, dx, _, rfl, hx, mf8_swap, _, rfl, _, rfl, _, rfl, ?_⟩
      exact ⟨x, r, a, p, n1, n2, u, rfl, hm, f, hT, iok.1, iok.2.1, hu, ul, fun H' l s1 hl => q H' l s1 hl⟩
    replace t1 : ¬ y1.tag = 1 := fun z => t1 (decide_eq_true z)
    have hres : y1.res p.names u k = u := res_same t0 t1
    refine tNextI ?_
    refine ⟨_, rfl, rfl, _, rfl, iteT ?_⟩
    refine ⟨_, rfl, rfl, ?_⟩
    rw [e5]
    refine ⟨_, rfl, ite2 (fun t5 => absurd (of_decide_eq_true (p := y1.tag = 5) t5) h5) (fun t5 => ?_)⟩
    refine tNextI ?_
    refine ⟨_, rfl, rfl, _, rfl, iteT ?_⟩
    refine ⟨_, rfl, rfl, ?_⟩
    rw [e6]
    have fin : ∀ {H' : Hp}, Same H H' → ∀ l, H' l = none → Q (.ref l) (upd H' l (.lst (u.map V.int))) := fun s' l nl => q _ l (s'.trans (same_new nl)) (by rw [upd_same]; show some (HO.lst _) = some (.lst ((y1.res p.names u k).map V.int)); rw [hres])
    refine ⟨_, rfl, ite2 (fun t6 => ?_) (fun t6 => ?_)⟩
    · obtain ⟨hs, hd⟩ := h6 (of_decide_eq_true (p := y1.tag = 6) t6)
      refine ⟨_, rfl, hs, ?_⟩
      rw [hd]
      refine ⟨_, rfl, iteF ?_⟩
      refine tNextI ?_
      exact ⟨_, rfl, r, _, rfl, .inr hu, fun l nl => fin (Same.refl _) l nl⟩
    · refine iteF ?_
      refine tNextI ?_
      exact ⟨_, rfl, r, _, rfl, .inr hu, fun l nl => fin (Same.refl _) l nl⟩
end
end Sp1

set_option Elab.async false
set_option linter.all false
set_option maxRecDepth 100000
set_option maxHeartbeats 4000000
namespace Pg
open PySem
/-! free runs, pure -/
/-- what stands on the stack: an address, or a counter as a fraction -/
inductive Fr
  | adr (n : Nat)
  | cnt (a b : Int)
def Fr.D : Fr → PyData
  | .adr n => .int (n : Int)
  | .cnt a b => .tuple [.int a, .int b]
def Fr.isC : Fr → Prop
  | .adr _ => False
  | .cnt _ _ => True
/-- a stack fits an address -/
inductive Stk (C : List IK) (M : Nat) : Nat → List Fr → Prop
  | main {i k : Nat} {y : Ins} {cs : List Fr} : C[i]? = some (y, k) → i < M → cs.length = k → (∀ c ∈ cs, c.isC) → Stk C M i cs
  | proc {i j k : Nat} {y : Ins} {cs rest : List Fr} : C[i]? = some (y, k) → M ≤ i → cs.length = k → (∀ c ∈ cs, c.isC) → Stk C M j rest → Stk C M i (rest ++ ([.adr j] ++ cs))
/-- a state of a free run -/
structure Rs where
  at_ : Nat
  vec : List Int
  fr : List Fr
def Rs.step (p : Pt) (y : Ins) (k : Int) (s : Rs) : Rs :=
  match y with
  | .set _ _ => ⟨s.at_ + 1, lowV (y.res p.names s.vec k), s.fr⟩
  | .swap _ _ => ⟨s.at_ + 1, y.res p.names s.vec k, s.fr⟩
  | .bgn e => ⟨s.at_ + 1, s.vec, s.fr ++ [.cnt ((lowV [(e.val p.names s.vec k).1, (e.val p.names s.vec k).2 * lastV s.vec]).getD 0 0) ((lowV [(e.val p.names s.vec k).1, (e.val p.names s.vec k).2 * lastV s.vec]).getD 1 0)]⟩
  | .turn n => if k = 0 then ⟨n, s.vec, s.fr.dropLast⟩ else ⟨s.at_ + 1, s.vec, s.fr⟩
  | .call x => ⟨(p.entN x).getD 0, s.vec, s.fr ++ [.adr (s.at_ + 1)]⟩
  | .ret => ⟨match s.fr.getLast? with | some (.adr j) => j | _ => 0, s.vec, s.fr.dropLast⟩
  | y => ⟨y.next (decide (k = 0)) s.at_, s.vec, s.fr⟩
/-- what holds along a run -/
structure Rs.Ok (p : Pt) (n : Nat) (s : Rs) : Prop where
  stk : Stk p.ins p.M s.at_ s.fr
  len : s.vec.length = p.names.length + 1
  m1 : 1 ≤ lastV s.vec
  m2 : lastV s.vec ≤ 3 ^ n
  bd : ∀ x ∈ s.vec, x.natAbs ≤ 10 ^ 21 * (10 ^ 6) ^ n
  gcd : gcdL s.vec = 1
  fl : s.fr.length ≤ n
  fb : ∀ a b, Fr.cnt a b ∈ s.fr → a.natAbs ≤ 10 ^ 21 * (10 ^ 6) ^ n ∧ b.natAbs ≤ 10 ^ 21 * (10 ^ 6) ^ n
theorem Stk.at_ {C : List IK} {M i : Nat} {f : List Fr} (h : Stk C M i f) : ∃ y k, C[i]? = some (y, k) := by
  cases h with
  | main h => exact ⟨_, _, h⟩
  | proc h => exact ⟨_, _, h⟩
/-- on to a place with as many open loops -/
theorem Stk.to {C : List IK} {M i j k : Nat} {y : Ins} {f : List Fr} (h : Stk C M i f) (hy : C[i]? = some (y, k)) (t : To C M i j k) : Stk C M j f := by
  obtain ⟨y', hy'⟩ := t.at_
  cases h with
  | main h1 h2 h3 h4 =>
    rw [hy] at h1
    cases h1
    exact .main hy' (t.side.mp h2) h3 h4
  | proc h1 h2 h3 h4 h5 =>
    rw [hy] at h1
    cases h1
    exact .proc hy' (by have := t.side; omega) h3 h4 h5
theorem Stk.open_ {C : List IK} {M i j k : Nat} {y : Ins} {f : List Fr} {c : Fr} (h : Stk C M i f) (hy : C[i]? = some (y, k)) (t : To C M i j (k + 1)) (hc : c.isC) : Stk C M j (f ++ [c]) := by
  obtain ⟨y', hy'⟩ := t.at_
  have all : ∀ {cs : List Fr}, (∀ c ∈ cs, c.isC) → ∀ d ∈ cs ++ [c], d.isC := fun h d hd => by
    rcases List.mem_append.mp hd with hd | hd
    · exact h d hd
    · rw [List.mem_singleton.mp hd]
      exact hc
  cases h with
  | main h1 h2 h3 h4 =>
    rw [hy] at h1
    cases h1
    exact .main hy' (t.side.mp h2) (by rw [List.length_append, h3]; rfl) (all h4)
  | proc h1 h2 h3 h4 h5 =>
    rw [hy] at h1
    cases h1
    rw [List.append_assoc, List.append_assoc]
    exact .proc hy' (by have := t.side; omega) (by rw [List.length_append, h3]; rfl) (all h4) h5
theorem Stk.close {C : List IK} {M i j m : Nat} {y : Ins} {f : List Fr} (h : Stk C M i f) (hy : C[i]? = some (y, m + 1)) (t : To C M i j m) : Stk C M j f.dropLast ∧ ∃ a b, f.getLast? = some (.cnt a b) := by
  obtain ⟨y', hy'⟩ := t.at_
  have go : ∀ {cs : List Fr}, cs.length = m + 1 → (∀ c ∈ cs, c.isC) → cs.dropLast.length = m ∧ (∀ c ∈ cs.dropLast, c.isC) ∧ cs ≠ [] ∧ ∃ a b, cs.getLast? = some (.cnt a b) := fun {cs} hl h => by
    have ne : cs ≠ [] := fun z => by rw [z] at hl; cases hl
    refine ⟨by rw [List.length_dropLast, hl]; rfl, fun c hc => h c (List.dropLast_subset cs hc), ne, ?_⟩
    have hm := List.getLast_mem ne
    rw [List.getLast?_eq_some_getLast ne]
    have hc := h _ hm
    generalize cs.getLast ne = c at hc
    cases c with
    | adr n => exact absurd hc id
    | cnt a b => exact ⟨a, b, rfl⟩
  cases h with
  | main h1 h2 h3 h4 =>
    rw [hy] at h1
    cases h1
    obtain ⟨g1, g2, _, g3⟩ := go h3 h4
    exact ⟨.main hy' (t.side.mp h2) g1 g2, g3⟩
  | proc h1 h2 h3 h4 h5 =>
    rw [hy] at h1
    cases h1
    obtain ⟨g1, g2, ne, g3⟩ := go h3 h4
    obtain ⟨a, b, hg⟩ := g3
    rw [← List.append_assoc, List.dropLast_append_of_ne_nil ne, List.append_assoc, List.getLast?_append, hg]
    exact ⟨.proc hy' (by have := t.side; omega) g1 g2 h5, a, b, rfl⟩
theorem Stk.back {C : List IK} {M i : Nat} {y : Ins} {f : List Fr} (h : Stk C M i f) (hy : C[i]? = some (y, 0)) (hm : M ≤ i) : ∃ j, f.getLast? = some (.adr j) ∧ Stk C M j f.dropLast := by
  cases h with
  | main h1 h2 h3 h4 => omega
  | @proc _ j _ _ _ rest h1 h2 h3 h4 h5 =>
    rw [hy] at h1
    cases h1
    obtain rfl := List.length_eq_zero_iff.mp h3
    rw [List.append_nil, List.getLast?_concat, List.dropLast_concat]
    exact ⟨j, rfl, h5⟩
/-! one step keeps what holds -/
theorem natAbs_add (a b : Int) : (a + b).natAbs ≤ a.natAbs + b.natAbs := Int.natAbs_add_le a b
theorem sum_bd {names : List Str} {u : List Int} {B : Nat} (hu : ∀ x, (atV names u x).natAbs ≤ B) : ∀ (ts : List (Int × Str)) (a : Int), (∀ t ∈ ts, t.1.natAbs ≤ 1009) → (ts.foldl (fun a t => a + t.1 * atV names u t.2) a).natAbs ≤ a.natAbs + ts.length * (1009 * B)
  | [], a, _ => by simp
  | t :: r, a, h => by
    rw [List.foldl_cons]
    have ih := sum_bd hu r (a + t.1 * atV names u t.2) fun t ht => h t (List.mem_cons_of_mem _ ht)
    have h1 := natAbs_add a (t.1 * atV names u t.2)
    rw [Int.natAbs_mul] at h1
    have h2 := Nat.mul_le_mul (h t List.mem_cons_self) (hu t.2)
    rw [List.length_cons, Nat.succ_mul]
    omega
theorem getD_bd {u : List Int} {B : Nat} (h : ∀ x ∈ u, x.natAbs ≤ B) (i : Nat) : (u.getD i 0).natAbs ≤ B := by
  rw [List.getD_eq_getElem?_getD]
  cases e : u[i]? with
  | none => simp
  | some x => exact h x (List.mem_of_getElem? e)
theorem val_bd {names : List Str} {u : List Int} {k : Int} {n : Nat} {e : Ex} (lo : e.Lo) (ok : e.Ok names) (hk : k.natAbs ≤ 10 ^ 20) (m1 : 1 ≤ lastV u) (m2 : lastV u ≤ 3 ^ n) (hu : ∀ x ∈ u, x.natAbs ≤ 10 ^ 21 * (10 ^ 6) ^ n) : (e.val names u k).1.natAbs ≤ 10 ^ 21 * (10 ^ 6) ^ (n + 1) := by
  have h3 : (3 : Nat) ^ n ≤ (10 ^ 6) ^ n := Nat.pow_le_pow_left (by decide) n
  have hm : (lastV u).natAbs ≤ (10 ^ 6) ^ n := by
    have : ((3 ^ n : Nat) : Int) = 3 ^ n := by push_cast; rfl
    omega
  have hp : (10 ^ 6) ^ (n + 1) = (10 ^ 6) ^ n * 10 ^ 6 := by first | exact Nat.pow_succ _ _ | exact Nat.pow_succ
  generalize (10 ^ 6) ^ (n + 1) = P1 at hp ⊢
  generalize (10 ^ 6) ^ n = P at *
  cases e with
  | sum s =>
    show (smVal names u s).natAbs ≤ _
    have h1 := sum_bd (names := names) (u := u) (B := 10 ^ 21 * P) (fun x => getD_bd hu _) s.ts (s.c * lastV u) lo.2.2
    rw [Int.natAbs_mul] at h1
    have h2 := Nat.mul_le_mul lo.1 hm
    have h4 := Nat.mul_le_mul_right (1009 * (10 ^ 21 * P)) ok.len
    unfold smVal
    omega
  | read =>
    show (k * lastV u).natAbs ≤ _
    rw [Int.natAbs_mul]
    have h2 := Nat.mul_le_mul hk hm
    omega
  | two a b c =>
    show (k * lastV u).natAbs ≤ _
    rw [Int.natAbs_mul]
    have h2 := Nat.mul_le_mul hk hm
    omega
theorem div_bd (x : Int) (g : Nat) : (x / (g : Int)).natAbs ≤ x.natAbs := by
  exact Int.natAbs_ediv_le_natAbs x g
theorem lowV_len (u : List Int) : (lowV u).length = u.length := List.length_map _
theorem lowV_bd {u : List Int} {B : Nat} (h : ∀ x ∈ u, x.natAbs ≤ B) : ∀ x ∈ lowV u, x.natAbs ≤ B := fun x hx => by
  obtain ⟨y, hy, rfl⟩ := List.mem_map.mp hx
  exact Nat.le_trans (div_bd y _) (h y hy)
theorem gcd_low {u : List Int} {x : Int} (hx : x ∈ u) (x0 : x ≠ 0) : gcdL (lowV u) = 1 := by
  obtain ⟨g1, _⟩ := gcdL_pos hx x0
  have key : gcdL u * gcdL (lowV u) ∣ gcdL u * 1 := by
    rw [Nat.mul_one]
    refine dvd_gcdL fun y hy => ?_
    have h1 : gcdL (lowV u) ∣ (y / (gcdL u : Int)).natAbs := gcdL_dvd (List.mem_map.mpr ⟨y, hy, rfl⟩)
    rw [(over g1 (gcdL_dvd hy)).2.1]
    exact Nat.mul_dvd_mul_left _ h1
  exact Nat.dvd_one.mp (Nat.dvd_of_mul_dvd_mul_left g1 key)
theorem last_low {u : List Int} (h : u ≠ []) (m1 : 1 ≤ lastV u) : 1 ≤ lastV (lowV u) ∧ lastV (lowV u) ≤ lastV u := by
  have hl : u.length - 1 < u.length := by
    have := List.length_pos_iff.mpr h
    omega
  have hm : lastV u ∈ u := by
    unfold lastV
    rw [List.getD_eq_getElem?_getD, List.getElem?_eq_getElem hl]
    exact List.getElem_mem hl
  obtain ⟨g1, g2⟩ := gcdL_pos hm (by omega)
  have e : lastV (lowV u) = lastV u / (gcdL u : Int) := by
    unfold lastV lowV
    rw [List.length_map, List.getD_eq_getElem?_getD, List.getElem?_map, List.getElem?_eq_getElem hl, List.getD_eq_getElem?_getD, List.getElem?_eq_getElem hl]
    rfl
  obtain ⟨h1, h2, h3⟩ := over g1 (gcdL_dvd hm)
  rw [e]
  constructor
  · have : 0 < lastV u / (gcdL u : Int) := by
      rcases Int.lt_or_le 0 (lastV u / (gcdL u : Int)) with h | h
      · exact h
      · have : (gcdL u : Int) * (lastV u / (gcdL u : Int)) ≤ 0 := Int.mul_nonpos_of_nonneg_of_nonpos (by omega) h
        omega
    omega
  · omega
end Pg

set_option Elab.async false
set_option linter.all false
set_option maxRecDepth 100000
set_option maxHeartbeats 4000000
namespace Pg
open PySem
theorem getD_of {u : List Int} {i : Nat} (h : i < u.length) : u.getD i 0 = u[i] := by
  rw [List.getD_eq_getElem?_getD, List.getElem?_eq_getElem h]
  rfl
theorem lastV_set {u : List Int} {i : Nat} {z : Int} (h : i + 1 < u.length) : lastV (u.set i z) = lastV u := by
  unfold lastV
  rw [List.length_set, getD_of (by rw [List.length_set]; omega), getD_of (by omega), List.getElem_set_ne (by omega)]
theorem lastV_map {u : List Int} {d : Int} (h : 1 ≤ u.length) : lastV (u.map (d * ·)) = d * lastV u := by
  unfold lastV
  rw [List.length_map, getD_of (by rw [List.length_map]; omega), getD_of (by omega), List.getElem_map]
theorem swap_gcd {u : List Int} {i j : Nat} (hi : i < u.length) (hj : j < u.length) (h : gcdL u = 1) : gcdL ((u.set i u[j]).set j u[i]) = 1 := by
  refine Nat.dvd_one.mp (h ▸ dvd_gcdL fun x hx => gcdL_dvd ?_)
  obtain ⟨k, hk, rfl⟩ := List.mem_iff_getElem.mp hx
  by_cases e1 : k = i
  · subst e1
    exact List.mem_iff_getElem.mpr ⟨j, by rw [List.length_set, List.length_set]; exact hj, by rw [List.getElem_set_self]⟩
  · by_cases e2 : k = j
    · subst e2
      exact List.mem_iff_getElem.mpr ⟨i, by rw [List.length_set, List.length_set]; exact hi, by rw [List.getElem_set_ne e1, List.getElem_set_self]⟩
    · exact List.mem_iff_getElem.mpr ⟨k, by rw [List.length_set, List.length_set]; exact hk, by rw [List.getElem_set_ne (fun z => e2 z.symm), List.getElem_set_ne (fun z => e1 z.symm)]⟩
theorem big_mono (n : Nat) : 10 ^ 21 * (10 ^ 6) ^ n ≤ 10 ^ 21 * (10 ^ 6) ^ (n + 1) := Nat.mul_le_mul_left _ (Nat.pow_le_pow_right (by decide) (Nat.le_succ n))
theorem big_step (n : Nat) : 3 * (10 ^ 21 * (10 ^ 6) ^ n) ≤ 10 ^ 21 * (10 ^ 6) ^ (n + 1) := by
  have hp : (10 ^ 6) ^ (n + 1) = (10 ^ 6) ^ n * 10 ^ 6 := by first | exact Nat.pow_succ _ _ | exact Nat.pow_succ
  generalize (10 ^ 6) ^ (n + 1) = P1 at hp ⊢
  generalize (10 ^ 6) ^ n = P at *
  omega
theorem three_mono (n : Nat) : (3 : Int) ^ n ≤ 3 ^ (n + 1) := by
  have := Nat.pow_le_pow_right (n := 3) (by decide) (Nat.le_succ n)
  have h : ((3 ^ n : Nat) : Int) ≤ ((3 ^ (n + 1) : Nat) : Int) := by exact_mod_cast this
  push_cast at h
  exact h
theorem three_step (n : Nat) : (3 : Int) * 3 ^ n = 3 ^ (n + 1) := by
  rw [Int.pow_succ, Int.mul_comm]
theorem m_mem {u : List Int} (h : 1 ≤ u.length) : lastV u ∈ u := by
  unfold lastV
  rw [getD_of (by omega)]
  exact List.getElem_mem _
/-- only the address and the stack change -/
theorem Rs.Ok.move {p : Pt} {n : Nat} {s : Rs} (h : s.Ok p n) {i : Nat} {f : List Fr} (st : Stk p.ins p.M i f) (fl : f.length ≤ n + 1)
    (fb : ∀ a b, Fr.cnt a b ∈ f → a.natAbs ≤ 10 ^ 21 * (10 ^ 6) ^ (n + 1) ∧ b.natAbs ≤ 10 ^ 21 * (10 ^ 6) ^ (n + 1)) : Rs.Ok p (n + 1) ⟨i, s.vec, f⟩ :=
  ⟨st, h.len, h.m1, Int.le_trans h.m2 (three_mono n), fun x hx => Nat.le_trans (h.bd x hx) (big_mono n), h.gcd, fl, fb⟩
theorem Rs.Ok.fb1 {p : Pt} {n : Nat} {s : Rs} (h : s.Ok p n) : ∀ a b, Fr.cnt a b ∈ s.fr → a.natAbs ≤ 10 ^ 21 * (10 ^ 6) ^ (n + 1) ∧ b.natAbs ≤ 10 ^ 21 * (10 ^ 6) ^ (n + 1) := fun a b hm =>
  ⟨Nat.le_trans (h.fb a b hm).1 (big_mono n), Nat.le_trans (h.fb a b hm).2 (big_mono n)⟩
theorem Rs.Ok.vecs {p : Pt} {n : Nat} {s : Rs} (h : s.Ok p n) {i : Nat} {u : List Int} (st : Stk p.ins p.M i s.fr) (len : u.length = p.names.length + 1) (m1 : 1 ≤ lastV u) (m2 : lastV u ≤ 3 ^ (n + 1)) (bd : ∀ x ∈ u, x.natAbs ≤ 10 ^ 21 * (10 ^ 6) ^ (n + 1)) (g : gcdL u = 1) : Rs.Ok p (n + 1) ⟨i, u, s.fr⟩ :=
  ⟨st, len, m1, m2, bd, g, Nat.le_succ_of_le h.fl, h.fb1⟩
theorem idx_lt {p : Pt} {u : List Int} {x : Str} (h : x ∈ p.names) (hl : u.length = p.names.length + 1) : p.names.idxOf x + 1 < u.length := by
  have := List.idxOf_lt_length_of_mem h
  omega
/-- what a set makes, before it is reduced -/
theorem set_raw {p : Pt} {n : Nat} {s : Rs} (h : s.Ok p n) {x : Str} {e : Ex} {k : Int} (hx : x ∈ p.names) (ok : e.Ok p.names) (lo : e.Lo) (hk : k.natAbs ≤ 10 ^ 20) :
    ((Ins.set x e).res p.names s.vec k).length = p.names.length + 1 ∧ 1 ≤ lastV ((Ins.set x e).res p.names s.vec k) ∧ lastV ((Ins.set x e).res p.names s.vec k) ≤ 3 ^ (n + 1) ∧ ∀ z ∈ (Ins.set x e).res p.names s.vec k, z.natAbs ≤ 10 ^ 21 * (10 ^ 6) ^ (n + 1) := by
  obtain ⟨d1, d3⟩ := val_d (u := s.vec) (k := k) lo ok
  have hv := val_bd lo ok hk h.m1 h.m2 h.bd
  have hix := idx_lt hx h.len
  have lm : (s.vec.map ((e.val p.names s.vec k).2 * ·)).length = s.vec.length := List.length_map _
  show ((s.vec.map ((e.val p.names s.vec k).2 * ·)).set _ _).length = _ ∧ 1 ≤ lastV ((s.vec.map ((e.val p.names s.vec k).2 * ·)).set _ _) ∧ lastV ((s.vec.map ((e.val p.names s.vec k).2 * ·)).set _ _) ≤ _ ∧ ∀ z ∈ (s.vec.map ((e.val p.names s.vec k).2 * ·)).set _ _, _
  rw [lastV_set (by rw [lm]; exact hix), lastV_map (by omega), List.length_set, lm]
  generalize (e.val p.names s.vec k).2 = d at d1 d3 ⊢
  have m1 := h.m1
  refine ⟨h.len, ?_, ?_, fun z hz => ?_⟩
  · have := Int.mul_le_mul d1 m1 (by decide) (by omega)
    omega
  · rw [← three_step]
    exact Int.mul_le_mul d3 h.m2 (by omega) (by decide)
  · rcases List.mem_or_eq_of_mem_set hz with hz | rfl
    · obtain ⟨y, hy, rfl⟩ := List.mem_map.mp hz
      rw [Int.natAbs_mul]
      have h1 := Nat.mul_le_mul (show d.natAbs ≤ 3 by omega) (h.bd y hy)
      exact Nat.le_trans h1 (big_step n)
    · exact hv
theorem begin_raw {p : Pt} {n : Nat} {s : Rs} (h : s.Ok p n) {e : Ex} {k : Int} (ok : e.Ok p.names) (lo : e.Lo) (hk : k.natAbs ≤ 10 ^ 20) :
    1 ≤ (e.val p.names s.vec k).2 * lastV s.vec ∧ (∀ z ∈ [(e.val p.names s.vec k).1, (e.val p.names s.vec k).2 * lastV s.vec], z.natAbs ≤ 10 ^ 21 * (10 ^ 6) ^ (n + 1)) := by
  obtain ⟨d1, d3⟩ := val_d (u := s.vec) (k := k) lo ok
  have hv := val_bd lo ok hk h.m1 h.m2 h.bd
  have m1 := h.m1
  constructor
  · have := Int.mul_le_mul d1 m1 (by decide) (by omega)
    omega
  · intro z hz
    rcases List.mem_cons.mp hz with rfl | hz
    · exact hv
    · rw [List.mem_singleton.mp hz, Int.natAbs_mul]
      have h1 := Nat.mul_le_mul (show (e.val p.names s.vec k).2.natAbs ≤ 3 by omega) (h.bd _ (m_mem (by rw [h.len]; omega)))
      exact Nat.le_trans h1 (big_step n)
/-- one step -/
theorem Rs.Ok.step {p : Pt} (f : p.Fine) (lo : p.Lo) {n : Nat} {s : Rs} (h : s.Ok p n) {y : IK} (hy : p.ins[s.at_]? = some y) (hs : y.1 ≠ .stop) {k : Int} (hk : k.natAbs ≤ 10 ^ 20) : (s.step p y.1 k).Ok p (n + 1) := by
  have fl := Pt.flow f hy
  have iok := Pt.ins_ok f y (List.mem_of_getElem? hy)
  have ilo := Pt.ins_lo lo y (List.mem_of_getElem? hy)
  obtain ⟨y1, kk⟩ := y
  have hfl := Nat.le_succ_of_le h.fl
  have ne : s.vec ≠ [] := fun z => by
    have := h.len
    rw [z] at this
    cases this
  cases y1 with
  | set x e =>
    obtain ⟨r1, r2, r3, r4⟩ := set_raw h iok.1 iok.2 ilo hk
    have hne : (Ins.set x e).res p.names s.vec k ≠ [] := fun z => by
      rw [z] at r1
      cases r1
    obtain ⟨l1, l2⟩ := last_low hne r2
    exact h.vecs (h.stk.to hy fl) (by rw [lowV_len]; exact r1) l1 (Int.le_trans l2 r3) (lowV_bd r4) (gcd_low (m_mem (by rw [r1]; omega)) (fun z => by rw [z] at r2; exact absurd r2 (by decide)))
  | swap x z =>
    have h1 := idx_lt iok.1 h.len
    have h2 := idx_lt iok.2.1 h.len
    have er : (Ins.swap x z).res p.names s.vec k = (s.vec.set (p.names.idxOf x) (s.vec[p.names.idxOf z]'(by omega))).set (p.names.idxOf z) (s.vec[p.names.idxOf x]'(by omega)) := by
      show (s.vec.set _ (s.vec.getD _ 0)).set _ (s.vec.getD _ 0) = _
      rw [getD_of (by omega), getD_of (by omega)]
    refine h.vecs (h.stk.to hy fl) ?_ ?_ ?_ ?_ ?_
    · rw [er, List.length_set, List.length_set]
      exact h.len
    · rw [er, lastV_set (by rw [List.length_set]; exact h2), lastV_set h1]
      exact h.m1
    · rw [er, lastV_set (by rw [List.length_set]; exact h2), lastV_set h1]
      exact Int.le_trans h.m2 (three_mono n)
    · intro w hw
      rw [er] at hw
      refine Nat.le_trans (h.bd w ?_) (big_mono n)
      rcases List.mem_or_eq_of_mem_set hw with hw | rfl
      · rcases List.mem_or_eq_of_mem_set hw with hw | rfl
        · exact hw
        · exact List.getElem_mem _
      · exact List.getElem_mem _
    · rw [er]
      exact swap_gcd (by omega) (by omega) h.gcd
  | print e => exact h.move (h.stk.to hy fl) hfl h.fb1
  | test e m =>
    refine h.move ?_ hfl h.fb1
    show Stk p.ins p.M (if decide (k = 0) then m else s.at_ + 1) s.fr
    split
    · exact h.stk.to hy fl.2
    · exact h.stk.to hy fl.1
  | go m w => exact h.move (h.stk.to hy fl) hfl h.fb1
  | again m => exact h.move (h.stk.to hy fl) hfl h.fb1
  | bgn e =>
    obtain ⟨b1, b2⟩ := begin_raw h iok ilo hk
    have b3 := lowV_bd b2
    refine h.move (h.stk.open_ hy fl trivial) (by rw [List.length_append]; show _ + 1 ≤ _; have := h.fl; omega) fun a b hm => ?_
    rcases List.mem_append.mp hm with hm | hm
    · exact h.fb1 a b hm
    · have := List.mem_singleton.mp hm
      injection this with e1 e2
      rw [e1, e2]
      exact ⟨getD_bd b3 0, getD_bd b3 1⟩
  | turn m =>
    obtain ⟨m', rfl, t1, t2⟩ := fl
    show Rs.Ok p (n + 1) (if k = 0 then ⟨m, s.vec, s.fr.dropLast⟩ else ⟨s.at_ + 1, s.vec, s.fr⟩)
    split
    · exact h.move (h.stk.close hy t2).1 (by rw [List.length_dropLast]; have := h.fl; omega) fun a b hm => h.fb1 a b (List.dropLast_subset _ hm)
    · exact h.move (h.stk.to hy t1) hfl h.fb1
  | call x =>
    obtain ⟨t1, m, hm, hM, y', hy'⟩ := fl
    show Rs.Ok p (n + 1) ⟨(p.entN x).getD 0, s.vec, s.fr ++ [.adr (s.at_ + 1)]⟩
    rw [hm]
    have st : Stk p.ins p.M m (s.fr ++ ([.adr (s.at_ + 1)] ++ [])) := .proc hy' hM rfl (fun c hc => by cases hc) (h.stk.to hy t1)
    refine h.move st (by rw [List.length_append]; show _ + 1 ≤ _; have := h.fl; omega) fun a b hm => ?_
    rcases List.mem_append.mp hm with hm | hm
    · exact h.fb1 a b hm
    · cases List.mem_singleton.mp hm
  | stop => exact absurd rfl hs
  | ret =>
    obtain ⟨rfl, hM⟩ := fl
    obtain ⟨j, hj, st⟩ := h.stk.back hy hM
    show Rs.Ok p (n + 1) ⟨(match s.fr.getLast? with | some (.adr j) => j | _ => 0), s.vec, s.fr.dropLast⟩
    rw [hj]
    exact h.move st (by rw [List.length_dropLast]; have := h.fl; omega) fun a b hm => h.fb1 a b (List.dropLast_subset _ hm)
/-- the beginning -/
theorem Rs.ok0 {p : Pt} (f : p.Fine) {u : List Int} (hl : u.length = p.names.length) (hb : ∀ x ∈ u, x.natAbs ≤ 10 ^ 20) : Rs.Ok p 0 ⟨0, u ++ [1], []⟩ := by
  have el : lastV (u ++ [1]) = 1 := by
    unfold lastV
    rw [List.length_append]
    show (u ++ [1]).getD u.length 0 = 1
    rw [getD_of (by rw [List.length_append]; show _ < _ + 1; omega)]
    simp
  obtain ⟨y, hy⟩ := p.start f
  refine ⟨.main hy (by show 0 < blSz p.m + 1; omega) rfl (fun c hc => by cases hc), by rw [List.length_append, hl]; rfl, by rw [el]; decide, by rw [el]; decide, fun x hx => ?_, ?_, Nat.le_refl _, fun a b hm => by cases hm⟩
  · rcases List.mem_append.mp hx with hx | hx
    · have := hb x hx
      omega
    · rw [List.mem_singleton.mp hx]
      decide
  · exact Nat.dvd_one.mp (gcdL_dvd (u := u ++ [1]) (x := 1) (by simp))
end Pg

set_option Elab.async false
set_option linter.all false
set_option maxRecDepth 100000
set_option maxHeartbeats 4000000
namespace Sp1
open PySem PySem.Spec PyProof.Rows L2 Pg
abbrev s_fr_init : Stmt := inClass (top 66) 0
abbrev N_fr_init : List Str := ["self", "program", "start", "choices", "name"]
theorem sc_fr_init : FnScope N_fr_init ["self", "program", "start", "choices"] (defScope s_fr_init) := ⟨rfl, rfl, rfl, by decide +kernel, rfl, by decide +kernel, by decide +kernel⟩
abbrev s_fr_perform : Stmt := inClass (top 66) 1
abbrev N_fr_perform : List Str := ["self", "instruction", "word"]
theorem sc_fr_perform : FnScope N_fr_perform ["self"] (defScope s_fr_perform) := ⟨rfl, rfl, rfl, by decide +kernel, rfl, by decide +kernel, by decide +kernel⟩
abbrev s_fr_next_choice : Stmt := inClass (top 66) 2
abbrev N_fr_next_choice : List Str := ["self", "word", "choice"]
theorem sc_fr_next_choice : FnScope N_fr_next_choice ["self", "word"] (defScope s_fr_next_choice) := ⟨rfl, rfl, rfl, by decide +kernel, rfl, by decide +kernel, by decide +kernel⟩
abbrev s_fr_move : Stmt := inClass (top 66) 3
abbrev N_fr_move : List Str := ["self", "instruction", "choice", "word", "entry", "divisor"]
theorem sc_fr_move : FnScope N_fr_move ["self", "instruction", "choice"] (defScope s_fr_move) := ⟨rfl, rfl, rfl, by decide +kernel, rfl, by decide +kernel, by decide +kernel⟩
structure FrC (K : PySem.W.Frag) (mg : Str → Option Value) where
  C : Addr
  g : mg "FreeRun" = some (.ref C)
  cl : Cls K C
  n_moves : NoAttr K C "moves"
  n_address : NoAttr K C "address"
  n_vector : NoAttr K C "vector"
  n_frames : NoAttr K C "frames"
  n_used : NoAttr K C "used"
  n__choices : NoAttr K C "_choices"
  f_init : Addr
  fd_init : FuncData
  M_init : Mk K C f_init
  F_init : Fun K "__init__" "FreeRun.__init__" s_fr_init f_init fd_init
  b_init : L2.Binds K fd_init ["self", "program", "start", "choices"] []
  f_perform : Addr
  fd_perform : FuncData
  M_perform : Meth K C "perform" f_perform
  F_perform : Fun K "perform" "FreeRun.perform" s_fr_perform f_perform fd_perform
  b_perform : L2.Binds K fd_perform ["self"] []
  f_next_choice : Addr
  fd_next_choice : FuncData
  M_next_choice : Meth K C "_next_choice" f_next_choice
  F_next_choice : Fun K "_next_choice" "FreeRun._next_choice" s_fr_next_choice f_next_choice fd_next_choice
  b_next_choice : L2.Binds K fd_next_choice ["self", "word"] []
  f_move : Addr
  fd_move : FuncData
  M_move : Meth K C "_move" f_move
  F_move : Fun K "_move" "FreeRun._move" s_fr_move f_move fd_move
  b_move : L2.Binds K fd_move ["self", "instruction", "choice"] []
theorem putF_len {f : Str} {y v : V} : ∀ {fs : List (Str × V)}, fs.lookup f = some v → (putF f y fs).length = fs.length
  | [], h => by cases h
  | (g, x) :: r, h => by
    unfold putF
    split
    · rfl
    · rename_i hg
      unfold List.lookup at h
      have : (f == g) = false := beq_eq_false_iff_ne.mpr fun z => hg z.symm
      rw [this] at h
      rw [List.length_cons, List.length_cons, putF_len h]
/-- the fields of a free run -/
structure FF (fs : List (Str × V)) (mv a vec fr us ch : V) : Prop where
  l : fs.length < 100
  mv : fs.lookup ("moves" : Str) = some mv
  a : fs.lookup ("address" : Str) = some a
  vec : fs.lookup ("vector" : Str) = some vec
  fr : fs.lookup ("frames" : Str) = some fr
  us : fs.lookup ("used" : Str) = some us
  ch : fs.lookup ("_choices" : Str) = some ch
  n1 : fs.lookup ("perform" : Str) = none
  n2 : fs.lookup ("_next_choice" : Str) = none
  n3 : fs.lookup ("_move" : Str) = none
section
variable {fs : List (Str × V)} {mv a vec fr us ch z : V}
theorem FF.setA (h : FF fs mv a vec fr us ch) : FF (putF "address" z fs) mv z vec fr us ch :=
  ⟨by rw [putF_len h.a]; exact h.l, lk_ne (by decide +kernel) h.mv, lk_eq, lk_ne (by decide +kernel) h.vec, lk_ne (by decide +kernel) h.fr, lk_ne (by decide +kernel) h.us, lk_ne (by decide +kernel) h.ch, lk_ne (by decide +kernel) h.n1, lk_ne (by decide +kernel) h.n2, lk_ne (by decide +kernel) h.n3⟩
theorem FF.setV (h : FF fs mv a vec fr us ch) : FF (putF "vector" z fs) mv a z fr us ch :=
  ⟨by rw [putF_len h.vec]; exact h.l, lk_ne (by decide +kernel) h.mv, lk_ne (by decide +kernel) h.a, lk_eq, lk_ne (by decide +kernel) h.fr, lk_ne (by decide +kernel) h.us, lk_ne (by decide +kernel) h.ch, lk_ne (by decide +kernel) h.n1, lk_ne (by decide +kernel) h.n2, lk_ne (by decide +kernel) h.n3⟩
theorem FF.setU (h : FF fs mv a vec fr us ch) : FF (putF "used" z fs) mv a vec fr z ch :=
  ⟨by rw [putF_len h.us]; exact h.l, lk_ne (by decide +kernel) h.mv, lk_ne (by decide +kernel) h.a, lk_ne (by decide +kernel) h.vec, lk_ne (by decide +kernel) h.fr, lk_eq, lk_ne (by decide +kernel) h.ch, lk_ne (by decide +kernel) h.n1, lk_ne (by decide +kernel) h.n2, lk_ne (by decide +kernel) h.n3⟩
theorem FF.made : FF (putF "_choices" ch (putF "used" us (putF "frames" fr (putF "vector" vec (putF "address" a (putF "moves" mv [])))))) mv a vec fr us ch := by
  refine ⟨?_, ?_, ?_, ?_, ?_, ?_, lk_eq, ?_, ?_, ?_⟩
  · exact Nat.lt_trans (putF_lt (putF_lt (putF_lt (putF_lt (putF_lt (putF_lt (n := 1) (by decide))))))) (by decide)
  · exact lk_ne (by decide +kernel) (lk_ne (by decide +kernel) (lk_ne (by decide +kernel) (lk_ne (by decide +kernel) (lk_ne (by decide +kernel) lk_eq))))
  · exact lk_ne (by decide +kernel) (lk_ne (by decide +kernel) (lk_ne (by decide +kernel) (lk_ne (by decide +kernel) lk_eq)))
  · exact lk_ne (by decide +kernel) (lk_ne (by decide +kernel) (lk_ne (by decide +kernel) lk_eq))
  · exact lk_ne (by decide +kernel) (lk_ne (by decide +kernel) lk_eq)
  · exact lk_ne (by decide +kernel) lk_eq
  · exact lk_ne (by decide +kernel) (lk_ne (by decide +kernel) (lk_ne (by decide +kernel) (lk_ne (by decide +kernel) (lk_ne (by decide +kernel) (lk_ne (by decide +kernel) rfl)))))
  · exact lk_ne (by decide +kernel) (lk_ne (by decide +kernel) (lk_ne (by decide +kernel) (lk_ne (by decide +kernel) (lk_ne (by decide +kernel) (lk_ne (by decide +kernel) rfl)))))
  · exact lk_ne (by decide +kernel) (lk_ne (by decide +kernel) (lk_ne (by decide +kernel) (lk_ne (by decide +kernel) (lk_ne (by decide +kernel) (lk_ne (by decide +kernel) rfl)))))
theorem mf8_nomoves {iv ov nv ev rv cv dv pv : V} : (mf8 iv ov nv ev rv cv dv pv).lookup ("moves" : Str) = none := mf8_none (by decide +kernel) (by decide +kernel) (by decide +kernel) (by decide +kernel) (by decide +kernel) (by decide +kernel) (by decide +kernel) (by decide +kernel)
end
/-- all but two places stand as they stood -/
def SY (x f : Addr) (H H' : Hp) : Prop := ∀ b o, b ≠ x → b ≠ f → H b = some o → H' b = some o
theorem SY.trans {x f : Addr} {H H1 H2 : Hp} (a : SY x f H H1) (b : SY x f H1 H2) : SY x f H H2 := fun c o h1 h2 h => b c o h1 h2 (a c o h1 h2 h)
theorem Same.sy {x f : Addr} {H H' : Hp} (s : Same H H') : SY x f H H' := fun b o _ _ h => s b o h
theorem sy_x {x f : Addr} {H : Hp} {o : HO} : SY x f H (upd H x o) := fun b u h1 _ e => by rw [upd_ne h1]; exact e
theorem sy_f {x f : Addr} {H : Hp} {o : HO} : SY x f H (upd H f o) := fun b u _ h1 e => by rw [upd_ne h1]; exact e
/-- choices, in a list or a tuple -/
def ChAt (K : PySem.W.Frag) (H : Hp) (c : Addr) (cs : List Int) : Prop := SqL K H c (cs.map V.int) ∨ SqT K H c (cs.map V.int)
/-- a free run at x, its stack at f -/
structure FrAt (K : PySem.W.Frag) (C MC : Addr) (H : Hp) (x f : Addr) (p : Pt) (s : Rs) (us : Nat) (c : Addr) (cs : List Int) : Prop where
  ex : ∃ (dx m v : Addr) (fs : List (Str × V)) (xs : List V), H x = some (.ins C dx fs) ∧ FF fs (.ref m) (.int (s.at_ : Int)) (.ref v) (.ref f) (.int (us : Int)) (.ref c) ∧ MvAt K MC H m p ∧ SqT K H v (s.vec.map V.int) ∧ H f = some (.lst xs) ∧ DpAll K H xs (s.fr.map Fr.D)
  ch : ChAt K H c cs
  cf : c ≠ f
theorem frD_tup : ∀ (l : List Fr), tupAll (l.map Fr.D) = true := fun l => tupAll_iff.mpr fun d hd => by
  obtain ⟨y, _, rfl⟩ := List.mem_map.mp hd
  cases y <;> rfl
/-- the parts of the moves stand apart from both -/
theorem MvAt.sy {K : PySem.W.Frag} {C MC x f m dx : Addr} {fs : List (Str × V)} {z : V} {xs : List V} {H H' : Hp} {p : Pt} (h : MvAt K MC H m p) (pf : p.Fine) (hx : H x = some (.ins C dx fs)) (hz : fs.lookup ("moves" : Str) = some z) (hf : H f = some (.lst xs)) (s : SY x f H H') : MvAt K MC H' m p := by
  obtain ⟨dx', iv, ov, nv, ev, rv, cv, dv, pv, h1, h2, h3, h4⟩ := h
  have tk : TK H H' := ⟨fun b ys hb => s b _ (ne_of hb hx (by intro z; cases z)) (ne_of hb hf (by intro z; cases z)) hb, fun b o u hb => s b _ (ne_of hb hx (by intro z; cases z)) (ne_of hb hf (by intro z; cases z)) hb⟩
  have hm : m ≠ x := fun e => by
    rw [e, hx] at h1
    injection h1 with h1
    injection h1 with _ _ h1
    rw [h1, mf8_nomoves] at hz
    cases hz
  exact ⟨dx', iv, ov, nv, ev, rv, cv, dv, pv, s _ _ hm (ne_of h1 hf (by intro z; cases z)) h1, h2.tk (code_tupD pf) tk, s _ _ (ne_of h3 hx (by intro z; cases z)) (ne_of h3 hf (by intro z; cases z)) h3, s _ _ (ne_of h4 hx (by intro z; cases z)) (ne_of h4 hf (by intro z; cases z)) h4⟩
theorem tk_sy {C x f dx : Addr} {fs : List (Str × V)} {xs : List V} {H H' : Hp} (hx : H x = some (.ins C dx fs)) (hf : H f = some (.lst xs)) (s : SY x f H H') : TK H H' :=
  ⟨fun b ys hb => s b _ (ne_of hb hx (by intro z; cases z)) (ne_of hb hf (by intro z; cases z)) hb, fun b o u hb => s b _ (ne_of hb hx (by intro z; cases z)) (ne_of hb hf (by intro z; cases z)) hb⟩
theorem ChAt.sy {K : PySem.W.Frag} {C x f c dx : Addr} {fs : List (Str × V)} {xs : List V} {H H' : Hp} {cs : List Int} (h : ChAt K H c cs) (cf : c ≠ f) (hx : H x = some (.ins C dx fs)) (hf : H f = some (.lst xs)) (s : SY x f H H') : ChAt K H' c cs := by
  rcases h with h | h
  · refine .inl ?_
    rcases h with (h | ⟨o, h⟩) | h
    · exact .inl (.inl (s _ _ (ne_of h hx (by intro z; cases z)) cf h))
    · exact .inl (.inr ⟨o, s _ _ (ne_of h hx (by intro z; cases z)) cf h⟩)
    · exact .inr h
  · exact .inr ((tk_sy hx hf s).sqt h)
theorem FrAt.same {K : PySem.W.Frag} {C MC x f c : Addr} {H H' : Hp} {p : Pt} {s : Rs} {us : Nat} {cs : List Int} (h : FrAt K C MC H x f p s us c cs) (pf : p.Fine) (e : Same H H') : FrAt K C MC H' x f p s us c cs := by
  obtain ⟨⟨dx, m, v, fs, xs, h1, h2, h3, h4, h5, h6⟩, h7, h8⟩ := h
  exact ⟨⟨dx, m, v, fs, xs, e _ _ h1, h2, h3.same pf e, Same.sqt e h4, e _ _ h5, dpAll_keep (Same.tk e) h6 (frD_tup _)⟩, h7.sy h8 h1 h5 (Same.sy e), h8⟩
section
variable {P : Program} {w : World} {K : PySem.W.Frag} {mg : Str → Option Value} {base : Heap}
/-- a choice that may be taken -/
def ChOk (y : Ins) (us : Nat) (cs : List Int) : Prop := y.need ≠ 0 → us < cs.length ∧ (y.need = 2 → cs.getD us 0 = 0 ∨ cs.getD us 0 = 1)
def kOf (y : Ins) (us : Nat) (cs : List Int) : Int := if y.need = 0 then 0 else cs.getD us 0
def usOf (y : Ins) (us : Nat) : Nat := if y.need = 0 then us else us + 1
def vOf (y : Ins) (us : Nat) (cs : List Int) : V := if y.need = 0 then .non else .int (cs.getD us 0)
def sp_next (K : PySem.W.Frag) (C MC : Addr) : Sp := fun vs H Q _ => ∃ (x f c : Addr) (p : Pt) (s : Rs) (us : Nat) (cs : List Int) (y : IK), vs = [.ref x, .str y.1.word] ∧ FrAt K C MC H x f p s us c cs ∧ p.Fine ∧ p.ins[s.at_]? = some y ∧ y.1.tag < 8 ∧ ChOk y.1 us cs ∧ cs.length ≤ 1000 ∧
  ∀ H', SX x H H' → FrAt K C MC H' x f p s (usOf y.1 us) c cs → Q (vOf y.1 us cs) H'
theorem ok_next (T : MvF K mg) (MC : MvC K mg) (C : FrC K mg) : FnOk P w K mg base CX0 3 C.f_next_choice C.fd_next_choice ["self", "word"] (sp_next K C.C MC.C) := by
  refine C.F_next_choice.ok sc_fr_next_choice (fun vs H Q E h => ?_) (fun cdv A outer s H vs Q E hr h => ?_)
  · obtain ⟨x, f, c, p, s, us, cs, y, rfl, _⟩ := h
    rfl
  · obtain ⟨x, f, c, p, st, us, cs, y, rfl, hf, pf, hy, ht, hc, cl, q⟩ := h
    have nd := sc_fr_next_choice.nd
    obtain ⟨⟨dx, m, v, fs, xs, h1, h2, h3, h4, h5, h6⟩, h7, h8⟩ := id hf
    obtain ⟨mdx, miv, mov, mnv, mev, mrv, mcv, mdv, mpv, hm1, _⟩ := id h3
    refine ⟨_, (pss_cons (ps_if (pt_cmpR (op_eqD hr.units) (pe_meth (pe_fld (pv 0) rfl) MC.cl MC.M_choices (ok_mv_choices T MC) (hr.mono (by decide)) MC.b_choices .nil pass0 (pa_cons (pe_fld (pv 0) rfl) pa_nil)) (pe_tup (pa_cons pe_non pa_nil)) (nomark _))
      (pss_one (ps_ret pe_non))
      pss_nil)
      (pss_cons (ps_if (pt_cmpR op_eq (pe_fld (pv 0) rfl) (pe_callB call_len_seq (by rfl) T.m_len PySem.boot_len (pa_cons (pe_fld (pv 0) rfl) pa_nil)) (nomark _))
      (pss_one ps_never)
      pss_nil)
      (pss_cons (ps_set (i := 2) nd rfl (.inl rfl) (pe_ix ix_seq (pe_fld (pv 0) rfl) (pe_fld (pv 0) rfl) (fun _ _ => rfl)))
      (pss_cons (ps_if (PW.pt (pw_and (pt_cmpR op_in_seq (pv 1) (pe_tup (pa_cons pe_str (pa_cons pe_str pa_nil))) (by with_unfolding_all rfl)) (pw_and1 (pt_cmpR op_notIn_seq (pv 2) (pe_tup (pa_cons pe_int (pa_cons pe_int pa_nil))) (by with_unfolding_all rfl)))))
      (pss_one ps_never)
      pss_nil)
      (pss_cons (ps_fldaug (pv 0) pe_int in_add)
      (pss_one (ps_ret (pv 2)))))))), ?_⟩
    refine ⟨_, rfl, x, C.C, dx, _, _, rfl, h1, C.cl, C.n_moves, h2.mv, m, mdx, _, rfl, hm1, mf8_choices, _, rfl, x, C.C, dx, _, _, rfl, h1, C.cl, C.n_address, h2.a, ?_⟩
    refine ⟨m, p, st.at_, y, rfl, h3, pf, hy, ht, fun H1 t1 s1 hT1 => ?_⟩
    refine ⟨small (by show 1 ≤ 5000; decide), fun t2 n2 => ?_⟩
    have s2 := same_new (o := HO.tup [.non]) n2
    have h2' : (upd H1 t2 (HO.tup [.non])) t2 = some (HO.tup [.non]) := upd_same
    generalize upd H1 t2 (HO.tup [.non]) = H2 at s2 h2' ⊢
    have s02 := s1.trans s2
    have hf2 := hf.same pf s02
    by_cases h0 : y.1.need = 0
    · have e1 : chV y.1 = [.non] := if_pos h0
      rw [e1] at hT1
      refine ⟨.tuple [.none], .tuple [.none], .tup (Same.sqt s2 hT1) (.cons .non .nil), .tup (SqT.of h2') (.cons .non .nil), by decide +kernel, by decide +kernel, ?_⟩
      rw [show PyData.eqv (.tuple [.none]) (.tuple [.none]) = true by decide +kernel]
      refine ⟨_, rfl, iteT ?_⟩
      have := q H2 (Same.sx s02) (by rw [show usOf y.1 us = us from if_pos h0]; exact hf2)
      rw [show vOf y.1 us cs = .non from if_pos h0] at this
      exact this
    have e1 : chV y.1 = [.int 1, .int 0] := if_neg h0
    rw [e1] at hT1
    obtain ⟨hus, hway⟩ := hc h0
    refine ⟨.tuple [.int 1, .int 0], .tuple [.none], .tup (Same.sqt s2 hT1) (.cons (.int 1) (.cons (.int 0) .nil)), .tup (SqT.of h2') (.cons .non .nil), by decide +kernel, by decide +kernel, ?_⟩
    rw [show PyData.eqv (.tuple [.int 1, .int 0]) (.tuple [.none]) = false by decide +kernel]
    refine ⟨_, rfl, iteF ?_⟩
    refine tNextI ?_
    have hx2 := s02 _ _ h1
    have hc2 := hf2.ch
    refine ⟨_, rfl, x, C.C, dx, _, _, rfl, hx2, C.cl, C.n_used, h2.us, _, rfl, x, C.C, dx, _, _, rfl, hx2, C.cl, C.n__choices, h2.ch, c, _, rfl, hc2, rfl, ?_⟩
    rw [decide_eq_false (show ¬ V.int (us : Int) = V.int (((cs.map V.int).length : Nat) : Int) from fun z => by
      have := V.int.inj z
      rw [List.length_map] at this
      omega)]
    refine ⟨_, rfl, iteF ?_⟩
    refine tNextI ?_
    have hat : (cs.map V.int)[us]? = some (.int (cs.getD us 0)) := by
      rw [List.getElem?_map, List.getElem?_eq_getElem hus, getD_of hus]
      rfl
    refine ⟨_, rfl, x, C.C, dx, _, _, rfl, hx2, C.cl, C.n__choices, h2.ch, _, rfl, x, C.C, dx, _, _, rfl, hx2, C.cl, C.n_used, h2.us, ?_⟩
    have pick : ∀ {Q' : V → Hp → Prop}, Q' (.int (cs.getD us 0)) H2 → rIx K (.ref c) (.int (us : Int)) H2 Q' := fun hq => by
      rcases hc2 with hc2 | hc2
      · exact .inl ⟨c, _, _, _, rfl, rfl, hc2, atI_nat hat, hq⟩
      · exact .inr (.inl ⟨c, _, _, _, rfl, rfl, hc2, atI_nat hat, hq⟩)
    refine pick ?_
    generalize hk : cs.getD us 0 = k at *
    refine gn (σ' := [some (.ref x), some (.str y.1.word), some (.int k)]) rfl ?_
    refine ⟨_, rfl, small (by show 2 ≤ 5000; decide), fun t3 n3 => ?_⟩
    have s3 := same_new (o := HO.tup [.str "test", .str "turn"]) n3
    have h3' : (upd H2 t3 (HO.tup [.str "test", .str "turn"])) t3 = some (HO.tup [.str "test", .str "turn"]) := upd_same
    generalize upd H2 t3 (HO.tup [.str "test", .str "turn"]) = H3 at s3 h3' ⊢
    have s03 := s02.trans s3
    refine ⟨t3, _, rfl, .inr (SqT.of h3'), rfl, rfl, ?_⟩
    have done : ∀ {H4 : Hp}, Same H H4 → Q (.int k) (upd H4 x (.ins C.C dx (putF "used" (.int ((us : Int) + 1)) fs))) := fun {H4} s4 => by
      have hx4 := s4 _ _ h1
      have := q (upd H4 x (.ins C.C dx (putF "used" (.int ((us : Int) + 1)) fs))) ((Same.sx s4).trans sx_put) (by
        rw [show usOf y.1 us = us + 1 from if_neg h0]
        have sy : SY x f H4 (upd H4 x (.ins C.C dx (putF "used" (.int ((us : Int) + 1)) fs))) := sy_x
        have hf4 := s4 _ _ h5
        have fx : f ≠ x := ne_of h5 h1 (by intro z; cases z)
        have hu' : FF (putF "used" (.int ((us : Int) + 1)) fs) (.ref m) (.int (st.at_ : Int)) (.ref v) (.ref f) (.int ((us + 1 : Nat) : Int)) (.ref c) := by
          have := h2.setU (z := .int ((us : Int) + 1))
          rw [show ((us + 1 : Nat) : Int) = (us : Int) + 1 by omega]
          exact this
        exact ⟨⟨dx, m, v, _, xs, upd_same, hu', (h3.same pf s4).sy pf hx4 h2.mv hf4 sy, (tk_sy hx4 hf4 sy).sqt (Same.sqt s4 h4), by rw [upd_ne fx]; exact hf4, dpAll_keep ((Same.tk s4).trans (tk_sy hx4 hf4 sy)) h6 (frD_tup _)⟩, (hf.same pf s4).ch.sy h8 hx4 hf4 sy, h8⟩)
      rw [show vOf y.1 us cs = .int k from (if_neg h0).trans (by rw [hk])] at this
      exact this
    refine ⟨_, rfl, ite2 (fun e => ?_) (fun e => ?_)⟩
    · have e : L2.inV (.str y.1.word) [.str "test", .str "turn"] = true := e
      rw [y.1.tt] at e
      have hw := hway (need_way (of_decide_eq_true e))
      refine ⟨_, rfl, small (by show 2 ≤ 5000; decide), fun t4 n4 => ?_⟩
      have s4 := same_new (o := HO.tup [.int 0, .int 1]) n4
      have h4' : (upd H3 t4 (HO.tup [.int 0, .int 1])) t4 = some (HO.tup [.int 0, .int 1]) := upd_same
      generalize upd H3 t4 (HO.tup [.int 0, .int 1]) = H4 at s4 h4' ⊢
      have s04 := s03.trans s4
      refine ⟨t4, _, rfl, .inr (SqT.of h4'), rfl, rfl, ?_⟩
      have ein : (if (true : Bool) = true then !inV (.int k) [.int 0, .int 1] else inV (.int k) [.int 0, .int 1]) = false := by
        rcases hw with rfl | rfl <;> decide +kernel
      rw [ein]
      refine ⟨_, rfl, iteF ?_⟩
      refine tNextI ?_
      refine ⟨_, rfl, x, C.C, dx, _, _, rfl, s04 _ _ h1, C.cl, C.n_used, h2.us, _, _, rfl, rfl, dx, fs, s04 _ _ h1, Nat.lt_trans h2.l (by decide), ?_⟩
      exact ⟨_, rfl, done s04⟩
    · refine iteF ?_
      refine tNextI ?_
      refine ⟨_, rfl, x, C.C, dx, _, _, rfl, s03 _ _ h1, C.cl, C.n_used, h2.us, _, _, rfl, rfl, dx, fs, s03 _ _ h1, Nat.lt_trans h2.l (by decide), ?_⟩
      exact ⟨_, rfl, done s03⟩
end
end Sp1

set_option Elab.async false
set_option linter.all false
set_option maxRecDepth 100000
set_option maxHeartbeats 4000000
namespace Sp1
open PySem PySem.Spec PyProof.Rows L2 Pg
theorem cmul64 {i j : Int} (h1 : 1 ≤ j) (h2 : j ≤ 3 ^ 40) : CMul i j := by
  have h3 : (3 : Int) ^ 40 < 2 ^ 64 := by decide
  exact .inr ⟨by omega, by omega⟩
theorem three_add : ∀ (d n : Nat), (3 : Int) ^ n ≤ 3 ^ (n + d)
  | 0, n => Int.le_refl _
  | d + 1, n => Int.le_trans (three_add d n) (three_mono (n + d))
theorem three40 {n : Nat} (h : n ≤ 40) : (3 : Int) ^ n ≤ 3 ^ 40 := by
  have := three_add (40 - n) n
  rw [show n + (40 - n) = 40 by omega] at this
  exact this
theorem at_lastV {u : List Int} (h : 1 ≤ u.length) : atI (u.map V.int) (-1) = some (.int (lastV u)) := by
  have ne : u ≠ [] := fun z => by rw [z] at h; exact absurd h (by decide)
  have e : u.map V.int = u.dropLast.map V.int ++ [.int (lastV u)] := by
    conv => lhs; rw [← List.dropLast_concat_getLast ne]
    rw [List.map_append]
    congr 2
    unfold lastV
    rw [getD_of (by omega), List.getLast_eq_getElem]
    rfl
  rw [e]
  exact atI_last _ _
theorem step_else {p : Pt} {s : Rs} {y : Ins} {k : Int} (h8 : y.tag < 8) (h5 : ¬ y.tag = 5) (h6 : ¬ (y.tag = 6 ∧ k = 0)) (g : gcdL s.vec = 1) (gs : y.tag = 1 → gcdL (y.res p.names s.vec k) = 1) : s.step p y k = ⟨y.next (decide (k = 0)) s.at_, lowV (y.res p.names s.vec k), s.fr⟩ := by
  have e := lowV_one g
  cases y with
  | set x e => rfl
  | swap x z =>
    show Rs.mk _ _ _ = Rs.mk _ (lowV _) _
    rw [lowV_one (gs rfl)]
    rfl
  | print e' => show Rs.mk _ _ _ = Rs.mk _ (lowV s.vec) _; rw [e]
  | test e' n => show Rs.mk _ _ _ = Rs.mk _ (lowV s.vec) _; rw [e]
  | go n w => show Rs.mk _ _ _ = Rs.mk _ (lowV s.vec) _; rw [e]
  | again n => show Rs.mk _ _ _ = Rs.mk _ (lowV s.vec) _; rw [e]
  | bgn e' => exact absurd rfl h5
  | turn n =>
    have k0 : ¬ k = 0 := fun z => h6 ⟨rfl, z⟩
    show (if k = 0 then _ else _) = Rs.mk (if decide (k = 0) = true then n else s.at_ + 1) (lowV s.vec) _
    rw [if_neg k0, e, if_neg (by rw [decide_eq_false k0]; decide)]
  | call x => exact absurd (show (8 : Nat) < 8 from h8) (by decide)
  | stop => exact absurd (show (9 : Nat) < 8 from h8) (by decide)
  | ret => exact absurd (show (10 : Nat) < 8 from h8) (by decide)
theorem dpAll_butlast {K : PySem.W.Frag} {H : Hp} : ∀ {xs : List V} {ds : List PyData}, DpAll K H xs ds → DpAll K H xs.dropLast ds.dropLast
  | _, _, .nil => .nil
  | _, _, .cons h .nil => .nil
  | _, _, .cons h (.cons h2 r) => .cons h (dpAll_butlast (.cons h2 r))
section
variable {P : Program} {w : World} {K : PySem.W.Frag} {mg : Str → Option Value} {base : Heap}
theorem big40 {n : Nat} (h : n ≤ 40) {x : Int} (hx : x.natAbs ≤ 10 ^ 21 * (10 ^ 6) ^ n) : x.natAbs < 2 ^ 8000 := by
  have h1 : (10 ^ 6) ^ n ≤ (10 ^ 6) ^ 40 := Nat.pow_le_pow_right (by decide) h
  have h2 : 10 ^ 21 * (10 ^ 6) ^ 40 < 2 ^ 8000 := by decide +kernel
  exact Nat.lt_of_le_of_lt (Nat.le_trans hx (Nat.mul_le_mul_left _ h1)) h2
/-- the last statement of a move -/
theorem fin_addr {MC : MvC K mg} {C : FrC K mg} {D : Ends} {x a m dx : Addr} {ch : V} {e3 e4 e5 : Option V} {H : Hp} {p : Pt} {i : Nat} {y : IK} {b : Bool} {fs : List (Str × V)} {vec fr us c : V} (hx : H x = some (.ins C.C dx fs)) (ff : FF fs (.ref m) (.int (i : Int)) vec fr us c)
    (hm : MvAt K MC.C H m p) (pf : p.Fine) (hy : p.ins[i]? = some y) (hb : y.1.need = 2 → scal ch (.int 0) = true ∧ decide (ch = .int 0) = b)
    (q : ∀ H', Same H H' → D.nx [some (.ref x), some (.ref a), some ch, e3, e4, e5] (upd H' x (.ins C.C dx (putF "address" (.int (y.1.next b i : Nat)) fs)))) :
    sFld K (tVar 0) (tMeth MC.C "target" (sp_mv_target K MC.C) [] E0 (tFld K (tVar 0) "moves") (tCons (tFld K (tVar 0) "address") (tCons (tVar 2) tNil))) "address" D [some (.ref x), some (.ref a), some ch, e3, e4, e5] H := by
  obtain ⟨mdx, miv, mov, mnv, mev, mrv, mcv, mdv, mpv, hm1, _⟩ := id hm
  refine ⟨_, rfl, x, C.C, dx, _, _, rfl, hx, C.cl, C.n_moves, ff.mv, m, mdx, _, rfl, hm1, mf8_target, _, rfl, x, C.C, dx, _, _, rfl, hx, C.cl, C.n_address, ff.a, _, rfl, ?_⟩
  refine ⟨m, p, i, y, ch, b, rfl, hm, pf, hy, hb, fun H' s' => ?_⟩
  exact ⟨_, rfl, x, C.C, dx, _, rfl, s' _ _ hx, C.cl, C.n_address, Nat.lt_trans ff.l (by decide), q H' s'⟩
def sp_fr_move (K : PySem.W.Frag) (C MC : Addr) : Sp := fun vs H Q _ => ∃ (x f c a : Addr) (p : Pt) (s : Rs) (n us us0 : Nat) (cs : List Int) (y : IK) (zs : List V), vs = [.ref x, .ref a, vOf y.1 us0 cs] ∧ FrAt K C MC H x f p s us c cs ∧ p.Fine ∧ p.Lo ∧ p.ins[s.at_]? = some y ∧ y.1.tag < 8 ∧ s.Ok p n ∧ n < 40 ∧
  SqT K H a (.str y.1.word :: zs) ∧ DpAll K H zs y.1.rest ∧ (y.1.need = 2 → cs.getD us0 0 = 0 ∨ cs.getD us0 0 = 1) ∧ (kOf y.1 us0 cs).natAbs ≤ 10 ^ 20 ∧
  ∀ H', SY x f H H' → FrAt K C MC H' x f p (s.step p y.1 (kOf y.1 us0 cs)) us c cs → Q .non H'
theorem ok_fr_move (T : MvF K mg) (MC : MvC K mg) (C : FrC K mg) : FnOk P w K mg base CX0 5 C.f_move C.fd_move ["self", "instruction", "choice"] (sp_fr_move K C.C MC.C) := by
  refine C.F_move.ok sc_fr_move (fun vs H Q E h => ?_) (fun cdv A outer s H vs Q E hr h => ?_)
  · obtain ⟨x, f, c, a, p, s, n, us, us0, cs, y, zs, rfl, _⟩ := h
    rfl
  · obtain ⟨x, f, c, a, p, st, n, us, us0, cs, y, zs, rfl, hf, pf, lo, hy, ht, hok, hn, hT, hZ, hway, hkb, q⟩ := h
    have nd := sc_fr_move.nd
    obtain ⟨⟨dx, m, v, fs, xs, h1, h2, h3, h4, h5, h6⟩, h7, h8⟩ := id hf
    obtain ⟨mdx, miv, mov, mnv, mev, mrv, mcv, mdv, mpv, hm1, _⟩ := id h3
    have xl := dpAll_len h6
    rw [List.length_map] at xl
    refine ⟨_, (pss_cons (ps_set (i := 3) nd rfl (.inl rfl) (pe_ix (r := rIxT K) ix_tup (pv 1) pe_int (fun _ _ => rfl)))
      (pss_cons (ps_if (pt_cmpR op_eq (pv 3) pe_str (nomark _))
      (pss_cons (ps_asg (pe_meth (pe_fld (pv 0) rfl) MC.cl MC.M_value_entries (ok_mv_value T MC) (hr.mono (by decide)) MC.b_value_entries .nil pass0 (pa_cons (pe_ix (r := rIxT K) ix_tup (pv 1) pe_int (fun _ _ => rfl)) (pa_cons (pe_fld (pv 0) rfl) (pa_cons pe_int (pa_cons (pv 2) pa_nil))))) (pg_tup rfl (pgs_cons (pg_unl rfl (pgs_cons (pg_name (i := 4) nd rfl (.inl rfl)) pgs_nil)) (pgs_cons (pg_name (i := 5) nd rfl (.inl rfl)) pgs_nil))))
        (pss_one (ps_expr (pe_bm PySem.F.plainAttrs_list PySem.F.slot_list_append PySem.F.type_list_append mt_append (pe_fld (pv 0) rfl) (pa_cons (pe_call ((okT_divided T).mono (by decide)) hr (by rfl) T.D_divided.g T.D_divided.kp T.D_divided.b .nil pass0 (pa_cons (pe_tup (pa_cons (pv 4) (pa_cons (pe_op op_mul (pv 5) (pe_ix (r := rIxT K) ix_tup (pe_fld (pv 0) rfl) (pe_un un_neg pe_int) (fun _ _ => rfl))) pa_nil))) pa_nil)) pa_nil)))))
      (pss_one (ps_if (PW.pt (pw_and (pt_cmpR op_eq (pv 3) pe_str (nomark _)) (pw_and1 (pt_cmpR op_eq (pv 2) pe_int (nomark _)))))
        (pss_one (ps_expr (pe_bm0 PySem.F.plainAttrs_list PySem.F.slot_list_pop PySem.F.type_list_pop mt_pop (pe_fld (pv 0) rfl))))
        (pss_one (ps_fld (pv 0) (pe_call ((okL_divided T).mono (by decide)) hr (by rfl) T.D_divided.g T.D_divided.kp T.D_divided.b .nil pass0 (pa_cons (pe_meth (pe_fld (pv 0) rfl) MC.cl MC.M_result (ok_mv_result T MC) (hr.mono (by decide)) MC.b_result .nil pass0 (pa_cons (pe_fld (pv 0) rfl) (pa_cons (pe_fld (pv 0) rfl) (pa_cons pe_int (pa_cons (pv 2) pa_nil))))) pa_nil)) rfl)))))
      (pss_one (ps_fld (pv 0) (pe_meth (pe_fld (pv 0) rfl) MC.cl MC.M_target (ok_mv_target T MC) (hr.mono (by decide)) MC.b_target .nil pass0 (pa_cons (pe_fld (pv 0) rfl) (pa_cons (pv 2) pa_nil))) rfl)))), ?_⟩
    refine ⟨_, rfl, a, _, 0, _, rfl, rfl, hT, at0, ?_⟩
    refine gn (σ' := [some (.ref x), some (.ref a), some (vOf y.1 us0 cs), some (.str y.1.word), none, none]) rfl ?_
    have e5 : decide (V.str y.1.word = V.str "begin") = decide (y.1.tag = 5) := y.1.is_eq 5 (by decide)
    have e6 : decide (V.str y.1.word = V.str "turn") = decide (y.1.tag = 6) := y.1.is_eq 6 (by decide)
    refine ⟨_, rfl, rfl, ?_⟩
    rw [e5]
    refine ⟨_, rfl, ite2 (fun t5 => ?_) (fun t5 => ?_)⟩
    · obtain ⟨e, hye⟩ := tag_bgn (of_decide_eq_true (p := y.1.tag = 5) t5)
      have iok := Pt.ins_ok pf y (List.mem_of_getElem? hy)
      have ilo := Pt.ins_lo lo y (List.mem_of_getElem? hy)
      obtain ⟨y1, kk⟩ := y
      subst hye
      cases hZ with
      | cons r1 r2 =>
      cases r2
      have hcond : e.free = true → vOf (Ins.bgn e) us0 cs = .int (kOf (Ins.bgn e) us0 cs) ∧ CMul (kOf (Ins.bgn e) us0 cs) (lastV st.vec) := fun he => by
        have hnd : (Ins.bgn e).need = 1 := if_pos he
        have h0 : ¬ (Ins.bgn e).need = 0 := by rw [hnd]; decide
        unfold vOf kOf
        rw [if_neg h0, if_neg h0]
        exact ⟨rfl, cmul64 hok.m1 (Int.le_trans hok.m2 (three40 (by omega)))⟩
      generalize hk : kOf (Ins.bgn e) us0 cs = k at *
      generalize vOf (Ins.bgn e) us0 cs = ch at *
      refine ⟨_, rfl, x, C.C, dx, _, _, rfl, h1, C.cl, C.n_moves, h2.mv, m, mdx, _, rfl, hm1, mf8_value, _, rfl, a, _, 1, _, rfl, rfl, hT, at1, _, rfl, x, C.C, dx, _, _, rfl, h1, C.cl, C.n_vector, h2.vec, _, rfl, ?_⟩
      refine ⟨m, v, p, _, ch, e, st.vec, k, rfl, h3, pf, r1, iok, ilo, h4, hok.len, hcond, fun H1 t l s1 ht hl => ?_⟩
      refine ⟨t, _, rfl, ht, rfl, _, _, rfl, l, _, rfl, SqL.of hl, rfl, _, _, rfl, rfl, _, _, rfl, rfl, ?_⟩
      dsimp only [List.set]
      obtain ⟨b1, b2⟩ := begin_raw hok iok ilo hkb
      obtain ⟨d1, d3⟩ := val_d (u := st.vec) (k := k) ilo iok
      have vl := hok.len
      refine ⟨_, rfl, x, C.C, dx, _, _, rfl, s1 _ _ h1, C.cl, C.n_frames, h2.fr, .inl ⟨rfl, _, SqL.of (s1 _ _ h5)⟩, _, rfl, _, rfl, _, rfl, x, C.C, dx, _, _, rfl, s1 _ _ h1, C.cl, C.n_vector, h2.vec, _, rfl, v, _, _, _, rfl, rfl, Same.sqt s1 h4, at_lastV (by omega), _, _, rfl, rfl, .inl (by omega), small (by show 2 ≤ 5000; decide), fun t2 n2 => ?_⟩
      have s2 := same_new (o := HO.tup [.int (e.val p.names st.vec k).1, .int ((e.val p.names st.vec k).2 * lastV st.vec)]) n2
      have h2' : (upd H1 t2 (HO.tup [.int (e.val p.names st.vec k).1, .int ((e.val p.names st.vec k).2 * lastV st.vec)])) t2 = some (HO.tup [.int (e.val p.names st.vec k).1, .int ((e.val p.names st.vec k).2 * lastV st.vec)]) := upd_same
      generalize upd H1 t2 (HO.tup [.int (e.val p.names st.vec k).1, .int ((e.val p.names st.vec k).2 * lastV st.vec)]) = H2 at s2 h2' ⊢
      refine ⟨t2, [(e.val p.names st.vec k).1, (e.val p.names st.vec k).2 * lastV st.vec], rfl, SqT.of h2', by show 2 ≤ 1000; decide, ⟨_, List.mem_cons_of_mem _ List.mem_cons_self, by omega, big40 (n := n + 1) (by omega) (b2 _ (List.mem_cons_of_mem _ List.mem_cons_self))⟩, fun H3 t3 s3 ht3 => ?_⟩
      have s03 := s1.trans (s2.trans s3)
      have hx3 := s03 _ _ h1
      have hf3 := s03 _ _ h5
      refine ⟨f, xs, _, rfl, rfl, hf3, by rw [sizeLine_eq, xl]; have := hok.fl; omega, ?_⟩
      have sy4 : SY x f H3 (upd H3 f (.lst (xs ++ [.ref t3]))) := sy_f
      have fx : f ≠ x := ne_of h5 h1 (by intro z; cases z)
      have hx4 : (upd H3 f (.lst (xs ++ [.ref t3]))) x = some (.ins C.C dx fs) := by rw [upd_ne fx.symm]; exact hx3
      have hf4 : (upd H3 f (.lst (xs ++ [.ref t3]))) f = some (.lst (xs ++ [.ref t3])) := upd_same
      have tk4 : TK H3 (upd H3 f (.lst (xs ++ [.ref t3]))) := tk_sy hx3 hf3 sy4
      have hm4 := (h3.same pf s03).sy pf hx3 h2.mv hf3 sy4
      have hc4 := (hf.same pf s03).ch.sy h8 hx3 hf3 sy4
      generalize upd H3 f (.lst (xs ++ [.ref t3])) = H4 at sy4 hx4 hf4 tk4 hm4 hc4 ⊢
      refine fin_addr (b := false) hx4 h2 hm4 pf hy (fun z => by
        have : (Ins.bgn e).need = (if e.free then 1 else 0) := rfl
        rw [this] at z
        split at z <;> cases z) fun H5 s5 => ?_
      have hx5 := s5 _ _ hx4
      have hf5 := s5 _ _ hf4
      have sy6 : SY x f H5 (upd H5 x (.ins C.C dx (putF "address" (.int ((Ins.next false st.at_ (Ins.bgn e) : Nat) : Int)) fs))) := sy_x
      refine q _ ((Same.sy s03).trans (sy4.trans ((Same.sy s5).trans sy6))) ⟨⟨dx, m, v, _, xs ++ [.ref t3], upd_same, h2.setA, (hm4.same pf s5).sy pf hx5 h2.mv hf5 sy6, ((Same.tk s03).trans (tk4.trans ((Same.tk s5).trans (tk_sy hx5 hf5 sy6)))).sqt h4, by rw [upd_ne fx]; exact hf5, ?_⟩, ?_, h8⟩
      · show DpAll K _ (xs ++ [.ref t3]) ((st.fr ++ [_]).map Fr.D)
        rw [List.map_append]
        have tk6 := tk4.trans ((Same.tk s5).trans (tk_sy hx5 hf5 sy6))
        refine dpAll_snoc (dpAll_keep ((Same.tk s03).trans tk6) h6 (frD_tup _)) ?_
        exact .tup (tk6.sqt ht3) (.cons (.int _) (.cons (.int _) .nil))
      · refine ChAt.sy ?_ h8 hx5 hf5 sy6
        exact hc4.sy h8 hx4 hf4 (Same.sy s5)
    · replace t5 : ¬ y.1.tag = 5 := fun z => t5 (decide_eq_true z)
      have vl := hok.len
      have fx : f ≠ x := ne_of h5 h1 (by intro z; cases z)
      -- the target's question
      have hb : y.1.need = 2 → scal (vOf y.1 us0 cs) (.int 0) = true ∧ decide (vOf y.1 us0 cs = .int 0) = decide (kOf y.1 us0 cs = 0) := fun z => by
        have h0 : ¬ y.1.need = 0 := by rw [z]; decide
        unfold vOf kOf
        rw [if_neg h0, if_neg h0]
        exact ⟨rfl, decide_eq_decide.mpr ⟨fun z => V.int.inj z, fun z => by rw [z]⟩⟩
      -- the way of the most
      have most : ¬ (y.1.tag = 6 ∧ kOf y.1 us0 cs = 0) → sFld K (tVar 0) (tCall (sp_divL K) [] E0 (tCons (tMeth MC.C "result" (sp_mv_result K MC.C) [] E0 (tFld K (tVar 0) "moves") (tCons (tFld K (tVar 0) "address") (tCons (tFld K (tVar 0) "vector") (tCons (tC (.int 1)) (tCons (tVar 2) tNil))))) tNil)) "vector"
          { nx := sFld K (tVar 0) (tMeth MC.C "target" (sp_mv_target K MC.C) [] E0 (tFld K (tVar 0) "moves") (tCons (tFld K (tVar 0) "address") (tCons (tVar 2) tNil))) "address" { nx := fun _ H' => Q .non H', rt := Q }, rt := Q } [some (.ref x), some (.ref a), some (vOf y.1 us0 cs), some (.str y.1.word), none, none] H := fun h60 => by
        have hstep := hok.step pf lo hy (fun z => by rw [z] at ht; exact absurd (show (9 : Nat) < 8 from ht) (by decide)) hkb
        have ilo := Pt.ins_lo lo y (List.mem_of_getElem? hy)
        have iok := Pt.ins_ok pf y (List.mem_of_getElem? hy)
        have gsw : y.1.tag = 1 → gcdL (y.1.res p.names st.vec (kOf y.1 us0 cs)) = 1 := fun z => by
          obtain ⟨n1, n2, e1⟩ := tag_swap z
          have g := hstep.gcd
          rw [e1] at g ⊢
          exact g
        have es := step_else (p := p) (s := st) (y := y.1) (k := kOf y.1 us0 cs) ht t5 h60 hok.gcd gsw
        have hraw : (y.1.res p.names st.vec (kOf y.1 us0 cs)).length ≤ 1000 ∧ ∃ z ∈ y.1.res p.names st.vec (kOf y.1 us0 cs), z ≠ 0 ∧ z.natAbs < 2 ^ 8000 := by
          have l4 := pf.l4
          have nl : p.names.length ≤ 4 := by
            show (p.given ++ p.vars).length ≤ 4
            rw [List.length_append]
            exact l4
          by_cases t0 : y.1.tag = 0
          · obtain ⟨nm, e, e1⟩ := tag_set t0
            rw [e1] at iok ilo ⊢
            obtain ⟨r1, r2, r3, r4⟩ := set_raw (k := kOf (Ins.set nm e) us0 cs) hok iok.1 iok.2 ilo (by rw [← e1]; exact hkb)
            exact ⟨by omega, _, m_mem (by omega), fun z => by rw [z] at r2; exact absurd r2 (by decide), big40 (n := n + 1) (by omega) (r4 _ (m_mem (by omega)))⟩
          · by_cases t1 : y.1.tag = 1
            · have g2 := hstep.m1
              have g3 := hstep.len
              have g4 := hstep.bd
              rw [es] at g2 g3 g4
              have ev : (Rs.mk (y.1.next (decide (kOf y.1 us0 cs = 0)) st.at_) (lowV (y.1.res p.names st.vec (kOf y.1 us0 cs))) st.fr).vec = y.1.res p.names st.vec (kOf y.1 us0 cs) := lowV_one (gsw t1)
              rw [ev] at g2 g3 g4
              exact ⟨by omega, _, m_mem (by omega), fun z => by rw [z] at g2; exact absurd g2 (by decide), big40 (n := n + 1) (by omega) (g4 _ (m_mem (by omega)))⟩
            · rw [res_same t0 t1]
              have g2 := hok.m1
              exact ⟨by omega, _, m_mem (by omega), fun z => by rw [z] at g2; exact absurd g2 (by decide), big40 (n := n) (by omega) (hok.bd _ (m_mem (by omega)))⟩
        have hneed1 : y.1.need = 1 → vOf y.1 us0 cs = .int (kOf y.1 us0 cs) ∧ CMul (kOf y.1 us0 cs) (lastV st.vec) := fun z => by
          have h0 : ¬ y.1.need = 0 := by rw [z]; decide
          refine ⟨?_, cmul64 hok.m1 (Int.le_trans hok.m2 (three40 (by omega)))⟩
          unfold vOf kOf
          rw [if_neg h0, if_neg h0]
        have hturn : y.1.tag = 6 → scal (vOf y.1 us0 cs) (.int 0) = true ∧ decide (vOf y.1 us0 cs = .int 0) = false := fun z => by
          obtain ⟨b1, b2⟩ := hb (need_way (.inr z))
          exact ⟨b1, b2.trans (decide_eq_false fun k0 => h60 ⟨z, k0⟩)⟩
        refine ⟨_, rfl, x, C.C, dx, _, _, rfl, h1, C.cl, C.n_moves, h2.mv, m, mdx, _, rfl, hm1, mf8_result, _, rfl, x, C.C, dx, _, _, rfl, h1, C.cl, C.n_address, h2.a, _, rfl, x, C.C, dx, _, _, rfl, h1, C.cl, C.n_vector, h2.vec, _, rfl, ?_⟩
        refine ⟨m, v, p, st.at_, y, _, st.vec, kOf y.1 us0 cs, rfl, h3, pf, hy, t5, ilo, h4, hok.len, hturn, hneed1, fun H1 l s1 hl => ?_⟩
        refine ⟨l, _, rfl, SqL.of hl, hraw.1, hraw.2, fun H2 t s2 ht2 => ?_⟩
        have s02 := s1.trans s2
        have hx2 := s02 _ _ h1
        have hf2 := s02 _ _ h5
        refine ⟨_, rfl, x, C.C, dx, _, rfl, hx2, C.cl, C.n_vector, Nat.lt_trans h2.l (by decide), ?_⟩
        have sy3 : SY x f H2 (upd H2 x (.ins C.C dx (putF "vector" (.ref t) fs))) := sy_x
        have hx3 : (upd H2 x (.ins C.C dx (putF "vector" (.ref t) fs))) x = some (.ins C.C dx (putF "vector" (.ref t) fs)) := upd_same
        have hf3 : (upd H2 x (.ins C.C dx (putF "vector" (.ref t) fs))) f = some (.lst xs) := by rw [upd_ne fx]; exact hf2
        have tk3 : TK H2 (upd H2 x (.ins C.C dx (putF "vector" (.ref t) fs))) := tk_sy hx2 hf2 sy3
        have hm3 := (h3.same pf s02).sy pf hx2 h2.mv hf2 sy3
        have hc3 := (hf.same pf s02).ch.sy h8 hx2 hf2 sy3
        generalize upd H2 x (.ins C.C dx (putF "vector" (.ref t) fs)) = H3 at sy3 hx3 hf3 tk3 hm3 hc3 ⊢
        refine fin_addr hx3 h2.setV hm3 pf hy hb fun H4 s4 => ?_
        have hx4 := s4 _ _ hx3
        have hf4 := s4 _ _ hf3
        have sy5 : SY x f H4 (upd H4 x (.ins C.C dx (putF "address" (.int ((y.1.next (decide (kOf y.1 us0 cs = 0)) st.at_ : Nat) : Int)) (putF "vector" (.ref t) fs)))) := sy_x
        have tk5 := tk3.trans ((Same.tk s4).trans (tk_sy hx4 hf4 sy5))
        refine q _ ((Same.sy s02).trans (sy3.trans ((Same.sy s4).trans sy5))) ?_
        rw [es]
        exact ⟨⟨dx, m, t, _, xs, upd_same, h2.setV.setA, (hm3.same pf s4).sy pf hx4 h2.setV.mv hf4 sy5, tk5.sqt ht2, by rw [upd_ne fx]; exact hf4, dpAll_keep ((Same.tk s02).trans tk5) h6 (frD_tup _)⟩, ChAt.sy (hc3.sy h8 hx3 hf3 (Same.sy s4)) h8 hx4 hf4 sy5, h8⟩
      refine ⟨_, rfl, rfl, ?_⟩
      rw [e6]
      refine ⟨_, rfl, ite2 (fun t6 => ?_) (fun t6 => ?_)⟩
      · have t6 := of_decide_eq_true (p := y.1.tag = 6) t6
        obtain ⟨b1, b2⟩ := hb (need_way (.inr t6))
        refine ⟨_, rfl, b1, ?_⟩
        rw [b2]
        refine ⟨_, rfl, ite2 (fun k0 => ?_) (fun k0 => ?_)⟩
        · have k0 := of_decide_eq_true k0
          obtain ⟨nn, hye⟩ := tag_turn t6
          have fl := Pt.flow pf hy
          obtain ⟨y1, kk⟩ := y
          subst hye
          obtain ⟨m', rfl, t1, t2⟩ := fl
          obtain ⟨stk', ca, cb, hlast⟩ := hok.stk.close hy t2
          have fne : st.fr.length ≠ 0 := fun z => by
            rw [List.length_eq_zero_iff.mp z] at hlast
            cases hlast
          have hxl : xs[xs.length - 1]? = some (xs[xs.length - 1]'(by omega)) := List.getElem?_eq_getElem _
          refine ⟨_, rfl, x, C.C, dx, _, _, rfl, h1, C.cl, C.n_frames, h2.fr, .inl ⟨rfl, _, SqL.of h5⟩, f, xs, _, rfl, rfl, h5, hxl, ?_⟩
          have sy1 : SY x f H (upd H f (.lst xs.dropLast)) := sy_f
          have hx1 : (upd H f (.lst xs.dropLast)) x = some (.ins C.C dx fs) := by rw [upd_ne fx.symm]; exact h1
          have hf1 : (upd H f (.lst xs.dropLast)) f = some (.lst xs.dropLast) := upd_same
          have tk1 : TK H (upd H f (.lst xs.dropLast)) := tk_sy h1 h5 sy1
          have hm1' := h3.sy pf h1 h2.mv h5 sy1
          have hc1 := hf.ch.sy h8 h1 h5 sy1
          generalize upd H f (.lst xs.dropLast) = H1 at sy1 hx1 hf1 tk1 hm1' hc1 ⊢
          refine fin_addr hx1 h2 hm1' pf hy hb fun H2 s2 => ?_
          have hx2 := s2 _ _ hx1
          have hf2 := s2 _ _ hf1
          have sy3 : SY x f H2 (upd H2 x (.ins C.C dx (putF "address" (.int ((Ins.next (decide (kOf (Ins.turn nn) us0 cs = 0)) st.at_ (Ins.turn nn) : Nat) : Int)) fs))) := sy_x
          have tk3 := tk1.trans ((Same.tk s2).trans (tk_sy hx2 hf2 sy3))
          have es : st.step p (Ins.turn nn) (kOf (Ins.turn nn) us0 cs) = ⟨nn, st.vec, st.fr.dropLast⟩ := if_pos k0
          have en : Ins.next (decide (kOf (Ins.turn nn) us0 cs = 0)) st.at_ (Ins.turn nn) = nn := if_pos (decide_eq_true k0)
          refine q _ (sy1.trans ((Same.sy s2).trans sy3)) ?_
          rw [es]
          refine ⟨⟨dx, m, v, _, xs.dropLast, upd_same, ?_, (hm1'.same pf s2).sy pf hx2 h2.mv hf2 sy3, tk3.sqt h4, by rw [upd_ne fx]; exact hf2, ?_⟩, ChAt.sy (hc1.sy h8 hx1 hf1 (Same.sy s2)) h8 hx2 hf2 sy3, h8⟩
          · rw [en]
            exact h2.setA
          · have := dpAll_butlast (dpAll_keep tk3 h6 (frD_tup _))
            rw [← List.map_dropLast] at this
            exact this
        · exact most fun z => k0 (decide_eq_true z.2)
      · refine iteF ?_
        exact most fun z => t6 (decide_eq_true z.1)
end
end Sp1

set_option Elab.async false
set_option linter.all false
set_option maxRecDepth 100000
set_option maxHeartbeats 4000000
namespace Sp1
open PySem PySem.Spec PyProof.Rows L2 Pg
section
variable {P : Program} {w : World} {K : PySem.W.Frag} {mg : Str → Option Value} {base : Heap}
theorem dpAll_last {H : Hp} {xs : List V} {l : List Fr} {j : Nat} (h : DpAll K H xs (l.map Fr.D)) (e : l.getLast? = some (.adr j)) : xs[xs.length - 1]? = some (.int (j : Int)) := by
  have hl := dpAll_len h
  rw [List.length_map] at hl
  rw [List.getLast?_eq_getElem?] at e
  obtain ⟨v, hv, hd⟩ := dpAll_get h (i := l.length - 1) (d := (Fr.adr j).D) (by rw [List.getElem?_map, e]; rfl)
  cases hd
  rw [hl]
  exact hv
def sp_perform (K : PySem.W.Frag) (C MC : Addr) : Sp := fun vs H Q _ => ∃ (x f c : Addr) (p : Pt) (s : Rs) (n us : Nat) (cs : List Int) (y : IK), vs = [.ref x] ∧ FrAt K C MC H x f p s us c cs ∧ p.Fine ∧ p.Lo ∧ p.ins[s.at_]? = some y ∧ ¬ y.1.tag = 9 ∧ s.Ok p n ∧ n < 40 ∧ ChOk y.1 us cs ∧ (kOf y.1 us cs).natAbs ≤ 10 ^ 20 ∧ cs.length ≤ 1000 ∧
  ∀ H', SY x f H H' → FrAt K C MC H' x f p (s.step p y.1 (kOf y.1 us cs)) (usOf y.1 us) c cs → Q .non H'
theorem ok_perform (T : MvF K mg) (MC : MvC K mg) (C : FrC K mg) : FnOk P w K mg base CX0 6 C.f_perform C.fd_perform ["self"] (sp_perform K C.C MC.C) := by
  refine C.F_perform.ok sc_fr_perform (fun vs H Q E h => ?_) (fun cdv A outer s H vs Q E hr h => ?_)
  · obtain ⟨x, f, c, p, s, n, us, cs, y, rfl, _⟩ := h
    rfl
  · obtain ⟨x, f, c, p, st, n, us, cs, y, rfl, hf, pf, lo, hy, hns, hok, hn, hc, hkb, cl, q⟩ := h
    have nd := sc_fr_perform.nd
    obtain ⟨⟨dx, m, v, fs, xs, h1, h2, h3, h4, h5, h6⟩, h7, h8⟩ := id hf
    obtain ⟨mdx, ci, mov, mnv, mrv, mcv, mdv, ev, pl, ys, zs, a, hm1, hci, hi, hT, hZ⟩ := mv_ins h3 hy
    have xl := dpAll_len h6
    rw [List.length_map] at xl
    have fx : f ≠ x := ne_of h5 h1 (by intro z; cases z)
    have hfl := hok.fl
    refine ⟨_, (pss_cons (ps_set (i := 1) nd rfl (.inl rfl) (pe_ix (r := rIxT K) ix_tup (pe_fld (pe_fld (pv 0) rfl) rfl) (pe_fld (pv 0) rfl) (fun _ _ => rfl)))
      (pss_cons (ps_set (i := 2) nd rfl (.inl rfl) (pe_ix (r := rIxT K) ix_tup (pv 1) pe_int (fun _ _ => rfl)))
      (pss_cons (ps_if (pt_cmpR op_eq (pv 2) pe_str (nomark _))
      (pss_one ps_never)
      pss_nil)
      (pss_one (ps_if (pt_cmpR op_eq (pv 2) pe_str (nomark _))
      (pss_cons (ps_expr (pe_bm PySem.F.plainAttrs_list PySem.F.slot_list_append PySem.F.type_list_append mt_append (pe_fld (pv 0) rfl) (pa_cons (pe_op op_add (pe_fld (pv 0) rfl) pe_int) pa_nil)))
        (pss_one (ps_fld (pv 0) (pe_dget (hu_of hr) (pe_fld (pe_fld (pv 0) rfl) rfl) (pe_ix (r := rIxT K) ix_tup (pv 1) pe_int (fun _ _ => rfl)) (fun _ _ => rfl)) rfl)))
      (pss_one (ps_if (pt_cmpR op_eq (pv 2) pe_str (nomark _))
        (pss_one (ps_fld (pv 0) (pe_bm0 PySem.F.plainAttrs_list PySem.F.slot_list_pop PySem.F.type_list_pop mt_pop (pe_fld (pv 0) rfl)) rfl))
        (pss_one (ps_expr (pe_meth (pv 0) C.cl C.M_move (ok_fr_move T MC C) (hr.mono (by decide)) C.b_move .nil pass0 (pa_cons (pv 1) (pa_cons (pe_meth (pv 0) C.cl C.M_next_choice (ok_next T MC C) (hr.mono (by decide)) C.b_next_choice .nil pass0 (pa_cons (pv 2) pa_nil)) pa_nil)))))))))))), ?_⟩
    refine ⟨_, rfl, x, C.C, dx, _, _, rfl, h1, C.cl, C.n_moves, h2.mv, m, MC.C, mdx, _, _, rfl, hm1, MC.cl, MC.n_instructions, mf8_ins, _, rfl, x, C.C, dx, _, _, rfl, h1, C.cl, C.n_address, h2.a, ci, ys, _, _, rfl, rfl, hci, hi, ?_⟩
    refine gn (σ' := [some (.ref x), some (.ref a), none]) rfl ?_
    refine ⟨_, rfl, a, _, 0, _, rfl, rfl, hT, at0, ?_⟩
    refine gn (σ' := [some (.ref x), some (.ref a), some (.str y.1.word)]) rfl ?_
    have e8 : decide (V.str y.1.word = V.str "call") = decide (y.1.tag = 8) := y.1.is_eq 8 (by decide)
    have e9 : decide (V.str y.1.word = V.str "stop") = decide (y.1.tag = 9) := y.1.is_eq 9 (by decide)
    have e10 : decide (V.str y.1.word = V.str "return") = decide (y.1.tag = 10) := y.1.is_eq 10 (by decide)
    refine ⟨_, rfl, rfl, ?_⟩
    rw [e9, decide_eq_false hns]
    refine ⟨_, rfl, iteF ?_⟩
    refine tNextI ?_
    refine ⟨_, rfl, rfl, ?_⟩
    rw [e8]
    refine ⟨_, rfl, ite2 (fun t8 => ?_) (fun t8 => ?_)⟩
    · obtain ⟨xx, hye⟩ := tag_call (y := y.1) (of_decide_eq_true (p := y.1.tag = 8) t8)
      have iok := Pt.ins_ok pf y (List.mem_of_getElem? hy)
      obtain ⟨y1, kk⟩ := y
      subst hye
      cases hZ with
      | cons r1 r2 =>
      cases r1
      cases r2
      obtain ⟨nn, hnn, _⟩ := Pt.entry_at (p := p) (x := xx) iok
      obtain ⟨mdx', miv', mov', mnv', mev', mrv', mcv', mdv', mpv', hm1', _, hev, _⟩ := id h3
      refine ⟨_, rfl, x, C.C, dx, _, _, rfl, h1, C.cl, C.n_frames, h2.fr, .inl ⟨rfl, _, SqL.of h5⟩, _, rfl, x, C.C, dx, _, _, rfl, h1, C.cl, C.n_address, h2.a, _, _, rfl, rfl, f, xs, _, rfl, rfl, h5, by rw [sizeLine_eq, xl]; omega, ?_⟩
      have sy1 : SY x f H (upd H f (.lst (xs ++ [.int ((st.at_ : Int) + 1)]))) := sy_f
      have hx1 : (upd H f (.lst (xs ++ [.int ((st.at_ : Int) + 1)]))) x = some (.ins C.C dx fs) := by rw [upd_ne fx.symm]; exact h1
      have hf1 : (upd H f (.lst (xs ++ [.int ((st.at_ : Int) + 1)]))) f = some (.lst (xs ++ [.int ((st.at_ : Int) + 1)])) := upd_same
      have tk1 : TK H (upd H f (.lst (xs ++ [.int ((st.at_ : Int) + 1)]))) := tk_sy h1 h5 sy1
      have hm2 := h3.sy pf h1 h2.mv h5 sy1
      have hc1 := hf.ch.sy h8 h1 h5 sy1
      have hmx : m ≠ x := fun e => by
        rw [e, h1] at hm1'
        injection hm1' with hm1'
        injection hm1' with _ _ hm1'
        have := h2.mv
        rw [hm1', mf8_nomoves] at this
        cases this
      have hm3 : (upd H f (.lst (xs ++ [.int ((st.at_ : Int) + 1)]))) m = some (.ins MC.C mdx' (mf8 miv' mov' mnv' (.ref mev') mrv' mcv' mdv' (.ref mpv'))) := sy1 _ _ hmx (ne_of hm1' h5 (by intro z; cases z)) hm1'
      have hev1 : (upd H f (.lst (xs ++ [.int ((st.at_ : Int) + 1)]))) mev' = some (.dK (p.ent.map entD)) := sy1 _ _ (ne_of hev h1 (by intro z; cases z)) (ne_of hev h5 (by intro z; cases z)) hev
      generalize upd H f (.lst (xs ++ [.int ((st.at_ : Int) + 1)])) = H1 at sy1 hx1 hf1 tk1 hm2 hc1 hm3 hev1 ⊢
      refine ⟨_, rfl, x, C.C, dx, _, _, rfl, hx1, C.cl, C.n_moves, h2.mv, m, MC.C, mdx', _, _, rfl, hm3, MC.cl, MC.n_entries, mf8_ent, _, rfl, a, _, 1, _, rfl, rfl, tk1.sqt hT, at1, mev', .int (nn : Int), rfl, .inl ⟨_, Sum.inr xx, .inl hev1, rfl, (Pt.ent_val pf hnn).symm⟩, _, rfl, x, C.C, dx, _, rfl, hx1, C.cl, C.n_address, Nat.lt_trans h2.l (by decide), ?_⟩
      have sy2 : SY x f H1 (upd H1 x (.ins C.C dx (putF "address" (.int (nn : Int)) fs))) := sy_x
      have tk2 := tk1.trans (tk_sy hx1 hf1 sy2)
      have es : st.step p (Ins.call xx) (kOf (Ins.call xx) us cs) = ⟨nn, st.vec, st.fr ++ [.adr (st.at_ + 1)]⟩ := by
        show Rs.mk ((p.entN xx).getD 0) _ _ = _
        rw [hnn]
        rfl
      refine q _ (sy1.trans sy2) ?_
      rw [es]
      refine ⟨⟨dx, m, v, _, _, upd_same, h2.setA, hm2.sy pf hx1 h2.mv hf1 sy2, tk2.sqt h4, by rw [upd_ne fx]; exact hf1, ?_⟩, hc1.sy h8 hx1 hf1 sy2, h8⟩
      show DpAll K _ _ ((st.fr ++ [Fr.adr (st.at_ + 1)]).map Fr.D)
      rw [List.map_append]
      exact dpAll_snoc (dpAll_keep tk2 h6 (frD_tup _)) (.int _)
    · replace t8 : ¬ y.1.tag = 8 := fun z => t8 (decide_eq_true z)
      refine ⟨_, rfl, rfl, ?_⟩
      rw [e10]
      refine ⟨_, rfl, ite2 (fun t10 => ?_) (fun t10 => ?_)⟩
      · have t10 := of_decide_eq_true (p := y.1.tag = 10) t10
        have fl := Pt.flow pf hy
        obtain ⟨y1, kk⟩ := y
        have hye : y1 = .ret := by cases y1 <;> first | rfl | cases t10
        subst hye
        obtain ⟨rfl, hM⟩ := fl
        obtain ⟨j, hj, stk'⟩ := hok.stk.back hy hM
        have hxl := dpAll_last h6 hj
        refine ⟨_, rfl, x, C.C, dx, _, _, rfl, h1, C.cl, C.n_frames, h2.fr, .inl ⟨rfl, _, SqL.of h5⟩, f, xs, _, rfl, rfl, h5, hxl, ?_⟩
        have sy1 : SY x f H (upd H f (.lst xs.dropLast)) := sy_f
        have hx1 : (upd H f (.lst xs.dropLast)) x = some (.ins C.C dx fs) := by rw [upd_ne fx.symm]; exact h1
        have hf1 : (upd H f (.lst xs.dropLast)) f = some (.lst xs.dropLast) := upd_same
        have tk1 : TK H (upd H f (.lst xs.dropLast)) := tk_sy h1 h5 sy1
        have hm2 := h3.sy pf h1 h2.mv h5 sy1
        have hc1 := hf.ch.sy h8 h1 h5 sy1
        generalize upd H f (.lst xs.dropLast) = H1 at sy1 hx1 hf1 tk1 hm2 hc1 ⊢
        refine ⟨_, rfl, x, C.C, dx, _, rfl, hx1, C.cl, C.n_address, Nat.lt_trans h2.l (by decide), ?_⟩
        have sy2 : SY x f H1 (upd H1 x (.ins C.C dx (putF "address" (.int (j : Int)) fs))) := sy_x
        have tk2 := tk1.trans (tk_sy hx1 hf1 sy2)
        have es : st.step p Ins.ret (kOf Ins.ret us cs) = ⟨j, st.vec, st.fr.dropLast⟩ := by
          show Rs.mk (match st.fr.getLast? with | some (.adr j) => j | _ => 0) _ _ = _
          rw [hj]
        refine q _ (sy1.trans sy2) ?_
        rw [es]
        refine ⟨⟨dx, m, v, _, _, upd_same, h2.setA, hm2.sy pf hx1 h2.mv hf1 sy2, tk2.sqt h4, by rw [upd_ne fx]; exact hf1, ?_⟩, hc1.sy h8 hx1 hf1 sy2, h8⟩
        have := dpAll_butlast (dpAll_keep tk2 h6 (frD_tup _))
        rw [← List.map_dropLast] at this
        exact this
      · replace t10 : ¬ y.1.tag = 10 := fun z => t10 (decide_eq_true z)
        have ht : y.1.tag < 8 := by
          have := y.1.tag_lt
          omega
        refine ⟨_, rfl, x, dx, _, rfl, h1, h2.n3, _, rfl, _, rfl, x, dx, _, rfl, h1, h2.n2, _, rfl, ?_⟩
        refine ⟨x, f, c, p, st, us, cs, y, rfl, hf, pf, hy, ht, hc, cl, fun H1 s1 hf1 => ?_⟩
        have sy1 : SY x f H H1 := fun b o hb _ e => s1 b o hb e
        have tk1 : TK H H1 := tk_sy h1 h5 sy1
        refine ⟨x, f, c, a, p, st, n, usOf y.1 us, us, cs, y, zs, rfl, hf1, pf, lo, hy, ht, hok, hn, tk1.sqt hT, dpAll_keep tk1 hZ ?_, fun z => (hc (by rw [z]; decide)).2 z, hkb, fun H2 s2 hf2 => q _ (sy1.trans s2) hf2⟩
        have := ins_tupD pf hy
        rw [y.1.D_eq, tupD_tuple, tupAll] at this
        exact (Bool.and_eq_true _ _ ▸ this).2
end
end Sp1

set_option Elab.async false
set_option linter.all false
set_option maxRecDepth 100000
set_option maxHeartbeats 4000000
namespace Sp1
open PySem PySem.Spec PyProof.Rows L2 Pg
theorem MvAt.sx {K : PySem.W.Frag} {C MC x m dx : Addr} {fs : List (Str × V)} {H H' : Hp} {p : Pt} (h : MvAt K MC H m p) (pf : p.Fine) (hx : H x = some (.ins C dx fs)) (hm : m ≠ x) (s : SX x H H') : MvAt K MC H' m p := by
  obtain ⟨dx', iv, ov, nv, ev, rv, cv, dv, pv, h1, h2, h3, h4⟩ := h
  have tk : TK H H' := ⟨fun b ys hb => s b _ (ne_of hb hx (by intro z; cases z)) hb, fun b o u hb => s b _ (ne_of hb hx (by intro z; cases z)) hb⟩
  exact ⟨dx', iv, ov, nv, ev, rv, cv, dv, pv, s _ _ hm h1, h2.tk (code_tupD pf) tk, s _ _ (ne_of h3 hx (by intro z; cases z)) h3, s _ _ (ne_of h4 hx (by intro z; cases z)) h4⟩
theorem tk_sxi {C x dx : Addr} {fs : List (Str × V)} {H H' : Hp} (hx : H x = some (.ins C dx fs)) (s : SX x H H') : TK H H' :=
  ⟨fun b ys hb => s b _ (ne_of hb hx (by intro z; cases z)) hb, fun b o u hb => s b _ (ne_of hb hx (by intro z; cases z)) hb⟩
theorem ChAt.sx {K : PySem.W.Frag} {C x c dx : Addr} {fs : List (Str × V)} {H H' : Hp} {cs : List Int} (h : ChAt K H c cs) (hx : H x = some (.ins C dx fs)) (s : SX x H H') : ChAt K H' c cs := by
  rcases h with h | h
  · refine .inl ?_
    rcases h with (h | ⟨o, h⟩) | h
    · exact .inl (.inl (s _ _ (ne_of h hx (by intro z; cases z)) h))
    · exact .inl (.inr ⟨o, s _ _ (ne_of h hx (by intro z; cases z)) h⟩)
    · exact .inr h
  · exact .inr ((tk_sxi hx s).sqt h)
/-- a start: a dict of names to numbers -/
def StAt (H : Hp) (d : Addr) (g : Str → Option Int) : Prop := ∃ kvs : List (Key × V), H d = some (.dK kvs) ∧ ∀ x, valV kvs (Sum.inr x) = (g x).map V.int
section
variable {P : Program} {w : World} {K : PySem.W.Frag} {mg : Str → Option Value} {base : Heap}
def startV (p : Pt) (g : Str → Option Int) : List Int := p.names.map fun x => (g x).getD 0
def sp_fr_init (K : PySem.W.Frag) (PC C MC : Addr) : Sp := fun vs H Q _ => ∃ (x dx d c : Addr) (v : V) (p : Pt) (g : Str → Option Int) (cs : List Int), vs = [.ref x, v, .ref d, .ref c] ∧ H x = some (.ins C dx []) ∧ PgAt K PC H v p ∧ p.Fine ∧ p.Small ∧ StAt H d g ∧ ChAt K H c cs ∧ (∃ o, H c = some o) ∧ c ≠ x ∧
  ∀ H' f, SX x H H' → (∀ b o, b ≠ x → H b = some o → b ≠ f) → FrAt K C MC H' x f p ⟨0, startV p g ++ [1], []⟩ 0 c cs → Q .non H'
theorem ok_fr_init (T : MvF K mg) (PC : PgC K mg) (UE : PgE0 K mg PC.C) (MC : MvC K mg) (C : FrC K mg) : FnOk P w K mg base CX0 8 C.f_init C.fd_init ["self", "program", "start", "choices"] (sp_fr_init K PC.C C.C MC.C) := by
  refine C.F_init.ok sc_fr_init (fun vs H Q E h => ?_) (fun cdv A outer s H vs Q E hr h => ?_)
  · obtain ⟨x, dx, d, c, v, p, g, cs, rfl, _⟩ := h
    rfl
  · obtain ⟨x, dx, d, c, v, p, g, cs, rfl, hx, hp, f, sm, ⟨kvs, hd, hg⟩, hc, ⟨oc, hoc⟩, cnx, q⟩ := h
    have nd := sc_fr_init.nd
    have l4 := f.l4
    refine ⟨_, (pss_cons (ps_fld (pv 0) (pe_make MC.M_init (ok_mv_init T PC UE MC) (hr.mono (by decide)) rfl MC.g MC.b_init .nil pass0 (pa_cons (pv 1) pa_nil)) rfl)
      (pss_cons (ps_fld (pv 0) pe_int rfl)
      (pss_cons (ps_fld (pv 0) (pe_callTy call_tuple_of (by rfl) T.m_tuple (by decide +kernel) (pa_cons (pe_op op_cat (pe_lc (own := [("name", 4)]) (g := (gName 4)) (tt := tYes) rfl nd (pi_tup (pe_prop (pv 1) PC.cl PC.P_names (ok_names PC) (hr.mono (by decide)) PC.b_names .nil pass0 rfl)) (blkOk_by (N := N_fr_init) (sc := defScope s_fr_init) (by decide +kernel)) (fun _ _ _ _ _ => (pg_name (i := 4) nd rfl (.inl rfl))) (fun _ _ _ _ _ => pts_nil) (fun _ _ _ _ _ => (pe_dget2 (hu_of hr) (pv 2) (pv 4) pe_int ⟨rfl, rfl, rfl, rfl⟩))) (pe_lst (pa_cons pe_int pa_nil))) pa_nil)) rfl)
      (pss_cons (ps_fld (pv 0) (pe_lst pa_nil) rfl)
      (pss_cons (ps_fld (pv 0) pe_int rfl)
      (pss_one (ps_fld (pv 0) (pv 3) rfl))))))), ?_⟩
    refine ⟨_, rfl, fun m mdx nm nmdx ne => ?_⟩
    have s1 : Same H (upd (upd H mdx (.own m)) m (.ins MC.C mdx [])) := fun b o e => by
      rw [upd_ne (ne_of_none e nm), upd_ne (ne_of_none e nmdx)]
      exact e
    refine ⟨m, mdx, v, p, rfl, upd_same, hp.same f s1, f, sm, fun H2 sx2 hm => ⟨rfl, ?_⟩⟩
    have s2 : Same H H2 := fun b o e => sx2 b o (ne_of_none e nm) (s1 b o e)
    clear sx2
    have mx : m ≠ x := fun z => by rw [z, hx] at nm; cases nm
    have hx2 := s2 _ _ hx
    refine ⟨_, rfl, x, C.C, dx, _, rfl, hx2, C.cl, C.n_moves, by decide, ?_⟩
    have sx3 : SX x H (upd H2 x (.ins C.C dx (putF "moves" (.ref m) []))) := (Same.sx s2).trans sx_put
    have hx3 : (upd H2 x (.ins C.C dx (putF "moves" (.ref m) []))) x = some (.ins C.C dx (putF "moves" (.ref m) [])) := upd_same
    have hm3 : MvAt K MC.C (upd H2 x (.ins C.C dx (putF "moves" (.ref m) []))) m p := hm.sx f hx2 mx sx_put
    generalize upd H2 x (.ins C.C dx (putF "moves" (.ref m) [])) = H3 at sx3 hx3 hm3 ⊢
    refine ⟨_, rfl, x, C.C, dx, _, rfl, hx3, C.cl, C.n_address, Nat.lt_trans (putF_lt (n := 1) (by decide)) (by decide), ?_⟩
    have sx4 : SX x H (upd H3 x (.ins C.C dx (putF "address" (.int 0) (putF "moves" (.ref m) [])))) := sx3.trans sx_put
    have hx4 : (upd H3 x (.ins C.C dx (putF "address" (.int 0) (putF "moves" (.ref m) [])))) x = some (.ins C.C dx (putF "address" (.int 0) (putF "moves" (.ref m) []))) := upd_same
    have hm4 : MvAt K MC.C (upd H3 x (.ins C.C dx (putF "address" (.int 0) (putF "moves" (.ref m) [])))) m p := hm3.sx f hx3 mx sx_put
    generalize upd H3 x (.ins C.C dx (putF "address" (.int 0) (putF "moves" (.ref m) []))) = H4 at sx4 hx4 hm4 ⊢
    -- the vector
    have hp4 := hp.sxi f hx sx4
    obtain ⟨pa, pdx, pcv, pd, pgv, pvv, pqv, pmv, rfl, g1, g2, g3, g4⟩ := id hp4
    refine ⟨_, rfl, pa, pdx, _, rfl, g1, .ref pa, p, rfl, hp4, l4, fun H5 nv s5 hnv => ?_⟩
    obtain ⟨nb, rfl, hbT⟩ := hnv
    have nl : p.names.length ≤ 4 := by
      show (p.given ++ p.vars).length ≤ 4
      rw [List.length_append]
      exact l4
    have dx' : d ≠ x := ne_of hd hx (by intro z; cases z)
    have hd5 : ∀ {H' : Hp}, Same H5 H' → H' d = some (.dK kvs) := fun s' => s' _ _ (s5 _ _ (sx4 _ _ dx' hd))
    refine ⟨nb, rfl, ⟨_, hbT⟩, fun D nD => ?_⟩
    refine lc_it (walk_tup (K := K) (a := nb) (xs := p.names.map V.str)) (Acc H5 D fun j => V.int ((startV p g).getD j 0)) (Acc.start nD) (fun i H' _ h => Same.sqt h.1 hbT) ?_ ?_
    · rintro i v' H6 H7 hi ac ⟨rfl, hv⟩
      rw [List.length_map] at hi
      rw [List.getElem?_map, List.getElem?_eq_getElem hi] at hv
      cases hv
      refine ⟨rfl, ?_⟩
      dsimp only [tYes]
      refine iteT ?_
      refine ⟨_, rfl, d, rfl, .inl ⟨kvs, .inl (hd5 ac.1)⟩, _, rfl, _, .inl ⟨kvs, Sum.inr p.names[i], .inl (hd5 ac.1), rfl, rfl⟩, ?_⟩
      refine ac.turn nD (Same.refl _) (by omega) ?_
      rw [hg]
      unfold startV
      rw [List.getD_eq_getElem?_getD, List.getElem?_map, List.getElem?_eq_getElem hi]
      show (Option.map V.int (g p.names[i])).getD (V.int 0) = V.int ((g p.names[i]).getD 0)
      generalize g p.names[i] = o
      cases o <;> rfl
    · rintro H6 ⟨s6, hD⟩
      rw [List.length_map] at hD
      have hD' : H6 D = some (.lst ((startV p g).map V.int)) := by
        rw [hD]
        congr 2
        exact range_getD (by unfold startV; rw [List.length_map])
      refine ⟨small (by show 1 ≤ 5000; decide), fun l1 n1 => ?_⟩
      have s7 := same_new (o := HO.lst [.int 1]) n1
      have h7 : (upd H6 l1 (HO.lst [.int 1])) l1 = some (HO.lst [.int 1]) := upd_same
      generalize upd H6 l1 (HO.lst [.int 1]) = H7 at s7 h7 ⊢
      refine ⟨D, l1, _, _, rfl, rfl, s7 _ _ hD', h7, by rw [sizeLine_eq, List.length_map]; unfold startV; rw [List.length_map]; show _ + 1 ≤ _; omega, fun l2 n2 => ?_⟩
      have s8 := same_new (o := HO.lst ((startV p g).map V.int ++ [.int 1])) n2
      have h8 : (upd H7 l2 (HO.lst ((startV p g).map V.int ++ [.int 1]))) l2 = some (HO.lst ((startV p g).map V.int ++ [.int 1])) := upd_same
      generalize upd H7 l2 (HO.lst ((startV p g).map V.int ++ [.int 1])) = H8 at s8 h8 ⊢
      refine ⟨l2, _, rfl, .inl ⟨SqL.of h8, fun t nt => ?_⟩⟩
      have s9 := same_new (o := HO.tup ((startV p g).map V.int ++ [.int 1])) nt
      have h9 : (upd H8 t (HO.tup ((startV p g).map V.int ++ [.int 1]))) t = some (HO.tup ((startV p g).map V.int ++ [.int 1])) := upd_same
      generalize upd H8 t (HO.tup ((startV p g).map V.int ++ [.int 1])) = H9 at s9 h9 ⊢
      have s49 := (s5.trans s6).trans (s7.trans (s8.trans s9))
      have hx9 := s49 _ _ hx4
      refine ⟨_, rfl, x, C.C, dx, _, rfl, hx9, C.cl, C.n_vector, Nat.lt_trans (putF_lt (putF_lt (n := 1) (by decide))) (by decide), ?_⟩
      have sx10 : SX x H (upd H9 x (.ins C.C dx (putF "vector" (.ref t) (putF "address" (.int 0) (putF "moves" (.ref m) []))))) := (sx4.trans (Same.sx s49)).trans sx_put
      have hx10 : (upd H9 x (.ins C.C dx (putF "vector" (.ref t) (putF "address" (.int 0) (putF "moves" (.ref m) []))))) x = some (.ins C.C dx (putF "vector" (.ref t) (putF "address" (.int 0) (putF "moves" (.ref m) [])))) := upd_same
      have hm10 : MvAt K MC.C (upd H9 x (.ins C.C dx (putF "vector" (.ref t) (putF "address" (.int 0) (putF "moves" (.ref m) []))))) m p := (hm4.same f s49).sx f hx9 mx sx_put
      have tx : t ≠ x := ne_of h9 hx9 (by intro z; cases z)
      have ht10 : (upd H9 x (.ins C.C dx (putF "vector" (.ref t) (putF "address" (.int 0) (putF "moves" (.ref m) []))))) t = some (.tup ((startV p g).map V.int ++ [.int 1])) := by rw [upd_ne tx]; exact h9
      generalize upd H9 x (.ins C.C dx (putF "vector" (.ref t) (putF "address" (.int 0) (putF "moves" (.ref m) [])))) = H10 at sx10 hx10 hm10 ht10 ⊢
      -- the stack
      refine ⟨small (Nat.zero_le _), fun fr nfr => ?_⟩
      have s11 := same_new (o := HO.lst []) nfr
      have h11 : (upd H10 fr (HO.lst [])) fr = some (HO.lst []) := upd_same
      generalize upd H10 fr (HO.lst []) = H11 at s11 h11 ⊢
      have hx11 := s11 _ _ hx10
      refine ⟨_, rfl, x, C.C, dx, _, rfl, hx11, C.cl, C.n_frames, Nat.lt_trans (putF_lt (putF_lt (putF_lt (n := 1) (by decide)))) (by decide), ?_⟩
      refine ⟨_, rfl, x, C.C, dx, _, rfl, upd_same, C.cl, C.n_used, Nat.lt_trans (putF_lt (putF_lt (putF_lt (putF_lt (n := 1) (by decide))))) (by decide), ?_⟩
      refine ⟨_, rfl, _, rfl, x, C.C, dx, _, rfl, upd_same, C.cl, C.n__choices, Nat.lt_trans (putF_lt (putF_lt (putF_lt (putF_lt (putF_lt (n := 1) (by decide)))))) (by decide), ?_⟩
      have sxE : SX x H11 (upd (upd (upd H11 x (.ins C.C dx (putF "frames" (.ref fr) (putF "vector" (.ref t) (putF "address" (.int 0) (putF "moves" (.ref m) [])))))) x (.ins C.C dx (putF "used" (.int 0) (putF "frames" (.ref fr) (putF "vector" (.ref t) (putF "address" (.int 0) (putF "moves" (.ref m) []))))))) x (.ins C.C dx (putF "_choices" (.ref c) (putF "used" (.int 0) (putF "frames" (.ref fr) (putF "vector" (.ref t) (putF "address" (.int 0) (putF "moves" (.ref m) [])))))))) := (sx_put.trans sx_put).trans sx_put
      have fx : fr ≠ x := ne_of h11 hx11 (by intro z; cases z)
      have fresh : ∀ b o, b ≠ x → H b = some o → b ≠ fr := fun b o hb e => ne_of_none (sx10 _ _ hb e) nfr
      have cx : c ≠ x → c ≠ fr := fun h => fresh c oc h hoc
      refine q _ fr ((sx10.trans (Same.sx s11)).trans sxE) fresh ⟨⟨dx, m, t, _, [], upd_same, FF.made, (hm10.same f s11).sx f hx11 mx sxE, (tk_sxi hx11 sxE).sqt (SqT.of (s11 _ _ ht10)) |> fun h => (by rw [List.map_append]; exact h), sxE _ _ fx h11, .nil⟩, hc.sx hx ((sx10.trans (Same.sx s11)).trans sxE), cx cnx⟩
end
end Sp1

set_option Elab.async false
set_option linter.all false
set_option maxRecDepth 100000
set_option maxHeartbeats 4000000
namespace Sp1
open PySem PySem.Spec PyProof.Rows L2 Pg
abbrev s_check_program : Stmt := top 51
abbrev N_check_program : List Str := ["candidate"]
theorem sc_check_program : FnScope N_check_program ["candidate"] (defScope s_check_program) := ⟨rfl, rfl, rfl, by decide +kernel, rfl, by decide +kernel, by decide +kernel⟩
abbrev s_is_state : Stmt := top 52
abbrev N_is_state : List Str := ["candidate", "names", "name"]
theorem sc_is_state : FnScope N_is_state ["candidate", "names"] (defScope s_is_state) := ⟨rfl, rfl, rfl, by decide +kernel, rfl, by decide +kernel, by decide +kernel⟩
abbrev s_check_values : Stmt := top 53
abbrev N_check_values : List Str := ["candidate", "names"]
theorem sc_check_values : FnScope N_check_values ["candidate", "names"] (defScope s_check_values) := ⟨rfl, rfl, rfl, by decide +kernel, rfl, by decide +kernel, by decide +kernel⟩
abbrev s_first_wrong : Stmt := top 54
abbrev N_first_wrong : List Str := ["candidate", "position", "value"]
theorem sc_first_wrong : FnScope N_first_wrong ["candidate"] (defScope s_first_wrong) := ⟨rfl, rfl, rfl, by decide +kernel, rfl, by decide +kernel, by decide +kernel⟩
abbrev s_check_count : Stmt := top 55
abbrev N_check_count : List Str := ["candidate"]
theorem sc_check_count : FnScope N_check_count ["candidate"] (defScope s_check_count) := ⟨rfl, rfl, rfl, by decide +kernel, rfl, by decide +kernel, by decide +kernel⟩
abbrev s_check_choices : Stmt := top 65
abbrev N_check_choices : List Str := ["candidate", "position"]
theorem sc_check_choices : FnScope N_check_choices ["candidate"] (defScope s_check_choices) := ⟨rfl, rfl, rfl, by decide +kernel, rfl, by decide +kernel, by decide +kernel⟩
abbrev s_free_run : Stmt := top 67
abbrev N_free_run : List Str := ["program", "start", "choices", "steps", "run", "_"]
theorem sc_free_run : FnScope N_free_run ["program", "start", "choices", "steps"] (defScope s_free_run) := ⟨rfl, rfl, rfl, by decide +kernel, rfl, by decide +kernel, by decide +kernel⟩
structure FrF (K : PySem.W.Frag) (mg : Str → Option Value) extends MvF K mg where
  m_dict : mg "dict" = none
  f_check_program : Addr
  fd_check_program : FuncData
  D_check_program : Dn K mg "check_program" s_check_program ["candidate"] f_check_program fd_check_program
  f_is_state : Addr
  fd_is_state : FuncData
  D_is_state : Dn K mg "is_state" s_is_state ["candidate", "names"] f_is_state fd_is_state
  f_check_values : Addr
  fd_check_values : FuncData
  D_check_values : Dn K mg "check_values" s_check_values ["candidate", "names"] f_check_values fd_check_values
  f_first_wrong : Addr
  fd_first_wrong : FuncData
  D_first_wrong : Dn K mg "first_wrong" s_first_wrong ["candidate"] f_first_wrong fd_first_wrong
  f_check_count : Addr
  fd_check_count : FuncData
  D_check_count : Dn K mg "check_count" s_check_count ["candidate"] f_check_count fd_check_count
  f_check_choices : Addr
  fd_check_choices : FuncData
  D_check_choices : Dn K mg "check_choices" s_check_choices ["candidate"] f_check_choices fd_check_choices
  f_free_run : Addr
  fd_free_run : FuncData
  D_free_run : Dn K mg "free_run" s_free_run ["program", "start", "choices", "steps"] f_free_run fd_free_run
theorem ty_sqt {K : PySem.W.Frag} {H : Hp} {a : Addr} {xs : List V} (h : SqT K H a xs) : TyX K H (.ref a) (.type "tuple") := by
  rcases h with (h | ⟨o, h⟩) | ⟨o, its, n, h1, h2, _⟩
  · exact .base (.tup h)
  · exact .fTuple h
  · exact .kTuple h1 h2
/-- a start that fits the given names -/
def StG (H : Hp) (d : Addr) (p : Pt) (g : Str → Option Int) : Prop := ∃ kvs : List (Key × V), H d = some (.dK kvs) ∧ kvs.length = p.given.length ∧ (∀ x ∈ p.given, ∃ i, g x = some i) ∧ ∀ x, valV kvs (Sum.inr x) = (g x).map V.int
section
variable {P : Program} {w : World} {K : PySem.W.Frag} {mg : Str → Option Value} {base : Heap}

def sp_fwL (K : PySem.W.Frag) : Sp := fun vs H Q _ => ∃ (c : Addr) (cs : List Int), vs = [.ref c] ∧ SqL K H c (cs.map V.int) ∧ ∀ H', Same H H' → Q .non H'
theorem okL_first_wrong (T : FrF K mg) : FnOk P w K mg base CX0 2 T.f_first_wrong T.fd_first_wrong ["candidate"] (sp_fwL K) := by
  refine T.D_first_wrong.F.ok sc_first_wrong (fun vs H Q E h => ?_) (fun cdv A outer s H vs Q E hr h => ?_)
  · obtain ⟨c, cs, rfl, _⟩ := h
    rfl
  · obtain ⟨c, cs, rfl, hc, q⟩ := h
    have nd := sc_first_wrong.nd
    refine ⟨_, (pss_cons (ps_for PassesOwn.never rfl (pi_enum (by rfl) T.m_enumerate (pa_cons (pv 0) pa_nil)) (pg_tup rfl (pgs_cons (pg_name (i := 1) nd rfl (.inl rfl)) (pgs_cons (pg_name (i := 2) nd rfl (.inl rfl)) pgs_nil)))
      (pss_one (ps_if (pt_not (pt_val (pe_call ((ok_is_integer T.toMvF.toPgF).mono (by decide)) hr (by rfl) T.D_is_integer.g T.D_is_integer.kp T.D_is_integer.b .nil pass0 (pa_cons (pv 2) pa_nil))))
        (pss_one (ps_ret (pv 1)))
        pss_nil)))
      (pss_one (ps_ret pe_non))), ?_⟩
    refine ⟨_, rfl, c, _, rfl, hc, ?_⟩
    refine for_it (walk_enum (K := K) (a := c) (xs := cs.map V.int)) (fun i σ H' => Same H H' ∧ ∃ y z, σ = [some (.ref c), y, z]) ⟨Same.refl _, none, none, rfl⟩ (fun i σ H' _ h => Same.seq h.1 hc) ?_ ?_
    · rintro i x σ H1 H2 hi ⟨s1, y, z, rfl⟩ ⟨T1, x1, x2, rfl, nT, rfl, g1, g2⟩
      replace g2 : (cs.map V.int)[i]? = some x2 := g2
      rw [List.getElem?_map] at g2
      obtain ⟨k, hk, rfl⟩ := Option.map_eq_some_iff.mp g2
      refine ⟨T1, _, rfl, SqT.of upd_same, rfl, _, _, rfl, _, _, rfl, rfl, ?_⟩
      refine ⟨_, rfl, k, rfl, true, rfl, iteF ?_⟩
      exact ⟨s1.trans (same_new nT), _, _, rfl⟩
    · rintro σ H1 ⟨s1, y, z, rfl⟩
      exact q H1 s1
def sp_ccL (K : PySem.W.Frag) : Sp := fun vs H Q _ => ∃ (c : Addr) (cs : List Int), vs = [.ref c] ∧ SqL K H c (cs.map V.int) ∧ ∀ H', Same H H' → Q .non H'
theorem okL_check_choices (T : FrF K mg) : FnOk P w K mg base CX0 3 T.f_check_choices T.fd_check_choices ["candidate"] (sp_ccL K) := by
  refine T.D_check_choices.F.ok sc_check_choices (fun vs H Q E h => ?_) (fun cdv A outer s H vs Q E hr h => ?_)
  · obtain ⟨c, cs, rfl, _⟩ := h
    rfl
  · obtain ⟨c, cs, rfl, hc, q⟩ := h
    have nd := sc_check_choices.nd
    refine ⟨_, (pss_cons (ps_if (pt_not (pt_val (pe_callB call_isiT (by rfl) T.m_isinstance (by decide +kernel) (pa_cons (pv 0) (pa_cons (pe_tup (pa_cons (pe_ty (n := "list") (by rfl) T.m_list (by decide +kernel)) (pa_cons (pe_ty (n := "tuple") (by rfl) T.m_tuple (by decide +kernel)) pa_nil))) pa_nil)))))
      (pss_one ps_never)
      pss_nil)
      (pss_cons (ps_set (i := 1) nd rfl (.inl rfl) (pe_call ((okL_first_wrong T).mono (by decide)) hr (by rfl) T.D_first_wrong.g T.D_first_wrong.kp T.D_first_wrong.b .nil pass0 (pa_cons (pv 0) pa_nil)))
      (pss_one (ps_if (pt_cmpR op_notN (pv 1) pe_non (nomark _))
      (pss_one ps_never)
      pss_nil)))), ?_⟩
    refine ⟨_, rfl, small (by show 2 ≤ 5000; decide), fun t nt => ?_⟩
    have s1 := same_new (o := HO.tup [.ty "list", .ty "tuple"]) nt
    have h1 : (upd H t (HO.tup [.ty "list", .ty "tuple"])) t = some (HO.tup [.ty "list", .ty "tuple"]) := upd_same
    generalize upd H t (HO.tup [.ty "list", .ty "tuple"]) = H1 at s1 h1 ⊢
    have tyL : TyX K H1 (.ref c) (.type "list") := by
      rcases s1.seq hc with (h | ⟨o, h⟩) | ⟨o, its, n, h1, h2, _⟩
      · exact .base (.lst h)
      · exact .base (.frz h)
      · exact .kList h1 h2
    refine ⟨.ref c, t, _, .type "list", [.type "list", .type "tuple"], true, rfl, h1, .cons (.ty _) (.cons (.ty _) .nil), tyL, kitAny_cons (b := true) (kit_ty (by decide +kernel)) (fun z => by cases z) (fun _ => rfl), true, rfl, ?_⟩
    refine iteF ?_
    refine tNextI ?_
    refine ⟨_, rfl, c, cs, rfl, Same.seq s1 hc, fun H2 s2 => ?_⟩
    refine gn (σ' := [some (.ref c), some .non]) rfl ?_
    refine ⟨_, rfl, rfl, ?_⟩
    refine ⟨_, rfl, iteF ?_⟩
    exact q H2 (s1.trans s2)

def sp_fwT (K : PySem.W.Frag) : Sp := fun vs H Q _ => ∃ (c : Addr) (cs : List Int), vs = [.ref c] ∧ SqT K H c (cs.map V.int) ∧ ∀ H', Same H H' → Q .non H'
theorem okT_first_wrong (T : FrF K mg) : FnOk P w K mg base CX0 2 T.f_first_wrong T.fd_first_wrong ["candidate"] (sp_fwT K) := by
  refine T.D_first_wrong.F.ok sc_first_wrong (fun vs H Q E h => ?_) (fun cdv A outer s H vs Q E hr h => ?_)
  · obtain ⟨c, cs, rfl, _⟩ := h
    rfl
  · obtain ⟨c, cs, rfl, hc, q⟩ := h
    have nd := sc_first_wrong.nd
    refine ⟨_, (pss_cons (ps_for PassesOwn.never rfl (pi_enumT (by rfl) T.m_enumerate (pa_cons (pv 0) pa_nil)) (pg_tup rfl (pgs_cons (pg_name (i := 1) nd rfl (.inl rfl)) (pgs_cons (pg_name (i := 2) nd rfl (.inl rfl)) pgs_nil)))
      (pss_one (ps_if (pt_not (pt_val (pe_call ((ok_is_integer T.toMvF.toPgF).mono (by decide)) hr (by rfl) T.D_is_integer.g T.D_is_integer.kp T.D_is_integer.b .nil pass0 (pa_cons (pv 2) pa_nil))))
        (pss_one (ps_ret (pv 1)))
        pss_nil)))
      (pss_one (ps_ret pe_non))), ?_⟩
    refine ⟨_, rfl, c, _, rfl, hc, ?_⟩
    refine for_it (walk_enumT (K := K) (a := c) (xs := cs.map V.int)) (fun i σ H' => Same H H' ∧ ∃ y z, σ = [some (.ref c), y, z]) ⟨Same.refl _, none, none, rfl⟩ (fun i σ H' _ h => Same.sqt h.1 hc) ?_ ?_
    · rintro i x σ H1 H2 hi ⟨s1, y, z, rfl⟩ ⟨T1, x1, x2, rfl, nT, rfl, g1, g2⟩
      replace g2 : (cs.map V.int)[i]? = some x2 := g2
      rw [List.getElem?_map] at g2
      obtain ⟨k, hk, rfl⟩ := Option.map_eq_some_iff.mp g2
      refine ⟨T1, _, rfl, SqT.of upd_same, rfl, _, _, rfl, _, _, rfl, rfl, ?_⟩
      refine ⟨_, rfl, k, rfl, true, rfl, iteF ?_⟩
      exact ⟨s1.trans (same_new nT), _, _, rfl⟩
    · rintro σ H1 ⟨s1, y, z, rfl⟩
      exact q H1 s1
def sp_ccT (K : PySem.W.Frag) : Sp := fun vs H Q _ => ∃ (c : Addr) (cs : List Int), vs = [.ref c] ∧ SqT K H c (cs.map V.int) ∧ ∀ H', Same H H' → Q .non H'
theorem okT_check_choices (T : FrF K mg) : FnOk P w K mg base CX0 3 T.f_check_choices T.fd_check_choices ["candidate"] (sp_ccT K) := by
  refine T.D_check_choices.F.ok sc_check_choices (fun vs H Q E h => ?_) (fun cdv A outer s H vs Q E hr h => ?_)
  · obtain ⟨c, cs, rfl, _⟩ := h
    rfl
  · obtain ⟨c, cs, rfl, hc, q⟩ := h
    have nd := sc_check_choices.nd
    refine ⟨_, (pss_cons (ps_if (pt_not (pt_val (pe_callB call_isiT (by rfl) T.m_isinstance (by decide +kernel) (pa_cons (pv 0) (pa_cons (pe_tup (pa_cons (pe_ty (n := "list") (by rfl) T.m_list (by decide +kernel)) (pa_cons (pe_ty (n := "tuple") (by rfl) T.m_tuple (by decide +kernel)) pa_nil))) pa_nil)))))
      (pss_one ps_never)
      pss_nil)
      (pss_cons (ps_set (i := 1) nd rfl (.inl rfl) (pe_call ((okT_first_wrong T).mono (by decide)) hr (by rfl) T.D_first_wrong.g T.D_first_wrong.kp T.D_first_wrong.b .nil pass0 (pa_cons (pv 0) pa_nil)))
      (pss_one (ps_if (pt_cmpR op_notN (pv 1) pe_non (nomark _))
      (pss_one ps_never)
      pss_nil)))), ?_⟩
    refine ⟨_, rfl, small (by show 2 ≤ 5000; decide), fun t nt => ?_⟩
    have s1 := same_new (o := HO.tup [.ty "list", .ty "tuple"]) nt
    have h1 : (upd H t (HO.tup [.ty "list", .ty "tuple"])) t = some (HO.tup [.ty "list", .ty "tuple"]) := upd_same
    generalize upd H t (HO.tup [.ty "list", .ty "tuple"]) = H1 at s1 h1 ⊢
    have s1x := s1
    refine ⟨.ref c, t, _, .type "tuple", [.type "list", .type "tuple"], true, rfl, h1, .cons (.ty _) (.cons (.ty _) .nil), ty_sqt (Same.sqt s1 hc), kitAny_cons (b := false) (kit_ty (by decide +kernel)) (fun _ => kitAny_cons (b := true) (kit_ty (by decide +kernel)) (fun z => by cases z) fun _ => rfl) (fun z => by cases z), true, rfl, ?_⟩
    refine iteF ?_
    refine tNextI ?_
    refine ⟨_, rfl, c, cs, rfl, Same.sqt s1 hc, fun H2 s2 => ?_⟩
    refine gn (σ' := [some (.ref c), some .non]) rfl ?_
    refine ⟨_, rfl, rfl, ?_⟩
    refine ⟨_, rfl, iteF ?_⟩
    exact q H2 (s1.trans s2)

def sp_ccount : Sp := fun vs H Q _ => ∃ n : Nat, vs = [.int (n : Int)] ∧ Q .non H
theorem ok_check_count (T : FrF K mg) : FnOk P w K mg base CX0 2 T.f_check_count T.fd_check_count ["candidate"] sp_ccount := by
  refine T.D_check_count.F.ok sc_check_count (fun vs H Q E h => ?_) (fun cdv A outer s H vs Q E hr h => ?_)
  · obtain ⟨n, rfl, _⟩ := h
    rfl
  · obtain ⟨n, rfl, q⟩ := h
    have nd := sc_check_count.nd
    refine ⟨_, (pss_one (ps_if (PW.pt (pw_or (pt_not (pt_val (pe_call ((ok_is_integer T.toMvF.toPgF).mono (by decide)) hr (by rfl) T.D_is_integer.g T.D_is_integer.kp T.D_is_integer.b .nil pass0 (pa_cons (pv 0) pa_nil)))) (pw_or1 (pt_cmpR op_lt (pv 0) pe_int (nomark _)))))
      (pss_one ps_never)
      pss_nil)), ?_⟩
    refine ⟨_, rfl, (n : Int), rfl, true, rfl, iteF ?_⟩
    refine ⟨_, rfl, _, _, rfl, rfl, _, rfl, ite2 (fun e => ?_) (fun e => q)⟩
    have : (n : Int) < 0 := of_decide_eq_true e
    omega
def sp_cprog (K : PySem.W.Frag) (PC : Addr) : Sp := fun vs H Q _ => ∃ (v : V) (p : Pt), vs = [v] ∧ PgAt K PC H v p ∧ Q .non H
theorem ok_check_program (T : FrF K mg) (PC : PgC K mg) : FnOk P w K mg base CX0 2 T.f_check_program T.fd_check_program ["candidate"] (sp_cprog K PC.C) := by
  refine T.D_check_program.F.ok sc_check_program (fun vs H Q E h => ?_) (fun cdv A outer s H vs Q E hr h => ?_)
  · obtain ⟨v, p, rfl, _⟩ := h
    rfl
  · obtain ⟨v, p, rfl, ⟨a, dx, cv, d, gv, vv, qv, mv, rfl, h1, _⟩, q⟩ := h
    have nd := sc_check_program.nd
    refine ⟨_, (pss_one (ps_if (pt_not (pt_val (pe_callB call_isi (by rfl) T.m_isinstance (by decide +kernel) (pa_cons (pv 0) (pa_cons (pe_glob (v := .ref PC.C) rfl PC.g rfl) pa_nil)))))
      (pss_one ps_never)
      pss_nil)), ?_⟩
    have ty := ty_ins h1 PC.cl PC.is
    refine ⟨_, rfl, .ref a, .ref PC.C, _, _, true, rfl, .own PC.C, ty, kit_self, true, rfl, iteF q⟩
def sp_is_state (K : PySem.W.Frag) : Sp := fun vs H Q _ => ∃ (d : Addr) (v : V) (p : Pt) (g : Str → Option Int), vs = [.ref d, v] ∧ StG H d p g ∧ Ts K H v p.given ∧ p.given.length ≤ 4 ∧ ∀ H', Same H H' → Q (.bl true) H'
theorem ok_is_state (T : FrF K mg) : FnOk P w K mg base CX0 2 T.f_is_state T.fd_is_state ["candidate", "names"] (sp_is_state K) := by
  refine T.D_is_state.F.ok sc_is_state (fun vs H Q E h => ?_) (fun cdv A outer s H vs Q E hr h => ?_)
  · obtain ⟨d, v, p, g, rfl, _⟩ := h
    rfl
  · obtain ⟨d, v, p, g, rfl, ⟨kvs, hd, hl, hg1, hg⟩, ⟨t, rfl, hT⟩, l4, q⟩ := h
    have nd := sc_is_state.nd
    refine ⟨_, (pss_cons (ps_if (PW.pt (pw_or (pt_not (pt_val (pe_callB call_isi (by rfl) T.m_isinstance (by decide +kernel) (pa_cons (pv 0) (pa_cons (pe_ty (n := "dict") (by rfl) T.m_dict (by decide +kernel)) pa_nil))))) (pw_or1 (pt_cmpR op_ne (pe_callB call_lenD (by rfl) T.m_len PySem.boot_len (pa_cons (pv 0) pa_nil)) (pe_callB call_len_seq (by rfl) T.m_len PySem.boot_len (pa_cons (pv 1) pa_nil)) (nomark _)))))
      (pss_one (ps_ret pe_bl))
      pss_nil)
      (pss_one (ps_ret (pe_callB (cr_all rfl) (by rfl) T.m_all (by decide +kernel) (pa_cons (pe_lc (own := [("name", 2)]) (g := (gName 2)) (tt := tYes) rfl nd (pi_tup (pv 1)) (blkOk_by (N := N_is_state) (sc := defScope s_is_state) (by decide +kernel)) (fun _ _ _ _ _ => (pg_name (i := 2) nd rfl (.inl rfl))) (fun _ _ _ _ _ => pts_nil) (fun _ _ _ _ _ => (pe_and (pe_cmp (pc_din (hu_of hr) (pv 2) (pv 0))) (pe_one (pe_call ((ok_is_integer T.toMvF.toPgF).mono (by decide)) hr (by rfl) T.D_is_integer.g T.D_is_integer.kp T.D_is_integer.b .nil pass0 (pa_cons (pe_dget (hu_of hr) (pv 0) (pv 2) (fun _ _ => rfl)) pa_nil)))))) pa_nil))))), ?_⟩
    refine ⟨_, rfl, .ref d, .ty "dict", _, _, true, rfl, .ty _, .base (.dK hd), kit_ty (by decide +kernel), true, rfl, iteF ?_⟩
    refine ⟨_, rfl, d, kvs, rfl, hd, _, rfl, t, _, rfl, .inr hT, rfl, ?_⟩
    rw [List.length_map, hl]
    refine ⟨_, rfl, ite2 (fun e => absurd e (by simp)) (fun _ => ?_)⟩
    refine tNextI ?_
    refine ⟨_, rfl, t, rfl, ⟨_, hT⟩, fun D nD => ?_⟩
    refine lc_it (walk_tup (K := K) (a := t) (xs := p.given.map V.str)) (Acc H D fun _ => V.bl true) (Acc.start nD) (fun i H' _ h => Same.sqt h.1 hT) ?_ ?_
    · rintro i v' H1 H2 hi ac ⟨rfl, hv⟩
      rw [List.length_map] at hi
      rw [List.getElem?_map, List.getElem?_eq_getElem hi] at hv
      cases hv
      obtain ⟨k, hk⟩ := hg1 p.given[i] (List.getElem_mem hi)
      have hval : valV kvs (Sum.inr p.given[i] : Key) = some (.int k) := by rw [hg, hk]; rfl
      refine ⟨rfl, ?_⟩
      dsimp only [tYes]
      refine iteT ?_
      refine ⟨_, rfl, _, rfl, d, some (.int k), rfl, .inl ⟨kvs, Sum.inr p.given[i], .inl (ac.1 _ _ hd), rfl, hval.symm⟩, _, rfl, iteT ?_⟩
      refine ⟨_, rfl, _, rfl, d, .int k, rfl, .inl ⟨kvs, Sum.inr p.given[i], .inl (ac.1 _ _ hd), rfl, hval.symm⟩, ?_⟩
      exact ⟨k, rfl, ac.turn nD (Same.refl _) (by omega) rfl⟩
    · rintro H1 ⟨s1, hD⟩
      rw [List.length_map] at hD
      have hD' : H1 D = some (.lst ((List.replicate p.given.length true).map V.bl)) := by
        rw [hD, List.map_replicate]
        have : (List.range p.given.length).map (fun _ => V.bl true) = List.replicate p.given.length (V.bl true) := List.ext_getElem (by rw [List.length_map, List.length_range, List.length_replicate]) fun i h1 h2 => by rw [List.getElem_map, List.getElem_replicate]
        rw [this]
      refine ⟨D, List.replicate p.given.length true, rfl, SqL.of hD', ?_⟩
      rw [show (List.replicate p.given.length true).all id = true by simp]
      exact q H1 s1
def sp_cvals (K : PySem.W.Frag) : Sp := fun vs H Q _ => ∃ (d : Addr) (v : V) (p : Pt) (g : Str → Option Int), vs = [.ref d, v] ∧ StG H d p g ∧ Ts K H v p.given ∧ p.given.length ≤ 4 ∧ ∀ H', Same H H' → Q .non H'
theorem ok_check_values (T : FrF K mg) : FnOk P w K mg base CX0 3 T.f_check_values T.fd_check_values ["candidate", "names"] (sp_cvals K) := by
  refine T.D_check_values.F.ok sc_check_values (fun vs H Q E h => ?_) (fun cdv A outer s H vs Q E hr h => ?_)
  · obtain ⟨d, v, p, g, rfl, _⟩ := h
    rfl
  · obtain ⟨d, v, p, g, rfl, hd, hv, l4, q⟩ := h
    have nd := sc_check_values.nd
    refine ⟨_, (pss_one (ps_if (pt_not (pt_val (pe_call ((ok_is_state T).mono (by decide)) hr (by rfl) T.D_is_state.g T.D_is_state.kp T.D_is_state.b .nil pass0 (pa_cons (pv 0) (pa_cons (pv 1) pa_nil)))))
      (pss_one ps_never)
      pss_nil)), ?_⟩
    refine ⟨_, rfl, _, rfl, d, v, p, g, rfl, hd, hv, l4, fun H1 s1 => ?_⟩
    exact ⟨true, rfl, iteF (q H1 s1)⟩
end
end Sp1

set_option Elab.async false
set_option linter.all false
set_option maxRecDepth 100000
set_option maxHeartbeats 4000000
namespace Sp1
open PySem PySem.Spec PyProof.Rows L2 Pg
/-! runs, pure -/
def one (p : Pt) (cs : List Int) (a : Rs × Nat) : Rs × Nat :=
  match p.ins[a.1.at_]? with
  | some y => (a.1.step p y.1 (kOf y.1 a.2 cs), usOf y.1 a.2)
  | none => a
def runN (p : Pt) (g : Str → Option Int) (cs : List Int) : Nat → Rs × Nat
  | 0 => (⟨0, startV p g ++ [1], []⟩, 0)
  | i + 1 => one p cs (runN p g cs i)
/-- a step may be taken -/
def Good (p : Pt) (cs : List Int) (a : Rs × Nat) : Prop := ∃ y, p.ins[a.1.at_]? = some y ∧ ¬ y.1.tag = 9 ∧ ChOk y.1 a.2 cs ∧ (kOf y.1 a.2 cs).natAbs ≤ 10 ^ 20
/-- what a free run returns -/
def resD (a : Rs × Nat) : PyData := .tuple [.int (a.1.at_ : Int), .tuple (a.1.vec.map PyData.int), .tuple (a.1.fr.map Fr.D), .int (a.2 : Int)]
theorem runN_ok {p : Pt} (f : p.Fine) (lo : p.Lo) {g : Str → Option Int} {cs : List Int} {n : Nat} (h0 : Rs.Ok p 0 (runN p g cs 0).1) (good : ∀ i, i < n → Good p cs (runN p g cs i)) : ∀ i, i ≤ n → Rs.Ok p i (runN p g cs i).1
  | 0, _ => h0
  | i + 1, hi => by
    have ih := runN_ok f lo h0 good i (by omega)
    obtain ⟨y, hy, ht, _, hk⟩ := good i (by omega)
    have e1 : runN p g cs (i + 1) = ((runN p g cs i).1.step p y.1 (kOf y.1 (runN p g cs i).2 cs), usOf y.1 (runN p g cs i).2) := by
      show one p cs (runN p g cs i) = _
      unfold one
      rw [hy]
    rw [e1]
    exact ih.step f lo hy (fun z => ht (by rw [z]; rfl)) hk
theorem dpAll_ints {K : PySem.W.Frag} {H : Hp} : ∀ (u : List Int), DpAll K H (u.map V.int) (u.map PyData.int)
  | [] => .nil
  | x :: r => .cons (.int x) (dpAll_ints r)
section
variable {P : Program} {w : World} {K : PySem.W.Frag} {mg : Str → Option Value} {base : Heap}

def sp_freeL (K : PySem.W.Frag) (PC : Addr) : Sp := fun vs H Q _ => ∃ (d c : Addr) (v : V) (p : Pt) (g : Str → Option Int) (cs : List Int) (n : Nat), vs = [v, .ref d, .ref c, .int (n : Int)] ∧ PgAt K PC H v p ∧ p.Fine ∧ p.Small ∧ p.Lo ∧ StG H d p g ∧ (∀ x i, g x = some i → i.natAbs ≤ 10 ^ 20) ∧ SqL K H c (cs.map V.int) ∧ (∃ o, H c = some o) ∧ cs.length ≤ 1000 ∧ n ≤ 40 ∧
  (∀ i, i < n → Good p cs (runN p g cs i)) ∧ ∀ H' t, Same H H' → Dp K H' (.ref t) (resD (runN p g cs n)) → Q (.ref t) H'
theorem okL_free_run (T : FrF K mg) (PC : PgC K mg) (UE : PgE0 K mg PC.C) (MC : MvC K mg) (FC : FrC K mg) : FnOk P w K mg base CX0 10 T.f_free_run T.fd_free_run ["program", "start", "choices", "steps"] (sp_freeL K PC.C) := by
  refine T.D_free_run.F.ok sc_free_run (fun vs H Q E h => ?_) (fun cdv A outer s H vs Q E hr h => ?_)
  · obtain ⟨d, c, v, p, g, cs, n, rfl, _⟩ := h
    rfl
  · obtain ⟨d, c, v, p, g, cs, n, rfl, hp, f, sm, lo, hd, hgb, hc, ⟨oc, hoc⟩, cl, hn, good, q⟩ := h
    have nd := sc_free_run.nd
    have l4 : p.given.length ≤ 4 := by
      have := f.l4
      omega
    obtain ⟨pa, pdx, pcv, pd, pgv, pvv, pqv, pmv, rfl, g1, g2, g3, g4⟩ := id hp
    refine ⟨_, (pss_cons (ps_expr (pe_call ((ok_check_program T PC).mono (by decide)) hr (by rfl) T.D_check_program.g T.D_check_program.kp T.D_check_program.b .nil pass0 (pa_cons (pv 0) pa_nil)))
      (pss_cons (ps_expr (pe_call ((ok_check_values T).mono (by decide)) hr (by rfl) T.D_check_values.g T.D_check_values.kp T.D_check_values.b .nil pass0 (pa_cons (pv 1) (pa_cons (pe_prop (pv 0) PC.cl PC.P_given (ok_given PC) (hr.mono (by decide)) PC.b_given .nil pass0 rfl) pa_nil))))
      (pss_cons (ps_expr (pe_call ((okL_check_choices T).mono (by decide)) hr (by rfl) T.D_check_choices.g T.D_check_choices.kp T.D_check_choices.b .nil pass0 (pa_cons (pv 2) pa_nil)))
      (pss_cons (ps_expr (pe_call ((ok_check_count T).mono (by decide)) hr (by rfl) T.D_check_count.g T.D_check_count.kp T.D_check_count.b .nil pass0 (pa_cons (pv 3) pa_nil)))
      (pss_cons (ps_set (i := 4) nd rfl (.inl rfl) (pe_make FC.M_init (ok_fr_init T.toMvF PC UE MC FC) (hr.mono (by decide)) rfl FC.g FC.b_init .nil pass0 (pa_cons (pv 0) (pa_cons (pv 1) (pa_cons (pv 2) pa_nil)))))
      (pss_cons (ps_for PassesOwn.never rfl (pi_range1 (by rfl) T.m_range (pa_cons (pv 3) pa_nil)) (pg_name (i := 5) nd rfl (.inl rfl))
      (pss_one (ps_expr (pe_meth0 (pv 4) FC.cl FC.M_perform (ok_perform T.toMvF MC FC) (hr.mono (by decide)) FC.b_perform .nil pass0))))
      (pss_one (ps_ret (pe_tup (pa_cons (pe_fld (pv 4) rfl) (pa_cons (pe_fld (pv 4) rfl) (pa_cons (pe_callTy call_tuple_of (by rfl) T.m_tuple (by decide +kernel) (pa_cons (pe_fld (pv 4) rfl) pa_nil)) (pa_cons (pe_fld (pv 4) rfl) pa_nil))))))))))))), ?_⟩
    refine ⟨_, rfl, _, p, rfl, hp, ?_⟩
    refine ⟨_, rfl, _, rfl, pa, pdx, _, rfl, g1, pa, pdx, _, _, rfl, g1, pgF_given _ _ _ _ _ _, ?_⟩
    refine ⟨d, _, p, g, rfl, hd, g2.g, l4, fun H1 s1 => ?_⟩
    refine ⟨_, rfl, c, cs, rfl, Same.seq s1 hc, fun H2 s2 => ?_⟩
    refine ⟨_, rfl, n, rfl, ?_⟩
    have s02 := s1.trans s2
    refine ⟨_, rfl, _, rfl, _, rfl, fun x dx nx ndx ne => ?_⟩
    have s3 : Same H (upd (upd H2 dx (.own x)) x (.ins FC.C dx [])) := fun b o e => by
      rw [upd_ne (ne_of_none (s02 _ _ e) nx), upd_ne (ne_of_none (s02 _ _ e) ndx)]
      exact s02 _ _ e
    have nxH : H x = none := s02.free nx
    obtain ⟨kvs, hd1, hd2, hd3, hd4⟩ := hd
    refine ⟨x, dx, d, c, _, p, g, cs, rfl, upd_same, hp.same f s3, f, sm, ⟨kvs, s3 _ _ hd1, hd4⟩, .inl (Same.seq s3 hc), ⟨oc, s3 _ _ hoc⟩, ne_of_none hoc nxH, fun H4 fr sx4 fresh hfr => ⟨rfl, ?_⟩⟩
    have nfH : ∀ b o, H b = some o → b ≠ fr := fun b o e => fresh b o (ne_of_none e nxH) (s3 _ _ e)
    have s4 : Same H H4 := fun b o e => sx4 b o (ne_of_none e nxH) (s3 _ _ e)
    refine gn (σ' := [some (.ref pa), some (.ref d), some (.ref c), some (.int (n : Int)), some (.ref x), none]) rfl ?_
    have ok0 : Rs.Ok p 0 (runN p g cs 0).1 := Rs.ok0 f (by unfold startV; rw [List.length_map]) fun y hy => by
      obtain ⟨nm, _, rfl⟩ := List.mem_map.mp hy
      cases e : g nm with
      | none => decide
      | some i => exact hgb nm i e
    have oks : ∀ i, i ≤ n → Rs.Ok p i (runN p g cs i).1 := runN_ok f lo ok0 good
    refine ⟨_, rfl, (n : Int), rfl, by omega, by omega, ?_⟩
    refine for_range (lo := 0) (n := ((n : Int)).toNat) (fun i σ H' => SY x fr H4 H' ∧ FrAt K FC.C MC.C H' x fr p (runN p g cs i).1 (runN p g cs i).2 c cs ∧ ∃ y, σ = [some (.ref pa), some (.ref d), some (.ref c), some (.int (n : Int)), some (.ref x), y])
      ⟨fun b o _ _ e => e, hfr, none, rfl⟩ ?_ ?_
    · rintro i σ H5 hi ⟨sy5, hfr5, y0, rfl⟩
      have hi : i < n := hi
      obtain ⟨⟨fdx, m, vv, fs, xs, h1, h2, h3, h4, h5, h6⟩, h7, h8⟩ := id hfr5
      obtain ⟨y, hy, ht, hch, hk⟩ := good i hi
      refine ⟨_, rfl, x, fdx, _, rfl, h1, h2.n1, ?_⟩
      refine ⟨x, fr, c, p, (runN p g cs i).1, i, (runN p g cs i).2, cs, y, rfl, hfr5, f, lo, hy, ht, oks i (by omega), by omega, hch, hk, cl, fun H6 sy6 hfr6 => ?_⟩
      refine ⟨sy5.trans sy6, ?_, _, rfl⟩
      have e1 : runN p g cs (i + 1) = ((runN p g cs i).1.step p y.1 (kOf y.1 (runN p g cs i).2 cs), usOf y.1 (runN p g cs i).2) := by
        show one p cs (runN p g cs i) = _
        unfold one
        rw [hy]
      rw [e1]
      exact hfr6
    · rintro σ H5 ⟨sy5, hfr5, y0, rfl⟩
      rw [show ((n : Int)).toNat = n from rfl] at hfr5
      obtain ⟨⟨fdx, m, vv, fs, xs, h1, h2, h3, h4, h5, h6⟩, h7, h8⟩ := id hfr5
      have s5 : Same H H5 := fun b o e => sy5 b o (ne_of_none e nxH) (nfH b o e) (s4 _ _ e)
      refine ⟨_, rfl, x, FC.C, fdx, _, _, rfl, h1, FC.cl, FC.n_address, h2.a, _, rfl, x, FC.C, fdx, _, _, rfl, h1, FC.cl, FC.n_vector, h2.vec, _, rfl, x, FC.C, fdx, _, _, rfl, h1, FC.cl, FC.n_frames, h2.fr, fr, _, rfl, .inl ⟨SqL.of h5, fun tf ntf => ?_⟩⟩
      have s6 := same_new (o := HO.tup xs) ntf
      have h6' : (upd H5 tf (HO.tup xs)) tf = some (HO.tup xs) := upd_same
      generalize upd H5 tf (HO.tup xs) = H6 at s6 h6' ⊢
      refine ⟨_, rfl, x, FC.C, fdx, _, _, rfl, s6 _ _ h1, FC.cl, FC.n_used, h2.us, small (by show 4 ≤ 5000; decide), fun t nt => ?_⟩
      have s7 := same_new (o := .tup [.int ((runN p g cs n).1.at_ : Int), .ref vv, .ref tf, .int ((runN p g cs n).2 : Int)]) nt
      refine q _ t (s5.trans (s6.trans s7)) (.tup (SqT.of upd_same) (.cons (.int _) (.cons (.tup (Same.sqt (s6.trans s7) h4) (dpAll_ints _)) (.cons (.tup (SqT.of (s7 _ _ h6')) (dpAll_keep (Same.tk (s6.trans s7)) h6 (frD_tup _))) (.cons (.int _) .nil)))))

def sp_freeT (K : PySem.W.Frag) (PC : Addr) : Sp := fun vs H Q _ => ∃ (d c : Addr) (v : V) (p : Pt) (g : Str → Option Int) (cs : List Int) (n : Nat), vs = [v, .ref d, .ref c, .int (n : Int)] ∧ PgAt K PC H v p ∧ p.Fine ∧ p.Small ∧ p.Lo ∧ StG H d p g ∧ (∀ x i, g x = some i → i.natAbs ≤ 10 ^ 20) ∧ SqT K H c (cs.map V.int) ∧ (∃ o, H c = some o) ∧ cs.length ≤ 1000 ∧ n ≤ 40 ∧
  (∀ i, i < n → Good p cs (runN p g cs i)) ∧ ∀ H' t, Same H H' → Dp K H' (.ref t) (resD (runN p g cs n)) → Q (.ref t) H'
theorem okT_free_run (T : FrF K mg) (PC : PgC K mg) (UE : PgE0 K mg PC.C) (MC : MvC K mg) (FC : FrC K mg) : FnOk P w K mg base CX0 10 T.f_free_run T.fd_free_run ["program", "start", "choices", "steps"] (sp_freeT K PC.C) := by
  refine T.D_free_run.F.ok sc_free_run (fun vs H Q E h => ?_) (fun cdv A outer s H vs Q E hr h => ?_)
  · obtain ⟨d, c, v, p, g, cs, n, rfl, _⟩ := h
    rfl
  · obtain ⟨d, c, v, p, g, cs, n, rfl, hp, f, sm, lo, hd, hgb, hc, ⟨oc, hoc⟩, cl, hn, good, q⟩ := h
    have nd := sc_free_run.nd
    have l4 : p.given.length ≤ 4 := by
      have := f.l4
      omega
    obtain ⟨pa, pdx, pcv, pd, pgv, pvv, pqv, pmv, rfl, g1, g2, g3, g4⟩ := id hp
    refine ⟨_, (pss_cons (ps_expr (pe_call ((ok_check_program T PC).mono (by decide)) hr (by rfl) T.D_check_program.g T.D_check_program.kp T.D_check_program.b .nil pass0 (pa_cons (pv 0) pa_nil)))
      (pss_cons (ps_expr (pe_call ((ok_check_values T).mono (by decide)) hr (by rfl) T.D_check_values.g T.D_check_values.kp T.D_check_values.b .nil pass0 (pa_cons (pv 1) (pa_cons (pe_prop (pv 0) PC.cl PC.P_given (ok_given PC) (hr.mono (by decide)) PC.b_given .nil pass0 rfl) pa_nil))))
      (pss_cons (ps_expr (pe_call ((okT_check_choices T).mono (by decide)) hr (by rfl) T.D_check_choices.g T.D_check_choices.kp T.D_check_choices.b .nil pass0 (pa_cons (pv 2) pa_nil)))
      (pss_cons (ps_expr (pe_call ((ok_check_count T).mono (by decide)) hr (by rfl) T.D_check_count.g T.D_check_count.kp T.D_check_count.b .nil pass0 (pa_cons (pv 3) pa_nil)))
      (pss_cons (ps_set (i := 4) nd rfl (.inl rfl) (pe_make FC.M_init (ok_fr_init T.toMvF PC UE MC FC) (hr.mono (by decide)) rfl FC.g FC.b_init .nil pass0 (pa_cons (pv 0) (pa_cons (pv 1) (pa_cons (pv 2) pa_nil)))))
      (pss_cons (ps_for PassesOwn.never rfl (pi_range1 (by rfl) T.m_range (pa_cons (pv 3) pa_nil)) (pg_name (i := 5) nd rfl (.inl rfl))
      (pss_one (ps_expr (pe_meth0 (pv 4) FC.cl FC.M_perform (ok_perform T.toMvF MC FC) (hr.mono (by decide)) FC.b_perform .nil pass0))))
      (pss_one (ps_ret (pe_tup (pa_cons (pe_fld (pv 4) rfl) (pa_cons (pe_fld (pv 4) rfl) (pa_cons (pe_callTy call_tuple_of (by rfl) T.m_tuple (by decide +kernel) (pa_cons (pe_fld (pv 4) rfl) pa_nil)) (pa_cons (pe_fld (pv 4) rfl) pa_nil))))))))))))), ?_⟩
    refine ⟨_, rfl, _, p, rfl, hp, ?_⟩
    refine ⟨_, rfl, _, rfl, pa, pdx, _, rfl, g1, pa, pdx, _, _, rfl, g1, pgF_given _ _ _ _ _ _, ?_⟩
    refine ⟨d, _, p, g, rfl, hd, g2.g, l4, fun H1 s1 => ?_⟩
    refine ⟨_, rfl, c, cs, rfl, Same.sqt s1 hc, fun H2 s2 => ?_⟩
    refine ⟨_, rfl, n, rfl, ?_⟩
    have s02 := s1.trans s2
    refine ⟨_, rfl, _, rfl, _, rfl, fun x dx nx ndx ne => ?_⟩
    have s3 : Same H (upd (upd H2 dx (.own x)) x (.ins FC.C dx [])) := fun b o e => by
      rw [upd_ne (ne_of_none (s02 _ _ e) nx), upd_ne (ne_of_none (s02 _ _ e) ndx)]
      exact s02 _ _ e
    have nxH : H x = none := s02.free nx
    obtain ⟨kvs, hd1, hd2, hd3, hd4⟩ := hd
    refine ⟨x, dx, d, c, _, p, g, cs, rfl, upd_same, hp.same f s3, f, sm, ⟨kvs, s3 _ _ hd1, hd4⟩, .inr (Same.sqt s3 hc), ⟨oc, s3 _ _ hoc⟩, ne_of_none hoc nxH, fun H4 fr sx4 fresh hfr => ⟨rfl, ?_⟩⟩
    have nfH : ∀ b o, H b = some o → b ≠ fr := fun b o e => fresh b o (ne_of_none e nxH) (s3 _ _ e)
    have s4 : Same H H4 := fun b o e => sx4 b o (ne_of_none e nxH) (s3 _ _ e)
    refine gn (σ' := [some (.ref pa), some (.ref d), some (.ref c), some (.int (n : Int)), some (.ref x), none]) rfl ?_
    have ok0 : Rs.Ok p 0 (runN p g cs 0).1 := Rs.ok0 f (by unfold startV; rw [List.length_map]) fun y hy => by
      obtain ⟨nm, _, rfl⟩ := List.mem_map.mp hy
      cases e : g nm with
      | none => decide
      | some i => exact hgb nm i e
    have oks : ∀ i, i ≤ n → Rs.Ok p i (runN p g cs i).1 := runN_ok f lo ok0 good
    refine ⟨_, rfl, (n : Int), rfl, by omega, by omega, ?_⟩
    refine for_range (lo := 0) (n := ((n : Int)).toNat) (fun i σ H' => SY x fr H4 H' ∧ FrAt K FC.C MC.C H' x fr p (runN p g cs i).1 (runN p g cs i).2 c cs ∧ ∃ y, σ = [some (.ref pa), some (.ref d), some (.ref c), some (.int (n : Int)), some (.ref x), y])
      ⟨fun b o _ _ e => e, hfr, none, rfl⟩ ?_ ?_
    · rintro i σ H5 hi ⟨sy5, hfr5, y0, rfl⟩
      have hi : i < n := hi
      obtain ⟨⟨fdx, m, vv, fs, xs, h1, h2, h3, h4, h5, h6⟩, h7, h8⟩ := id hfr5
      obtain ⟨y, hy, ht, hch, hk⟩ := good i hi
      refine ⟨_, rfl, x, fdx, _, rfl, h1, h2.n1, ?_⟩
      refine ⟨x, fr, c, p, (runN p g cs i).1, i, (runN p g cs i).2, cs, y, rfl, hfr5, f, lo, hy, ht, oks i (by omega), by omega, hch, hk, cl, fun H6 sy6 hfr6 => ?_⟩
      refine ⟨sy5.trans sy6, ?_, _, rfl⟩
      have e1 : runN p g cs (i + 1) = ((runN p g cs i).1.step p y.1 (kOf y.1 (runN p g cs i).2 cs), usOf y.1 (runN p g cs i).2) := by
        show one p cs (runN p g cs i) = _
        unfold one
        rw [hy]
      rw [e1]
      exact hfr6
    · rintro σ H5 ⟨sy5, hfr5, y0, rfl⟩
      rw [show ((n : Int)).toNat = n from rfl] at hfr5
      obtain ⟨⟨fdx, m, vv, fs, xs, h1, h2, h3, h4, h5, h6⟩, h7, h8⟩ := id hfr5
      have s5 : Same H H5 := fun b o e => sy5 b o (ne_of_none e nxH) (nfH b o e) (s4 _ _ e)
      refine ⟨_, rfl, x, FC.C, fdx, _, _, rfl, h1, FC.cl, FC.n_address, h2.a, _, rfl, x, FC.C, fdx, _, _, rfl, h1, FC.cl, FC.n_vector, h2.vec, _, rfl, x, FC.C, fdx, _, _, rfl, h1, FC.cl, FC.n_frames, h2.fr, fr, _, rfl, .inl ⟨SqL.of h5, fun tf ntf => ?_⟩⟩
      have s6 := same_new (o := HO.tup xs) ntf
      have h6' : (upd H5 tf (HO.tup xs)) tf = some (HO.tup xs) := upd_same
      generalize upd H5 tf (HO.tup xs) = H6 at s6 h6' ⊢
      refine ⟨_, rfl, x, FC.C, fdx, _, _, rfl, s6 _ _ h1, FC.cl, FC.n_used, h2.us, small (by show 4 ≤ 5000; decide), fun t nt => ?_⟩
      have s7 := same_new (o := .tup [.int ((runN p g cs n).1.at_ : Int), .ref vv, .ref tf, .int ((runN p g cs n).2 : Int)]) nt
      refine q _ t (s5.trans (s6.trans s7)) (.tup (SqT.of upd_same) (.cons (.int _) (.cons (.tup (Same.sqt (s6.trans s7) h4) (dpAll_ints _)) (.cons (.tup (SqT.of (s7 _ _ h6')) (dpAll_keep (Same.tk (s6.trans s7)) h6 (frD_tup _))) (.cons (.int _) .nil)))))

end
end Sp1

set_option Elab.async false
set_option linter.all false
set_option maxRecDepth 100000
set_option maxHeartbeats 4000000
namespace Sp1
open PySem PySem.Spec PyProof.Rows L2 Pg
abbrev s_l_low : Stmt := top 79
abbrev N_l_low : List Str := ["_law_vector", "_law_divisor_here", "_law_entry"]
theorem sc_l_low : FnScope N_l_low ["_law_vector"] (defScope s_l_low) := ⟨rfl, rfl, rfl, by decide +kernel, rfl, by decide +kernel, by decide +kernel⟩
abbrev s_l_worth : Stmt := top 80
abbrev N_l_worth : List Str := ["_law_expression_here", "_law_names_here", "_law_vector", "_law_found", "_law_factor", "_law_name"]
theorem sc_l_worth : FnScope N_l_worth ["_law_expression_here", "_law_names_here", "_law_vector"] (defScope s_l_worth) := ⟨rfl, rfl, rfl, by decide +kernel, rfl, by decide +kernel, by decide +kernel⟩
abbrev s_l_put : Stmt := top 81
abbrev N_l_put : List Str := ["_law_vector", "_law_place", "_law_worth_here", "_law_scale", "_law_found", "_law_entry"]
theorem sc_l_put : FnScope N_l_put ["_law_vector", "_law_place", "_law_worth_here", "_law_scale"] (defScope s_l_put) := ⟨rfl, rfl, rfl, by decide +kernel, rfl, by decide +kernel, by decide +kernel⟩
abbrev s_l_need : Stmt := top 82
abbrev N_l_need : List Str := ["_law_instruction"]
theorem sc_l_need : FnScope N_l_need ["_law_instruction"] (defScope s_l_need) := ⟨rfl, rfl, rfl, by decide +kernel, rfl, by decide +kernel, by decide +kernel⟩
abbrev s_l_told : Stmt := top 84
abbrev N_l_told : List Str := ["_law_expression_here", "_law_names_here", "_law_vector", "_law_choice"]
theorem sc_l_told : FnScope N_l_told ["_law_expression_here", "_law_names_here", "_law_vector", "_law_choice"] (defScope s_l_told) := ⟨rfl, rfl, rfl, by decide +kernel, rfl, by decide +kernel, by decide +kernel⟩
abbrev s_l_jump : Stmt := top 83
abbrev N_l_jump : List Str := ["_law_scheme", "_law_run", "_law_choice", "_law_at", "_law_vector", "_law_stack", "_law_names_here", "_law_instruction", "_law_word", "_law_worth_here", "_law_scale", "_law_one", "_law_other"]
theorem sc_l_jump : FnScope N_l_jump ["_law_scheme", "_law_run", "_law_choice"] (defScope s_l_jump) := ⟨rfl, rfl, rfl, by decide +kernel, rfl, by decide +kernel, by decide +kernel⟩
abbrev s_l_first : Stmt := top 85
abbrev N_l_first : List Str := ["_law_scheme", "_law_opening", "_law_entries", "_law_name"]
theorem sc_l_first : FnScope N_l_first ["_law_scheme", "_law_opening"] (defScope s_l_first) := ⟨rfl, rfl, rfl, by decide +kernel, rfl, by decide +kernel, by decide +kernel⟩
abbrev s_l_start : Stmt := top 86
abbrev N_l_start : List Str := ["_law_pool_here", "_law_scheme", "_law_found", "_law_name"]
theorem sc_l_start : FnScope N_l_start ["_law_pool_here", "_law_scheme"] (defScope s_l_start) := ⟨rfl, rfl, rfl, by decide +kernel, rfl, by decide +kernel, by decide +kernel⟩
abbrev s_l_choices : Stmt := top 87
abbrev N_l_choices : List Str := ["_law_pool_here", "_law_scheme", "_law_opening", "_law_length", "_law_run", "_law_found", "_law_turn", "_law_instruction", "_law_need_here", "_law_choice"]
theorem sc_l_choices : FnScope N_l_choices ["_law_pool_here", "_law_scheme", "_law_opening", "_law_length"] (defScope s_l_choices) := ⟨rfl, rfl, rfl, by decide +kernel, rfl, by decide +kernel, by decide +kernel⟩
abbrev s_l_due : Stmt := top 88
abbrev N_l_due : List Str := ["_law_scheme", "_law_opening", "_law_picks", "_law_length", "_law_run", "_law_used", "_law_turn", "_law_instruction", "_law_need_here", "_law_choice"]
theorem sc_l_due : FnScope N_l_due ["_law_scheme", "_law_opening", "_law_picks", "_law_length"] (defScope s_l_due) := ⟨rfl, rfl, rfl, by decide +kernel, rfl, by decide +kernel, by decide +kernel⟩
abbrev s_l_is_right : Stmt := top 89
abbrev N_l_is_right : List Str := ["_law_pool_here", "_law_scheme", "_law_opening", "_law_picks", "_law_length", "_law_before", "_law_further", "_law_kept", "_law_due_here", "_law_turn"]
theorem sc_l_is_right : FnScope N_l_is_right ["_law_pool_here", "_law_scheme"] (defScope s_l_is_right) := ⟨rfl, rfl, rfl, by decide +kernel, rfl, by decide +kernel, by decide +kernel⟩
structure LwM (K : PySem.W.Frag) (mg : Str → Option Value) extends PlF K mg, FrF K mg where
  f__law_low : Addr
  fd__law_low : FuncData
  D__law_low : Dn K mg "_law_low" s_l_low ["_law_vector"] f__law_low fd__law_low
  f__law_worth : Addr
  fd__law_worth : FuncData
  D__law_worth : Dn K mg "_law_worth" s_l_worth ["_law_expression_here", "_law_names_here", "_law_vector"] f__law_worth fd__law_worth
  f__law_put : Addr
  fd__law_put : FuncData
  D__law_put : Dn K mg "_law_put" s_l_put ["_law_vector", "_law_place", "_law_worth_here", "_law_scale"] f__law_put fd__law_put
  f__law_need : Addr
  fd__law_need : FuncData
  D__law_need : Dn K mg "_law_need" s_l_need ["_law_instruction"] f__law_need fd__law_need
  f__law_told : Addr
  fd__law_told : FuncData
  D__law_told : Dn K mg "_law_told" s_l_told ["_law_expression_here", "_law_names_here", "_law_vector", "_law_choice"] f__law_told fd__law_told
  f__law_jump : Addr
  fd__law_jump : FuncData
  D__law_jump : Dn K mg "_law_jump" s_l_jump ["_law_scheme", "_law_run", "_law_choice"] f__law_jump fd__law_jump
  f__law_first : Addr
  fd__law_first : FuncData
  D__law_first : Dn K mg "_law_first" s_l_first ["_law_scheme", "_law_opening"] f__law_first fd__law_first
  f__law_start : Addr
  fd__law_start : FuncData
  D__law_start : Dn K mg "_law_start" s_l_start ["_law_pool_here", "_law_scheme"] f__law_start fd__law_start
  f__law_choices : Addr
  fd__law_choices : FuncData
  D__law_choices : Dn K mg "_law_choices" s_l_choices ["_law_pool_here", "_law_scheme", "_law_opening", "_law_length"] f__law_choices fd__law_choices
  f__law_due : Addr
  fd__law_due : FuncData
  D__law_due : Dn K mg "_law_due" s_l_due ["_law_scheme", "_law_opening", "_law_picks", "_law_length"] f__law_due fd__law_due
  f__law_is_right : Addr
  fd__law_is_right : FuncData
  D__law_is_right : Dn K mg "_law_is_right" s_l_is_right ["_law_pool_here", "_law_scheme"] f__law_is_right fd__law_is_right
section
variable {P : Program} {w : World} {K : PySem.W.Frag} {mg : Str → Option Value} {base : Heap}
def sp_llow (K : PySem.W.Frag) : Sp := fun vs H Q _ => ∃ (g : Addr) (u : List Int), vs = [.ref g] ∧ SqT K H g (u.map V.int) ∧ u.length ≤ 1000 ∧ (∃ x ∈ u, x ≠ 0 ∧ x.natAbs < 2 ^ 8000) ∧ ∀ H' t, Same H H' → SqT K H' t ((lowV u).map V.int) → Q (.ref t) H'
theorem ok__law_low (T : LwM K mg) : FnOk P w K mg base CX0 2 T.f__law_low T.fd__law_low ["_law_vector"] (sp_llow K) := by
  refine T.D__law_low.F.ok sc_l_low (fun vs H Q E h => ?_) (fun cdv A outer s H vs Q E hr h => ?_)
  · obtain ⟨g, u, rfl, _⟩ := h
    rfl
  · obtain ⟨g, u, rfl, hg, ul, ⟨x, hx, x0, xb⟩, q⟩ := h
    have nd := sc_l_low.nd
    obtain ⟨g1, g2⟩ := gcdL_pos hx x0
    have gb : gcdL u < 2 ^ 8000 := Nat.lt_of_le_of_lt g2 xb
    refine ⟨_, (pss_cons (ps_set (i := 1) nd rfl (.inr rfl) (pe_call ((okU__law_divisor T.toPlF).mono (by decide)) hr (by rfl) T.D__law_divisor.g T.D__law_divisor.kp T.D__law_divisor.b .nil pass0 (pa_cons (pv 0) pa_nil)))
      (pss_one (ps_ret (pe_callTy call_tuple_of (by rfl) T.m_tuple (by decide +kernel) (pa_cons (pe_lc (own := [("_law_entry", 2)]) (g := (gName 2)) (tt := tYes) rfl nd (pi_tup (pv 0)) (blkOk_by (N := N_l_low) (sc := defScope s_l_low) (by decide +kernel)) (fun _ _ _ _ _ => (pg_name (i := 2) nd rfl (.inl rfl))) (fun _ _ _ _ _ => pts_nil) (fun _ _ _ _ _ => (pe_op op_fdivW (pv 2) (pv 1)))) pa_nil))))), ?_⟩
    refine ⟨_, rfl, g, u, rfl, hg, ?_⟩
    refine gn (σ' := [some (.ref g), some (.int (gcdL u : Nat)), none]) rfl ?_
    refine ⟨_, rfl, g, rfl, ⟨_, hg⟩, fun D nD => ?_⟩
    refine lc_it (walk_tup (K := K) (a := g) (xs := u.map V.int)) (Acc H D fun j => V.int ((lowV u).getD j 0)) (Acc.start nD) (fun i H' _ h => Same.sqt h.1 hg) ?_ ?_
    · rintro i x H1 H2 hi ac ⟨rfl, hx⟩
      rw [List.length_map] at hi
      rw [List.getElem?_map, List.getElem?_eq_getElem hi] at hx
      cases hx
      refine ⟨rfl, ?_⟩
      dsimp only [tYes]
      refine iteT ⟨_, rfl, _, rfl, _, _, rfl, rfl, wide_div (b := 8000) (by omega) (by rw [Int.natAbs_natCast]; exact gb) (by decide) (by decide), ac.turn nD (Same.refl _) (by omega) ?_⟩
      unfold lowV
      rw [List.getD_eq_getElem?_getD, List.getElem?_map, List.getElem?_eq_getElem hi]
      rfl
    · rintro H1 ⟨s1, hD⟩
      rw [List.length_map] at hD
      have hD' : H1 D = some (.lst ((lowV u).map V.int)) := by
        rw [hD]
        congr 2
        exact range_getD (by unfold lowV; rw [List.length_map])
      exact ⟨D, _, rfl, .inl ⟨SqL.of hD', fun t nt => q _ t (s1.trans (same_new nt)) (SqT.of upd_same)⟩⟩
def sp_lput (K : PySem.W.Frag) : Sp := fun vs H Q _ => ∃ (g : Addr) (u : List Int) (i : Nat) (z d : Int), vs = [.ref g, .int (i : Int), .int z, .int d] ∧ SqT K H g (u.map V.int) ∧ u.length ≤ 1000 ∧ i < u.length ∧ d.natAbs ≤ 10 ^ 12 ∧ ∀ H' t, Same H H' → SqT K H' t (((u.map (d * ·)).set i z).map V.int) → Q (.ref t) H'
theorem ok__law_put (T : LwM K mg) : FnOk P w K mg base CX0 1 T.f__law_put T.fd__law_put ["_law_vector", "_law_place", "_law_worth_here", "_law_scale"] (sp_lput K) := by
  refine T.D__law_put.F.ok sc_l_put (fun vs H Q E h => ?_) (fun cdv A outer s H vs Q E hr h => ?_)
  · obtain ⟨g, u, i, z, d, rfl, _⟩ := h
    rfl
  · obtain ⟨g, u, i, z, d, rfl, hg, ul, hi, hd, q⟩ := h
    have nd := sc_l_put.nd
    refine ⟨_, (pss_cons (ps_setLc (i := 4) (own := [("_law_entry", 5)]) (g := (gName 5)) (tt := tYes) rfl nd rfl rfl (sw_true rfl rfl rfl (by decide +kernel)) (pi_tup (pv 0)) (blkOk_by (N := N_l_put) (sc := defScope s_l_put) (by decide +kernel)) (fun _ _ _ _ _ => (pg_name (i := 5) nd rfl (.inl rfl))) (fun _ _ _ _ _ => pts_nil) (fun _ _ _ _ _ => (pe_op op_mul (pv 3) (pv 5))))
      (pss_cons (ps_asg (pv 2) (pg_sub (pv 4) (pv 1) set_list))
      (pss_one (ps_ret (pe_callTy call_tuple_of (by rfl) T.m_tuple (by decide +kernel) (pa_cons (pv 4) pa_nil)))))), ?_⟩
    refine ⟨_, rfl, g, rfl, ⟨_, hg⟩, fun D nD => ?_⟩
    refine lc_it (walk_tup (K := K) (a := g) (xs := u.map V.int)) (Acc H D fun j => V.int ((u.map (d * ·)).getD j 0)) (Acc.start nD) (fun i H' _ h => Same.sqt h.1 hg) ?_ ?_
    · rintro i x H1 H2 hi ac ⟨rfl, hx⟩
      rw [List.length_map] at hi
      rw [List.getElem?_map, List.getElem?_eq_getElem hi] at hx
      cases hx
      refine ⟨rfl, ?_⟩
      dsimp only [tYes]
      refine iteT ⟨_, rfl, _, rfl, _, _, rfl, rfl, cmL hd, ac.turn nD (Same.refl _) (by omega) ?_⟩
      rw [List.getD_eq_getElem?_getD, List.getElem?_map, List.getElem?_eq_getElem hi]
      rfl
    · rintro H1 ⟨s1, hD⟩
      rw [List.length_map] at hD
      have hD' : H1 D = some (.lst ((u.map (d * ·)).map V.int)) := by
        rw [hD]
        congr 2
        exact range_getD (by rw [List.length_map])
      refine gn (σ' := [some (.ref g), some (.int (i : Int)), some (.int z), some (.int d), some (.ref D), none]) rfl ?_
      refine ⟨_, rfl, _, rfl, _, rfl, D, _, _, i, rfl, rfl, hD', ixnat (by rw [List.length_map, List.length_map]; exact hi), ?_⟩
      rw [← List.map_set]
      have s2 : Same H (upd H1 D (.lst (((u.map (d * ·)).set i z).map V.int))) := same_at nD s1
      have hD2 : (upd H1 D (.lst (((u.map (d * ·)).set i z).map V.int))) D = some (.lst (((u.map (d * ·)).set i z).map V.int)) := upd_same
      generalize upd H1 D (.lst (((u.map (d * ·)).set i z).map V.int)) = H2 at s2 hD2 ⊢
      exact ⟨_, rfl, D, _, rfl, .inl ⟨SqL.of hD2, fun t nt => q _ t (s2.trans (same_new nt)) (SqT.of upd_same)⟩⟩
theorem idx_first {names : List Str} {x : Str} (h : x ∈ names) : (names.map V.str)[names.idxOf x]? = some (.str x) ∧ ∀ (m : Nat) (z : V), m < names.idxOf x → (names.map V.str)[m]? = some z → eqV z (.str x) = false := by
  have hl := List.idxOf_lt_length_of_mem h
  refine ⟨by rw [List.getElem?_map, List.getElem?_eq_getElem hl, List.getElem_idxOf hl]; rfl, fun m z hm hz => ?_⟩
  rw [List.getElem?_map] at hz
  obtain ⟨y, hy, rfl⟩ := Option.map_eq_some_iff.mp hz
  have hne : y ≠ x := fun e => by
    subst e
    obtain ⟨h1, h2⟩ := List.getElem?_eq_some_iff.mp hy
    have := List.not_of_lt_findIdx (xs := names) (p := (· == y)) hm
    rw [h2] at this
    simp at this
  exact decide_eq_false hne
def sp_lworth (K : PySem.W.Frag) : Sp := fun vs H Q _ => ∃ (v : V) (l r : Addr) (names : List Str) (u : List Int) (s : Sm), vs = [v, .ref l, .ref r] ∧ Dp K H v s.D ∧ s.Ok names ∧ s.Lo ∧ SqL K H l (names.map V.str) ∧ SqT K H r (u.map V.int) ∧ u.length = names.length + 1 ∧ names.length ≤ 4 ∧ Q (.int (smVal names u s)) H
theorem ok__law_worth (T : LwM K mg) : FnOk P w K mg base CX0 1 T.f__law_worth T.fd__law_worth ["_law_expression_here", "_law_names_here", "_law_vector"] (sp_lworth K) := by
  refine T.D__law_worth.F.ok sc_l_worth (fun vs H Q E h => ?_) (fun cdv A outer s H vs Q E hr h => ?_)
  · obtain ⟨v, l, r, names, u, s, rfl, _⟩ := h
    rfl
  · obtain ⟨v, l, r, names, u, s, rfl, hd, ok, lo, hl, hu, ul, nl, q⟩ := h
    have nd := sc_l_worth.nd
    obtain ⟨a, tt, ts, rfl, hT, hT2, hA2⟩ := dp_sm hd
    obtain ⟨lc, ld, lt⟩ := lo
    have tl := dpAll_len hA2
    rw [List.length_map] at tl
    refine ⟨_, (pss_cons (ps_set (i := 3) nd rfl (.inl rfl) (pe_op op_mul (pe_ix (r := rIxT K) ix_tup (pv 0) pe_int (fun _ _ => rfl)) (pe_ix (r := rIxT K) ix_tup (pv 2) (pe_un un_neg pe_int) (fun _ _ => rfl))))
      (pss_cons (ps_for PassesOwn.never rfl (pi_tup (pe_ix (r := rIxT K) ix_tup (pv 0) pe_int (fun _ _ => rfl))) (pg_tup rfl (pgs_cons (pg_name (i := 4) nd rfl (.inl rfl)) (pgs_cons (pg_name (i := 5) nd rfl (.inl rfl)) pgs_nil)))
      (pss_one (ps_set (i := 3) nd rfl (.inl rfl) (pe_op op_add (pv 3) (pe_op op_mul (pv 4) (pe_ix (r := rIxT K) ix_tup (pv 2) (pe_bm PySem.F.plainAttrs_list PySem.F.slot_list_index PySem.F.type_list_index mt_index (pv 1) (pa_cons (pv 5) pa_nil)) (fun _ _ => rfl)))))))
      (pss_one (ps_ret (pv 3))))), ?_⟩
    refine ⟨_, rfl, a, _, 1, _, rfl, rfl, hT, at1, _, rfl, _, rfl, r, _, _, _, rfl, rfl, hu, at_lastV (by omega), _, _, rfl, rfl, cmL lc, ?_⟩
    refine gn (σ' := [some (.ref a), some (.ref l), some (.ref r), some (.int (s.c * lastV u)), none, none]) rfl ?_
    refine ⟨_, rfl, a, _, 2, _, rfl, rfl, hT, at2, tt, rfl, ⟨_, hT2⟩, for_it (walk_tup (K := K) (a := tt) (xs := ts)) (fun i σ H' => H' = H ∧ ∃ (y1 y2 : Option V), σ = [some (.ref a), some (.ref l), some (.ref r), some (.int ((s.ts.take i).foldl (fun a t => a + t.1 * atV names u t.2) (s.c * lastV u))), y1, y2])
      ⟨rfl, none, none, rfl⟩ (fun i σ H' _ h => h.1 ▸ hT2) ?_ ?_⟩
    · rintro i v σ H3 H4 hi ⟨rfl, y1, y2, rfl⟩ ⟨rfl, hv⟩
      obtain ⟨d', hd', hdp⟩ := dpAll_at hA2 hv
      rw [List.getElem?_map] at hd'
      obtain ⟨t, ht, rfl⟩ := Option.map_eq_some_iff.mp hd'
      have htm := List.mem_of_getElem? ht
      have hin := (ok.nz t htm).2
      have hix : names.idxOf t.2 < u.length := by
        have := List.idxOf_lt_length_of_mem hin
        omega
      obtain ⟨b, rfl, hb⟩ := dp_tD hdp
      obtain ⟨f1, f2⟩ := idx_first hin
      refine ⟨b, _, rfl, hb, rfl, _, _, rfl, _, _, rfl, rfl, ?_⟩
      dsimp only [List.set]
      refine ⟨_, rfl, _, rfl, _, rfl, _, rfl, .inl ⟨rfl, _, hl⟩, _, rfl, ?_⟩
      refine ⟨l, _, _, names.idxOf t.2, _, rfl, rfl, hl, rfl, List.all_eq_true.mpr fun z hz => by (obtain ⟨y, _, rfl⟩ := List.mem_map.mp hz; rfl), f1, decide_eq_true rfl, f2, ?_⟩
      refine ⟨r, _, _, .int (atV names u t.2), rfl, rfl, hu, atI_nat (by rw [List.getElem?_map, List.getElem?_eq_getElem hix]; unfold atV; rw [getD_of hix]; rfl), _, _, rfl, rfl, cmL (Nat.le_trans (lt t htm) (by decide)), _, _, rfl, rfl, ?_⟩
      refine gn (σ' := [some (.ref a), some (.ref l), some (.ref r), some (.int ((s.ts.take (i + 1)).foldl (fun a t => a + t.1 * atV names u t.2) (s.c * lastV u))), some (.int t.1), some (.str t.2)]) (by rw [List.take_add_one, ht, List.foldl_append]; rfl) ?_
      exact ⟨rfl, _, _, rfl⟩
    · rintro σ H3 ⟨rfl, y1, y2, rfl⟩
      rw [tl, List.take_length]
      exact ⟨_, rfl, q⟩
end
end Sp1

set_option Elab.async false
set_option linter.all false
set_option maxRecDepth 100000
set_option maxHeartbeats 4000000
namespace Sp1
open PySem PySem.Spec PyProof.Rows L2 Pg
section
variable {P : Program} {w : World} {K : PySem.W.Frag} {mg : Str → Option Value} {base : Heap}
def needS (y : Ins) : Str := if y.need = 2 then "way" else if y.need = 1 then "any" else ""
theorem needS_no {y : Ins} (h : ¬ (y.tag = 3 ∨ y.tag = 6)) (h2 : ¬ (y.tag = 0 ∨ y.tag = 5)) : needS y = "" := by
  cases y <;> first | rfl | exact absurd (Or.inl rfl) h | exact absurd (Or.inr rfl) h | exact absurd (Or.inl rfl) h2 | exact absurd (Or.inr rfl) h2
theorem needS_way {y : Ins} (h : y.tag = 3 ∨ y.tag = 6) : needS y = "way" := if_pos (need_way h)
theorem needS_ex {b : Bool} : (if (if b = true then (1 : Nat) else 0) = 2 then ("way" : Str) else if (if b = true then (1 : Nat) else 0) = 1 then "any" else "") = if b = true then "any" else "" := by
  cases b <;> rfl
def sp_lneed (K : PySem.W.Frag) : Sp := fun vs H Q _ => ∃ (a : Addr) (y : Ins) (zs : List V) (names procs : List Str), vs = [.ref a] ∧ SqT K H a (.str y.word :: zs) ∧ DpAll K H zs y.rest ∧ y.Ok names procs ∧ Names names ∧ ∀ H', Same H H' → Q (.str (needS y)) H'
theorem ok__law_need (T : LwM K mg) : FnOk P w K mg base CX0 1 T.f__law_need T.fd__law_need ["_law_instruction"] (sp_lneed K) := by
  refine T.D__law_need.F.ok sc_l_need (fun vs H Q E h => ?_) (fun cdv A outer s H vs Q E hr h => ?_)
  · obtain ⟨a, y, zs, names, procs, rfl, _⟩ := h
    rfl
  · obtain ⟨a, y, zs, names, procs, rfl, hT, hZ, iok, hN, q⟩ := h
    have nd := sc_l_need.nd
    refine ⟨_, (pss_cons (ps_if (pt_cmpR op_in_seq (pe_ix (r := rIxT K) ix_tup (pv 0) pe_int (fun _ _ => rfl)) (pe_lst (pa_cons pe_str (pa_cons pe_str pa_nil))) (by with_unfolding_all rfl))
      (pss_one (ps_ret pe_str))
      pss_nil)
      (pss_cons (ps_if (PW.pt (pw_and (pt_cmpR op_in_seq (pe_ix (r := rIxT K) ix_tup (pv 0) pe_int (fun _ _ => rfl)) (pe_lst (pa_cons pe_str (pa_cons pe_str pa_nil))) (by with_unfolding_all rfl)) (pw_and1 (pt_cmpR op_ne (pe_ix (r := rIxT K) ix_tup (pe_ix (r := rIxT K) ix_tup (pv 0) (pe_un un_neg pe_int) (fun _ _ => rfl)) pe_int (fun _ _ => rfl)) pe_str (nomark _)))))
      (pss_one (ps_ret pe_str))
      pss_nil)
      (pss_one (ps_ret pe_str)))), ?_⟩
    refine ⟨_, rfl, a, _, 0, _, rfl, rfl, hT, at0, small (by show 2 ≤ 5000; decide), fun t2 n2 => ?_⟩
    have s2 := same_new (o := HO.lst [.str "test", .str "turn"]) n2
    have h2 : (upd H t2 (HO.lst [.str "test", .str "turn"])) t2 = some (HO.lst [.str "test", .str "turn"]) := upd_same
    generalize upd H t2 (HO.lst [.str "test", .str "turn"]) = H2 at s2 h2 ⊢
    refine ⟨t2, _, rfl, .inl (SqL.of h2), rfl, rfl, ?_⟩
    refine ⟨_, rfl, ite2 (fun e => ?_) (fun e => ?_)⟩
    · have e : L2.inV (.str y.word) [.str "test", .str "turn"] = true := e
      rw [y.tt] at e
      have := q H2 s2
      rw [needS_way (of_decide_eq_true e)] at this
      exact this
    replace e : ¬ (y.tag = 3 ∨ y.tag = 6) := fun z => e (by
      show L2.inV (.str y.word) [.str "test", .str "turn"] = true
      rw [y.tt]
      exact decide_eq_true z)
    refine tNextI ?_
    refine ⟨_, rfl, a, _, 0, _, rfl, rfl, Same.sqt s2 hT, at0, small (by show 2 ≤ 5000; decide), fun t3 n3 => ?_⟩
    have s3 := same_new (o := HO.lst [.str "set", .str "begin"]) n3
    have h3 : (upd H2 t3 (HO.lst [.str "set", .str "begin"])) t3 = some (HO.lst [.str "set", .str "begin"]) := upd_same
    generalize upd H2 t3 (HO.lst [.str "set", .str "begin"]) = H3 at s3 h3 ⊢
    have s03 := s2.trans s3
    refine ⟨t3, _, rfl, .inl (SqL.of h3), rfl, rfl, ?_⟩
    refine ⟨_, rfl, ite2 (fun e2 => ?_) (fun e2 => ?_)⟩
    · have e2 : L2.inV (.str y.word) [.str "set", .str "begin"] = true := e2
      rw [y.sb] at e2
      have e2 := of_decide_eq_true e2
      obtain ⟨ex, v, hv, hdx, okx, hch⟩ : ∃ (ex : Ex) (v : V), atI (.str y.word :: zs) (-1) = some v ∧ Dp K H3 v ex.D ∧ ex.Ok names ∧ needS y = if ex.free then "any" else "" := by
        cases y with
        | set n e' =>
          cases hZ with
          | cons r1 r2 =>
          cases r2 with
          | cons r2 r3 =>
          cases r3
          exact ⟨e', _, atI_last [_, _] _, dp_keep (Same.tk s03) r2 (Ex.tup hN iok.2), iok.2, needS_ex⟩
        | bgn e' =>
          cases hZ with
          | cons r1 r2 =>
          cases r2
          exact ⟨e', _, atI_last [_] _, dp_keep (Same.tk s03) r1 (Ex.tup hN iok), iok, needS_ex⟩
        | _ =>
          simp only [Ins.tag] at e2
          omega
      obtain ⟨a', z, ys, rfl, hT', he⟩ := dp_ex hdx okx
      refine ⟨_, rfl, _, rfl, a, _, _, _, rfl, rfl, Same.sqt s03 hT, hv, a', _, 0, _, rfl, rfl, hT', at0, rfl, ?_⟩
      rw [he]
      refine ⟨_, rfl, ite2 (fun e3 => ?_) (fun e3 => ?_)⟩
      · have := q H3 s03
        rw [hch, if_pos e3] at this
        exact this
      · have := q H3 s03
        rw [hch, if_neg e3] at this
        refine tNextI ?_
        exact this
    · replace e2 : ¬ (y.tag = 0 ∨ y.tag = 5) := fun z => e2 (by
        show L2.inV (.str y.word) [.str "set", .str "begin"] = true
        rw [y.sb]
        exact decide_eq_true z)
      have := q H3 s03
      rw [needS_no e e2] at this
      refine iteF ?_
      refine tNextI ?_
      exact this
def sp_ltold (K : PySem.W.Frag) : Sp := fun vs H Q _ => ∃ (v : V) (l r : Addr) (names : List Str) (u : List Int) (e : Ex) (k : Int), vs = [v, .ref l, .ref r, .int k] ∧ Dp K H v e.D ∧ e.Ok names ∧ e.Lo ∧ SqL K H l (names.map V.str) ∧ SqT K H r (u.map V.int) ∧ u.length = names.length + 1 ∧ names.length ≤ 4 ∧ CMul k (lastV u) ∧
  ∀ H' t, Same H H' → SqT K H' t [.int (e.val names u k).1, .int (e.val names u k).2] → Q (.ref t) H'
theorem ok__law_told (T : LwM K mg) : FnOk P w K mg base CX0 2 T.f__law_told T.fd__law_told ["_law_expression_here", "_law_names_here", "_law_vector", "_law_choice"] (sp_ltold K) := by
  refine T.D__law_told.F.ok sc_l_told (fun vs H Q E h => ?_) (fun cdv A outer s H vs Q E hr h => ?_)
  · obtain ⟨v, l, r, names, u, e, k, rfl, _⟩ := h
    rfl
  · obtain ⟨v, l, r, names, u, e, k, rfl, hd, ok, lo, hl, hu, ul, nl, hc, q⟩ := h
    have nd := sc_l_told.nd
    obtain ⟨a, z, ys, rfl, hT, he⟩ := dp_ex hd ok
    refine ⟨_, (pss_cons (ps_if (pt_cmpR op_eq (pe_ix (r := rIxT K) ix_tup (pv 0) pe_int (fun _ _ => rfl)) pe_str (nomark _))
      (pss_one (ps_ret (pe_tup (pa_cons (pe_call ((ok__law_worth T).mono (by decide)) hr (by rfl) T.D__law_worth.g T.D__law_worth.kp T.D__law_worth.b .nil pass0 (pa_cons (pv 0) (pa_cons (pv 1) (pa_cons (pv 2) pa_nil)))) (pa_cons (pe_ix (r := rIxT K) ix_tup (pv 0) pe_int (fun _ _ => rfl)) pa_nil)))))
      pss_nil)
      (pss_one (ps_ret (pe_tup (pa_cons (pe_op op_mul (pv 3) (pe_ix (r := rIxT K) ix_tup (pv 2) (pe_un un_neg pe_int) (fun _ _ => rfl))) (pa_cons pe_int pa_nil)))))), ?_⟩
    refine ⟨_, rfl, a, _, 0, _, rfl, rfl, hT, at0, rfl, ?_⟩
    refine ⟨_, rfl, ite2 (fun e1 => ?_) (fun e1 => ?_)⟩
    · have e1 : decide (V.str z = V.str "sum") = true := e1
      rw [e1] at he
      cases e with
      | sum s =>
        obtain ⟨a', tt, ts, ea, hT1, _⟩ := dp_sm hd
        cases ea
        refine ⟨_, rfl, _, rfl, _, rfl, .ref a, l, r, names, u, s, rfl, hd, ok, lo, hl, hu, ul, nl, ?_⟩
        refine ⟨_, rfl, a, _, 3, _, rfl, rfl, hT1, at3, small (by show 2 ≤ 5000; decide), fun t nt => q _ t (same_new nt) (SqT.of upd_same)⟩
      | read => cases he
      | two x b c => cases he
    · have e1 : decide (V.str z = V.str "sum") = false := by
        cases h : decide (V.str z = V.str "sum") with
        | false => rfl
        | true => exact absurd h e1
      rw [e1] at he
      have hval : e.val names u k = (k * lastV u, 1) := by
        cases e with
        | sum s => cases he
        | _ => rfl
      rw [hval] at q
      refine tNextI ?_
      refine ⟨_, rfl, _, rfl, _, rfl, r, _, _, _, rfl, rfl, hu, at_lastV (by omega), _, _, rfl, rfl, hc, small (by show 2 ≤ 5000; decide), fun t nt => q _ t (same_new nt) (SqT.of upd_same)⟩
end
end Sp1

set_option Elab.async false
set_option linter.all false
set_option maxRecDepth 100000
set_option maxHeartbeats 4000000
namespace Sp1
open PySem PySem.Spec PyProof.Rows L2 Pg
theorem cut_butlast {xs : List V} : cutV xs none (some (-1)) = xs.dropLast := by
  unfold cutV HT.sIx
  rw [List.drop_zero, List.dropLast_eq_take]
  congr 1
  simp only [show ((-1 : Int) < 0) = True from by simp, if_true]
  omega
theorem at_last {xs : List V} {z : V} (h : xs[xs.length - 1]? = some z) : atI xs (-1) = some z := by
  have ne : xs ≠ [] := fun e => by rw [e] at h; cases h
  have e : xs = xs.dropLast ++ [z] := by
    conv => lhs; rw [← List.dropLast_concat_getLast ne]
    congr 2
    rw [List.getLast_eq_getElem]
    exact (List.getElem?_eq_some_iff.mp h).2
  rw [e]
  exact atI_last _ _
section
variable {P : Program} {w : World} {K : PySem.W.Frag} {mg : Str → Option Value} {base : Heap}
/-- a run of the law's, a list of three -/
def LrAt (K : PySem.W.Frag) (H : Hp) (r f : Addr) (s : Rs) : Prop := ∃ (v : Addr) (xs : List V), H r = some (.lst [.int (s.at_ : Int), .ref v, .ref f]) ∧ SqT K H v (s.vec.map V.int) ∧ H f = some (.lst xs) ∧ DpAll K H xs (s.fr.map Fr.D)
theorem LrAt.same {H H' : Hp} {r f : Addr} {s : Rs} (h : LrAt K H r f s) (e : Same H H') : LrAt K H' r f s := by
  obtain ⟨v, xs, h1, h2, h3, h4⟩ := h
  exact ⟨v, xs, e _ _ h1, Same.sqt e h2, e _ _ h3, dpAll_keep (Same.tk e) h4 (frD_tup _)⟩
def sp_ljump (K : PySem.W.Frag) (PC : Addr) : Sp := fun vs H Q _ => ∃ (v : V) (r f : Addr) (p : Pt) (s : Rs) (n : Nat) (k : Int) (y : IK), vs = [v, .ref r, .int k] ∧ PgAt K PC H v p ∧ p.Fine ∧ p.Small ∧ p.Lo ∧ LrAt K H r f s ∧ p.ins[s.at_]? = some y ∧ ¬ y.1.tag = 9 ∧ s.Ok p n ∧ n < 40 ∧ (y.1.need = 2 → k = 0 ∨ k = 1) ∧ k.natAbs ≤ 10 ^ 20 ∧
  ∀ H' t f', Same H H' → LrAt K H' t f' (s.step p y.1 k) → (f' = f ∨ H f' = none) → Q (.ref t) H'
theorem ok__law_jump (T : LwM K mg) (PC : PgC K mg) (UE : PgE0 K mg PC.C) : FnOk P w K mg base CX0 6 T.f__law_jump T.fd__law_jump ["_law_scheme", "_law_run", "_law_choice"] (sp_ljump K PC.C) := by
  refine T.D__law_jump.F.ok sc_l_jump (fun vs H Q E h => ?_) (fun cdv A outer s H vs Q E hr h => ?_)
  · obtain ⟨v, r, f, p, s, n, k, y, rfl, _⟩ := h
    rfl
  · obtain ⟨pv', r, f, p, st, n, k, y, rfl, hp, pf, sm, lo, hr', hy, ht, hok, hn, hway, hkb, q⟩ := h
    have nd := sc_l_jump.nd
    obtain ⟨pa, pdx, pcv, pd, pgv, pvv, pqv, pmv, rfl, g1, g2, ⟨c, ys, rfl, hF, hY⟩, g4⟩ := id hp
    obtain ⟨v, xs, h1, h2, h3, h4⟩ := id hr'
    have l4 := pf.l4
    have nl : p.names.length ≤ 4 := by
      show (p.given ++ p.vars).length ≤ 4
      rw [List.length_append]
      exact l4
    have vl := hok.len
    refine ⟨_, (pss_cons (ps_asg (pv 1) (pg_unl rfl (pgs_cons (pg_name (i := 3) nd rfl (.inl rfl)) (pgs_cons (pg_name (i := 4) nd rfl (.inl rfl)) (pgs_cons (pg_name (i := 5) nd rfl (.inl rfl)) pgs_nil)))))
      (pss_cons (ps_par (i := 6) (j := 7) rfl nd rfl rfl (by decide) rfl rfl (pa_cons (pe_callTy call_list_of (by rfl) T.m_list (by decide +kernel) (pa_cons (pe_prop (pv 0) PC.cl PC.P_names (ok_names PC) (hr.mono (by decide)) PC.b_names .nil pass0 rfl) pa_nil)) (pa_cons (pe_ix (r := rIxT K) ix_tup (pe_prop (pv 0) PC.cl PC.P_code (ok_code PC) (hr.mono (by decide)) PC.b_code .nil pass0 rfl) (pv 3) (fun _ _ => rfl)) pa_nil)) rfl)
      (pss_cons (ps_set (i := 8) nd rfl (.inl rfl) (pe_ix (r := rIxT K) ix_tup (pv 7) pe_int (fun _ _ => rfl)))
      (pss_cons (ps_if (pt_cmpR op_eq (pv 8) pe_str (nomark _))
      (pss_cons (ps_asg (pe_call ((ok__law_told T).mono (by decide)) hr (by rfl) T.D__law_told.g T.D__law_told.kp T.D__law_told.b .nil pass0 (pa_cons (pe_ix (r := rIxT K) ix_tup (pv 7) pe_int (fun _ _ => rfl)) (pa_cons (pv 6) (pa_cons (pv 4) (pa_cons (pv 2) pa_nil))))) (pg_tup rfl (pgs_cons (pg_name (i := 9) nd rfl (.inl rfl)) (pgs_cons (pg_name (i := 10) nd rfl (.inl rfl)) pgs_nil))))
        (pss_one (ps_ret (pe_lst (pa_cons (pe_op op_add (pv 3) pe_int) (pa_cons (pe_call ((ok__law_low T).mono (by decide)) hr (by rfl) T.D__law_low.g T.D__law_low.kp T.D__law_low.b .nil pass0 (pa_cons (pe_call ((ok__law_put T).mono (by decide)) hr (by rfl) T.D__law_put.g T.D__law_put.kp T.D__law_put.b .nil pass0 (pa_cons (pv 4) (pa_cons (pe_bm PySem.F.plainAttrs_list PySem.F.slot_list_index PySem.F.type_list_index mt_index (pv 6) (pa_cons (pe_ix (r := rIxT K) ix_tup (pv 7) pe_int (fun _ _ => rfl)) pa_nil)) (pa_cons (pv 9) (pa_cons (pv 10) pa_nil))))) pa_nil)) (pa_cons (pv 5) pa_nil)))))))
      pss_nil)
      (pss_cons (ps_if (pt_cmpR op_eq (pv 8) pe_str (nomark _))
      (pss_cons (ps_par (i := 11) (j := 12) rfl nd rfl rfl (by decide) rfl rfl (pa_cons (pe_bm PySem.F.plainAttrs_list PySem.F.slot_list_index PySem.F.type_list_index mt_index (pv 6) (pa_cons (pe_ix (r := rIxT K) ix_tup (pv 7) pe_int (fun _ _ => rfl)) pa_nil)) (pa_cons (pe_bm PySem.F.plainAttrs_list PySem.F.slot_list_index PySem.F.type_list_index mt_index (pv 6) (pa_cons (pe_ix (r := rIxT K) ix_tup (pv 7) pe_int (fun _ _ => rfl)) pa_nil)) pa_nil)) rfl)
        (pss_one (ps_ret (pe_lst (pa_cons (pe_op op_add (pv 3) pe_int) (pa_cons (pe_call ((ok__law_put T).mono (by decide)) hr (by rfl) T.D__law_put.g T.D__law_put.kp T.D__law_put.b .nil pass0 (pa_cons (pe_call ((ok__law_put T).mono (by decide)) hr (by rfl) T.D__law_put.g T.D__law_put.kp T.D__law_put.b .nil pass0 (pa_cons (pv 4) (pa_cons (pv 11) (pa_cons (pe_ix (r := rIxT K) ix_tup (pv 4) (pv 12) (fun _ _ => rfl)) (pa_cons pe_int pa_nil))))) (pa_cons (pv 12) (pa_cons (pe_ix (r := rIxT K) ix_tup (pv 4) (pv 11) (fun _ _ => rfl)) (pa_cons pe_int pa_nil))))) (pa_cons (pv 5) pa_nil)))))))
      pss_nil)
      (pss_cons (ps_if (pt_cmpR op_eq (pv 8) pe_str (nomark _))
      (pss_one (ps_ret (pe_lst (pa_cons (pe_ifExp (pt_cmpR op_eq (pv 2) pe_int (nomark _)) (pe_op op_add (pv 3) pe_int) (pe_ix (r := rIxT K) ix_tup (pv 7) pe_int (fun _ _ => rfl))) (pa_cons (pv 4) (pa_cons (pv 5) pa_nil))))))
      pss_nil)
      (pss_cons (ps_if (pt_cmpR op_in_seq (pv 8) (pe_lst (pa_cons pe_str (pa_cons pe_str pa_nil))) (by with_unfolding_all rfl))
      (pss_one (ps_ret (pe_lst (pa_cons (pe_ix (r := rIxT K) ix_tup (pv 7) pe_int (fun _ _ => rfl)) (pa_cons (pv 4) (pa_cons (pv 5) pa_nil))))))
      pss_nil)
      (pss_cons (ps_if (pt_cmpR op_eq (pv 8) pe_str (nomark _))
      (pss_cons (ps_asg (pe_call ((ok__law_told T).mono (by decide)) hr (by rfl) T.D__law_told.g T.D__law_told.kp T.D__law_told.b .nil pass0 (pa_cons (pe_ix (r := rIxT K) ix_tup (pv 7) pe_int (fun _ _ => rfl)) (pa_cons (pv 6) (pa_cons (pv 4) (pa_cons (pv 2) pa_nil))))) (pg_tup rfl (pgs_cons (pg_name (i := 9) nd rfl (.inl rfl)) (pgs_cons (pg_name (i := 10) nd rfl (.inl rfl)) pgs_nil))))
        (pss_one (ps_ret (pe_lst (pa_cons (pe_op op_add (pv 3) pe_int) (pa_cons (pv 4) (pa_cons (pe_op op_cat (pv 5) (pe_lst (pa_cons (pe_call ((ok__law_low T).mono (by decide)) hr (by rfl) T.D__law_low.g T.D__law_low.kp T.D__law_low.b .nil pass0 (pa_cons (pe_tup (pa_cons (pv 9) (pa_cons (pe_op op_mul (pv 10) (pe_ix (r := rIxT K) ix_tup (pv 4) (pe_un un_neg pe_int) (fun _ _ => rfl))) pa_nil))) pa_nil)) pa_nil))) pa_nil)))))))
      pss_nil)
      (pss_cons (ps_if (pt_cmpR op_eq (pv 8) pe_str (nomark _))
      (pss_one (ps_ret (pe_ifExp (pt_cmpR op_eq (pv 2) pe_int (nomark _)) (pe_lst (pa_cons (pe_op op_add (pv 3) pe_int) (pa_cons (pv 4) (pa_cons (pv 5) pa_nil)))) (pe_lst (pa_cons (pe_ix (r := rIxT K) ix_tup (pv 7) pe_int (fun _ _ => rfl)) (pa_cons (pv 4) (pa_cons (pe_slice sl_list (pv 5) po_none (po_some (pe_un un_neg pe_int))) pa_nil)))))))
      pss_nil)
      (pss_cons (ps_if (pt_cmpR op_eq (pv 8) pe_str (nomark _))
      (pss_one (ps_ret (pe_lst (pa_cons (pe_meth (pv 0) PC.cl UE.M_entry (ok_entry0 T.toPlF.toPgF.m_isinstance T.toPlF.toPgF.m_str PC UE) (hr.mono (by decide)) UE.b_entry .nil pass0 (pa_cons (pe_ix (r := rIxT K) ix_tup (pv 7) pe_int (fun _ _ => rfl)) pa_nil)) (pa_cons (pv 4) (pa_cons (pe_op op_cat (pv 5) (pe_lst (pa_cons (pe_op op_add (pv 3) pe_int) pa_nil))) pa_nil))))))
      pss_nil)
      (pss_cons (ps_if (pt_cmpR op_eq (pv 8) pe_str (nomark _))
      (pss_one (ps_ret (pe_lst (pa_cons (pe_ix (r := rIxL K) ix_list (pv 5) (pe_un un_neg pe_int) (fun _ _ => rfl)) (pa_cons (pv 4) (pa_cons (pe_slice sl_list (pv 5) po_none (po_some (pe_un un_neg pe_int))) pa_nil))))))
      pss_nil)
      (pss_one (ps_ret (pe_lst (pa_cons (pe_op op_add (pv 3) pe_int) (pa_cons (pv 4) (pa_cons (pv 5) pa_nil))))))))))))))))), ?_⟩
    refine ⟨_, rfl, r, _, rfl, SqL.of h1, rfl, _, _, rfl, _, _, rfl, _, _, rfl, rfl, ?_⟩
    dsimp only [List.set]
    refine ⟨_, rfl, pa, pdx, _, rfl, g1, .ref pa, p, rfl, hp, l4, fun H1 nv s1 hnv => ?_⟩
    obtain ⟨nb, rfl, hbT⟩ := hnv
    refine ⟨nb, _, rfl, .inr hbT, fun L nL => ?_⟩
    have s2 := same_new (o := HO.lst (p.names.map V.str)) nL
    have hL : (upd H1 L (HO.lst (p.names.map V.str))) L = some (HO.lst (p.names.map V.str)) := upd_same
    generalize upd H1 L (HO.lst (p.names.map V.str)) = H2 at s2 hL ⊢
    have s02 := s1.trans s2
    have hl' : st.at_ < ys.length := by
      rw [dpAll_len hY, ← p.ins_len]
      exact (List.getElem?_eq_some_iff.mp hy).1
    obtain ⟨y', hy', hdp⟩ := cdv_at hY (List.getElem?_eq_getElem hl')
    rw [hy] at hy'
    cases hy'
    have iok := Pt.ins_ok pf y (List.mem_of_getElem? hy)
    have ilo := Pt.ins_lo lo y (List.mem_of_getElem? hy)
    obtain ⟨a, zs, ea, hT, hZ⟩ := dp_ins (dp_keep (Same.tk s02) hdp (ins_tupD pf hy))
    refine ⟨_, rfl, pa, pdx, _, rfl, s02 _ _ g1, pa, pdx, _, _, rfl, s02 _ _ g1, pgF_code _ _ _ _ _ _, _, rfl, c, ys, _, .ref a, rfl, rfl, Same.sqt s02 hF.sqt, by rw [← ea]; exact atI_nat (List.getElem?_eq_getElem hl'), ?_⟩
    refine ⟨_, _, rfl, ?_⟩
    dsimp only [List.set]
    refine ⟨_, rfl, a, _, 0, _, rfl, rfl, hT, at0, ?_⟩
    refine gn (σ' := [some (.ref pa), some (.ref r), some (.int k), some (.int (st.at_ : Int)), some (.ref v), some (.ref f), some (.ref L), some (.ref a), some (.str y.1.word), none, none, none, none]) rfl ?_
    have e0 : decide (V.str y.1.word = V.str "set") = decide (y.1.tag = 0) := y.1.is_eq 0 (by decide)
    have e1 : decide (V.str y.1.word = V.str "swap") = decide (y.1.tag = 1) := y.1.is_eq 1 (by decide)
    have e3 : decide (V.str y.1.word = V.str "test") = decide (y.1.tag = 3) := y.1.is_eq 3 (by decide)
    have e5 : decide (V.str y.1.word = V.str "begin") = decide (y.1.tag = 5) := y.1.is_eq 5 (by decide)
    have e6 : decide (V.str y.1.word = V.str "turn") = decide (y.1.tag = 6) := y.1.is_eq 6 (by decide)
    have e8 : decide (V.str y.1.word = V.str "call") = decide (y.1.tag = 8) := y.1.is_eq 8 (by decide)
    have e10 : decide (V.str y.1.word = V.str "return") = decide (y.1.tag = 10) := y.1.is_eq 10 (by decide)
    have hcm : CMul k (lastV st.vec) := cmul64 hok.m1 (Int.le_trans hok.m2 (three40 (by omega)))
    have hv2 := Same.sqt s02 h2
    have hf2 := s02 _ _ h3
    have hA2 := dpAll_keep (Same.tk s02) h4 (frD_tup _)
    have fin : ∀ {H' : Hp}, Same H H' → ∀ (i : Nat) (v' f' : Addr) (u' : List Int) (xs' : List V) (fr' : List Fr), SqT K H' v' (u'.map V.int) → H' f' = some (.lst xs') → DpAll K H' xs' (fr'.map Fr.D) → st.step p y.1 k = ⟨i, u', fr'⟩ → (f' = f ∨ H f' = none) → ∀ t, H' t = none → Q (.ref t) (upd H' t (.lst [.int (i : Int), .ref v', .ref f'])) := fun s' i v' f' u' xs' fr' b1 b2 b3 b4 b5 t nt => by
      have sn := same_new (o := .lst [.int (i : Int), .ref v', .ref f']) nt
      refine q _ t f' (s'.trans sn) ?_ b5
      rw [b4]
      exact ⟨v', xs', upd_same, Same.sqt sn b1, sn _ _ b2, dpAll_keep (Same.tk sn) b3 (frD_tup _)⟩
    have allf : (p.names.map V.str).all flatV = true := List.all_eq_true.mpr fun z hz => by (obtain ⟨y, _, rfl⟩ := List.mem_map.mp hz; rfl)
    have one_map : ∀ u : List Int, u.map (1 * ·) = u := fun u => by
      conv => rhs; rw [← List.map_id u]
      exact List.map_congr_left fun x _ => Int.one_mul x
    -- set
    refine ⟨_, rfl, rfl, ?_⟩
    rw [e0]
    refine ⟨_, rfl, ite2 (fun t0 => ?_) (fun t0 => ?_)⟩
    · obtain ⟨nm, e, hye⟩ := tag_set (of_decide_eq_true (p := y.1.tag = 0) t0)
      obtain ⟨y1, kk⟩ := y
      subst hye
      cases hZ with
      | cons r1 r2 =>
      cases r1
      cases r2 with
      | cons r2 r3 =>
      cases r3
      obtain ⟨i1, i2⟩ := idx_first iok.1
      have hix := idx_lt iok.1 vl
      obtain ⟨w1, w2, w3, w4⟩ := set_raw (k := k) hok iok.1 iok.2 ilo hkb
      obtain ⟨d1, d3⟩ := val_d (u := st.vec) (k := k) ilo iok.2
      refine ⟨_, rfl, a, _, 2, _, rfl, rfl, hT, at2, _, rfl, _, rfl, _, rfl, ?_⟩
      refine ⟨_, L, v, p.names, st.vec, e, k, rfl, r2, iok.2, ilo, SqL.of hL, hv2, vl, nl, hcm, fun H3 t s3 ht3 => ?_⟩
      refine ⟨t, _, rfl, ht3, rfl, _, _, rfl, _, _, rfl, rfl, ?_⟩
      dsimp only [List.set]
      have s03 := s02.trans s3
      refine ⟨_, rfl, _, _, rfl, rfl, _, rfl, _, rfl, .inl ⟨rfl, _, SqL.of (s3 _ _ hL)⟩, _, rfl, a, _, 1, _, rfl, rfl, Same.sqt s3 hT, at1, ?_⟩
      refine ⟨L, _, _, p.names.idxOf nm, _, rfl, rfl, SqL.of (s3 _ _ hL), rfl, allf, i1, decide_eq_true rfl, i2, _, rfl, _, rfl, ?_⟩
      refine ⟨v, st.vec, p.names.idxOf nm, _, _, rfl, Same.sqt s3 hv2, by omega, by omega, by omega, fun H4 t4 s4 ht4 => ?_⟩
      refine ⟨t4, (Ins.set nm e).res p.names st.vec k, rfl, ht4, by omega, ⟨_, m_mem (by omega), fun z => by rw [z] at w2; exact absurd w2 (by decide), big40 (n := n + 1) (by omega) (w4 _ (m_mem (by omega)))⟩, fun H5 t5 s5 ht5 => ?_⟩
      refine ⟨_, rfl, small (by show 3 ≤ 5000; decide), fun t6 n6 => ?_⟩
      have s35 := s3.trans (s4.trans s5)
      exact fin (s02.trans s35) (st.at_ + 1) t5 f _ xs _ ht5 (s35 _ _ hf2) (dpAll_keep (Same.tk s35) hA2 (frD_tup _)) rfl (.inl rfl) t6 n6
    replace t0 : ¬ y.1.tag = 0 := fun z => t0 (decide_eq_true z)
    refine tNextI ?_
    -- swap
    refine ⟨_, rfl, rfl, ?_⟩
    rw [e1]
    refine ⟨_, rfl, ite2 (fun t1 => ?_) (fun t1 => ?_)⟩
    · obtain ⟨n1, n2, hye⟩ := tag_swap (of_decide_eq_true (p := y.1.tag = 1) t1)
      obtain ⟨y1, kk⟩ := y
      subst hye
      cases hZ with
      | cons r1 r2 =>
      cases r1
      cases r2 with
      | cons r2 r3 =>
      cases r2
      cases r3
      obtain ⟨i1, i2⟩ := idx_first iok.1
      obtain ⟨j1, j2⟩ := idx_first iok.2.1
      have hi1 := idx_lt iok.1 vl
      have hi2 := idx_lt iok.2.1 vl
      refine ⟨_, rfl, .inl ⟨rfl, _, SqL.of hL⟩, _, rfl, a, _, 1, _, rfl, rfl, hT, at1, ?_⟩
      refine ⟨L, _, _, p.names.idxOf n1, _, rfl, rfl, SqL.of hL, rfl, allf, i1, decide_eq_true rfl, i2, ?_⟩
      refine ⟨_, rfl, .inl ⟨rfl, _, SqL.of hL⟩, _, rfl, a, _, 2, _, rfl, rfl, hT, at2, ?_⟩
      refine ⟨L, _, _, p.names.idxOf n2, _, rfl, rfl, SqL.of hL, rfl, allf, j1, decide_eq_true rfl, j2, ?_⟩
      refine ⟨_, _, rfl, ?_⟩
      dsimp only [List.set]
      have z1 : atI (st.vec.map V.int) ((p.names.idxOf n1 : Nat) : Int) = some (.int (atV p.names st.vec n1)) := atI_nat (by rw [List.getElem?_map, List.getElem?_eq_getElem (by omega)]; unfold atV; rw [getD_of (by omega)]; rfl)
      have z2 : atI (st.vec.map V.int) ((p.names.idxOf n2 : Nat) : Int) = some (.int (atV p.names st.vec n2)) := atI_nat (by rw [List.getElem?_map, List.getElem?_eq_getElem (by omega)]; unfold atV; rw [getD_of (by omega)]; rfl)
      refine ⟨_, rfl, _, _, rfl, rfl, _, rfl, _, rfl, _, rfl, _, rfl, v, _, _, _, rfl, rfl, hv2, z2, ?_⟩
      refine ⟨v, st.vec, p.names.idxOf n1, _, 1, rfl, hv2, by omega, by omega, by decide, fun H3 t3 s3 ht3 => ?_⟩
      rw [one_map] at ht3
      refine ⟨_, rfl, _, rfl, _, rfl, v, _, _, _, rfl, rfl, Same.sqt s3 hv2, z1, ?_⟩
      refine ⟨t3, st.vec.set (p.names.idxOf n1) (atV p.names st.vec n2), p.names.idxOf n2, _, 1, rfl, ht3, by rw [List.length_set]; omega, by rw [List.length_set]; omega, by decide, fun H4 t4 s4 ht4 => ?_⟩
      rw [one_map] at ht4
      refine ⟨_, rfl, small (by show 3 ≤ 5000; decide), fun t6 n6 => ?_⟩
      have s34 := s3.trans s4
      exact fin (s02.trans s34) (st.at_ + 1) t4 f _ xs _ ht4 (s34 _ _ hf2) (dpAll_keep (Same.tk s34) hA2 (frD_tup _)) rfl (.inl rfl) t6 n6
    replace t1 : ¬ y.1.tag = 1 := fun z => t1 (decide_eq_true z)
    refine tNextI ?_
    -- test
    refine ⟨_, rfl, rfl, ?_⟩
    rw [e3]
    refine ⟨_, rfl, ite2 (fun t3 => ?_) (fun t3 => ?_)⟩
    · have t3 := of_decide_eq_true (p := y.1.tag = 3) t3
      have hw := hway (need_way (.inl t3))
      obtain ⟨y1, kk⟩ := y
      obtain ⟨e, m, hye⟩ : ∃ e m, y1 = .test e m := by cases y1 <;> first | exact ⟨_, _, rfl⟩ | cases t3
      subst hye
      cases hZ with
      | cons r1 r2 =>
      cases r2 with
      | cons r2 r3 =>
      cases r2
      cases r3
      refine ⟨_, rfl, rfl, ?_⟩
      rcases hw with rfl | rfl
      · refine ⟨_, rfl, iteF ?_⟩
        refine ⟨_, rfl, a, _, 2, _, rfl, rfl, hT, at2, _, rfl, _, rfl, small (by show 3 ≤ 5000; decide), fun t6 n6 => ?_⟩
        exact fin s02 m v f _ xs _ hv2 hf2 hA2 rfl (.inl rfl) t6 n6
      · refine ⟨_, rfl, iteT ?_⟩
        refine ⟨_, rfl, _, _, rfl, rfl, _, rfl, _, rfl, small (by show 3 ≤ 5000; decide), fun t6 n6 => ?_⟩
        exact fin s02 (st.at_ + 1) v f _ xs _ hv2 hf2 hA2 rfl (.inl rfl) t6 n6
    replace t3 : ¬ y.1.tag = 3 := fun z => t3 (decide_eq_true z)
    refine tNextI ?_
    -- go
    refine ⟨_, rfl, small (by show 2 ≤ 5000; decide), fun tg ng => ?_⟩
    have s3 := same_new (o := HO.lst [.str "go", .str "again"]) ng
    have hg : (upd H2 tg (HO.lst [.str "go", .str "again"])) tg = some (HO.lst [.str "go", .str "again"]) := upd_same
    generalize upd H2 tg (HO.lst [.str "go", .str "again"]) = H3 at s3 hg ⊢
    have s03 := s02.trans s3
    refine ⟨tg, _, rfl, .inl (SqL.of hg), rfl, rfl, ?_⟩
    refine ⟨_, rfl, ite2 (fun e => ?_) (fun e => ?_)⟩
    · have e : L2.inV (.str y.1.word) [.str "go", .str "again"] = true := e
      rw [y.1.ga] at e
      have e := of_decide_eq_true e
      obtain ⟨y1, kk⟩ := y
      have : ∃ (m : Nat) (rs : List V), zs = .int (m : Int) :: rs ∧ st.step p y1 k = ⟨m, st.vec, st.fr⟩ := by
        cases y1 with
        | go n w =>
          cases hZ with
          | cons r1 r2 =>
          cases r1
          exact ⟨n, _, rfl, rfl⟩
        | again n =>
          cases hZ with
          | cons r1 r2 =>
          cases r1
          exact ⟨n, _, rfl, rfl⟩
        | _ =>
          simp only [Ins.tag] at e
          omega
      obtain ⟨m, rs, rfl, es⟩ := this
      refine ⟨_, rfl, a, _, 1, _, rfl, rfl, Same.sqt s3 hT, at1, _, rfl, _, rfl, small (by show 3 ≤ 5000; decide), fun t6 n6 => ?_⟩
      exact fin s03 m v f _ xs _ (Same.sqt s3 hv2) (s3 _ _ hf2) (dpAll_keep (Same.tk s3) hA2 (frD_tup _)) es (.inl rfl) t6 n6
    replace e : ¬ (y.1.tag = 4 ∨ y.1.tag = 7) := fun z => e (by
      show L2.inV (.str y.1.word) [.str "go", .str "again"] = true
      rw [y.1.ga]
      exact decide_eq_true z)
    refine tNextI ?_
    have hv3 := Same.sqt s3 hv2
    have hf3 := s3 _ _ hf2
    have hA3 := dpAll_keep (Same.tk s3) hA2 (frD_tup _)
    have hT3 := Same.sqt s3 hT
    have hL3 := s3 _ _ hL
    have xl := dpAll_len hA3
    rw [List.length_map] at xl
    have hfl := hok.fl
    -- begin
    refine ⟨_, rfl, rfl, ?_⟩
    rw [e5]
    refine ⟨_, rfl, ite2 (fun t5 => ?_) (fun t5 => ?_)⟩
    · obtain ⟨e', hye⟩ := tag_bgn (of_decide_eq_true (p := y.1.tag = 5) t5)
      obtain ⟨y1, kk⟩ := y
      subst hye
      cases hZ with
      | cons r1 r2 =>
      cases r2
      obtain ⟨b1, b2⟩ := begin_raw (k := k) hok iok ilo hkb
      obtain ⟨d1, d3⟩ := val_d (u := st.vec) (k := k) ilo iok
      refine ⟨_, rfl, a, _, 1, _, rfl, rfl, hT3, at1, _, rfl, _, rfl, _, rfl, ?_⟩
      refine ⟨_, L, v, p.names, st.vec, e', k, rfl, dp_keep (Same.tk s3) r1 (Ex.tup pf.N iok), iok, ilo, SqL.of hL3, hv3, vl, nl, hcm, fun H4 t s4 ht4 => ?_⟩
      refine ⟨t, _, rfl, ht4, rfl, _, _, rfl, _, _, rfl, rfl, ?_⟩
      dsimp only [List.set]
      refine ⟨_, rfl, _, _, rfl, rfl, _, rfl, _, rfl, _, rfl, _, rfl, _, rfl, _, rfl, v, _, _, _, rfl, rfl, Same.sqt s4 hv3, at_lastV (by omega), _, _, rfl, rfl, .inl (by omega), small (by show 2 ≤ 5000; decide), fun t5' n5 => ?_⟩
      have s5 := same_new (o := HO.tup [.int (e'.val p.names st.vec k).1, .int ((e'.val p.names st.vec k).2 * lastV st.vec)]) n5
      have h5 : (upd H4 t5' (HO.tup [.int (e'.val p.names st.vec k).1, .int ((e'.val p.names st.vec k).2 * lastV st.vec)])) t5' = some (HO.tup [.int (e'.val p.names st.vec k).1, .int ((e'.val p.names st.vec k).2 * lastV st.vec)]) := upd_same
      generalize upd H4 t5' (HO.tup [.int (e'.val p.names st.vec k).1, .int ((e'.val p.names st.vec k).2 * lastV st.vec)]) = H5 at s5 h5 ⊢
      refine ⟨t5', [(e'.val p.names st.vec k).1, (e'.val p.names st.vec k).2 * lastV st.vec], rfl, SqT.of h5, by show 2 ≤ 1000; decide, ⟨_, List.mem_cons_of_mem _ List.mem_cons_self, by omega, big40 (n := n + 1) (by omega) (b2 _ (List.mem_cons_of_mem _ List.mem_cons_self))⟩, fun H6 t6 s6 ht6 => ?_⟩
      refine ⟨small (by show 1 ≤ 5000; decide), fun t7 n7 => ?_⟩
      have s7 := same_new (o := HO.lst [.ref t6]) n7
      have h7 : (upd H6 t7 (HO.lst [.ref t6])) t7 = some (HO.lst [.ref t6]) := upd_same
      generalize upd H6 t7 (HO.lst [.ref t6]) = H7 at s7 h7 ⊢
      have s37 := (s4.trans s5).trans (s6.trans s7)
      refine ⟨f, t7, xs, _, rfl, rfl, s37 _ _ hf3, h7, by rw [sizeLine_eq]; show _ + 1 ≤ _; omega, fun t8 n8 => ?_⟩
      have s8 := same_new (o := HO.lst (xs ++ [.ref t6])) n8
      have h8 : (upd H7 t8 (HO.lst (xs ++ [.ref t6]))) t8 = some (HO.lst (xs ++ [.ref t6])) := upd_same
      generalize upd H7 t8 (HO.lst (xs ++ [.ref t6])) = H8 at s8 h8 ⊢
      have s38 := s37.trans s8
      refine ⟨small (by show 3 ≤ 5000; decide), fun t9 n9 => ?_⟩
      refine fin (s03.trans s38) (st.at_ + 1) v t8 st.vec _ _ (Same.sqt s38 hv3) h8 ?_ rfl (.inr ((s03.trans s37).free n8)) t9 n9
      rw [List.map_append]
      exact dpAll_snoc (dpAll_keep (Same.tk s38) hA3 (frD_tup _)) (.tup (Same.sqt (s7.trans s8) ht6) (.cons (.int _) (.cons (.int _) .nil)))
    replace t5 : ¬ y.1.tag = 5 := fun z => t5 (decide_eq_true z)
    refine tNextI ?_
    -- turn
    refine ⟨_, rfl, rfl, ?_⟩
    rw [e6]
    refine ⟨_, rfl, ite2 (fun t6 => ?_) (fun t6 => ?_)⟩
    · have t6 := of_decide_eq_true (p := y.1.tag = 6) t6
      have hw := hway (need_way (.inr t6))
      obtain ⟨m, hye⟩ := tag_turn t6
      obtain ⟨y1, kk⟩ := y
      subst hye
      cases hZ with
      | cons r1 r2 =>
      cases r1
      cases r2
      refine ⟨_, rfl, rfl, ?_⟩
      rcases hw with rfl | rfl
      · refine ⟨_, rfl, iteF ?_⟩
        refine ⟨_, rfl, a, _, 1, _, rfl, rfl, hT3, at1, _, rfl, _, rfl, ?_⟩
        dsimp only [tNoPart]
        refine ⟨_, rfl, _, rfl, f, xs, rfl, SqL.of hf3, fun t7 n7 => ?_⟩
        rw [cut_butlast]
        have s4 := same_new (o := HO.lst xs.dropLast) n7
        have h4' : (upd H3 t7 (HO.lst xs.dropLast)) t7 = some (HO.lst xs.dropLast) := upd_same
        generalize upd H3 t7 (HO.lst xs.dropLast) = H4 at s4 h4' ⊢
        refine ⟨small (by show 3 ≤ 5000; decide), fun t9 n9 => ?_⟩
        refine fin (s03.trans s4) m v t7 st.vec _ st.fr.dropLast (Same.sqt s4 hv3) h4' ?_ rfl (.inr (s03.free n7)) t9 n9
        have := dpAll_butlast (dpAll_keep (Same.tk s4) hA3 (frD_tup _))
        rw [← List.map_dropLast] at this
        exact this
      · refine ⟨_, rfl, iteT ?_⟩
        refine ⟨_, rfl, _, _, rfl, rfl, _, rfl, _, rfl, small (by show 3 ≤ 5000; decide), fun t9 n9 => ?_⟩
        exact fin s03 (st.at_ + 1) v f _ xs _ hv3 hf3 hA3 rfl (.inl rfl) t9 n9
    replace t6 : ¬ y.1.tag = 6 := fun z => t6 (decide_eq_true z)
    refine tNextI ?_
    -- call
    refine ⟨_, rfl, rfl, ?_⟩
    rw [e8]
    refine ⟨_, rfl, ite2 (fun t8 => ?_) (fun t8 => ?_)⟩
    · obtain ⟨xx, hye⟩ := tag_call (y := y.1) (of_decide_eq_true (p := y.1.tag = 8) t8)
      obtain ⟨y1, kk⟩ := y
      subst hye
      cases hZ with
      | cons r1 r2 =>
      cases r1
      cases r2
      obtain ⟨nn, hnn, _⟩ := Pt.entry_at (p := p) (x := xx) iok
      have es : st.step p (Ins.call xx) k = ⟨nn, st.vec, st.fr ++ [.adr (st.at_ + 1)]⟩ := by
        show Rs.mk ((p.entN xx).getD 0) _ _ = _
        rw [hnn]
        rfl
      refine ⟨_, rfl, pa, pdx, _, rfl, s03 _ _ g1, pgF_noentry, _, rfl, a, _, 1, _, rfl, rfl, hT3, at1, ?_⟩
      refine ⟨.ref pa, p, xx, nn, rfl, hp.same pf s03, pf, hnn, _, rfl, _, rfl, _, rfl, _, _, rfl, rfl, small (by show 1 ≤ 5000; decide), fun t7 n7 => ?_⟩
      have s4 := same_new (o := HO.lst [.int ((st.at_ : Int) + 1)]) n7
      have h4' : (upd H3 t7 (HO.lst [.int ((st.at_ : Int) + 1)])) t7 = some (HO.lst [.int ((st.at_ : Int) + 1)]) := upd_same
      generalize upd H3 t7 (HO.lst [.int ((st.at_ : Int) + 1)]) = H4 at s4 h4' ⊢
      refine ⟨f, t7, xs, _, rfl, rfl, s4 _ _ hf3, h4', by rw [sizeLine_eq]; show _ + 1 ≤ _; omega, fun t8' n8 => ?_⟩
      have s5 := same_new (o := HO.lst (xs ++ [.int ((st.at_ : Int) + 1)])) n8
      have h5 : (upd H4 t8' (HO.lst (xs ++ [.int ((st.at_ : Int) + 1)]))) t8' = some (HO.lst (xs ++ [.int ((st.at_ : Int) + 1)])) := upd_same
      generalize upd H4 t8' (HO.lst (xs ++ [.int ((st.at_ : Int) + 1)])) = H5 at s5 h5 ⊢
      have s35 := s4.trans s5
      refine ⟨small (by show 3 ≤ 5000; decide), fun t9 n9 => ?_⟩
      refine fin (s03.trans s35) nn v t8' st.vec _ _ (Same.sqt s35 hv3) h5 ?_ es (.inr ((s03.trans s4).free n8)) t9 n9
      rw [List.map_append]
      exact dpAll_snoc (dpAll_keep (Same.tk s35) hA3 (frD_tup _)) (.int _)
    replace t8 : ¬ y.1.tag = 8 := fun z => t8 (decide_eq_true z)
    refine tNextI ?_
    -- return
    refine ⟨_, rfl, rfl, ?_⟩
    rw [e10]
    refine ⟨_, rfl, ite2 (fun t10 => ?_) (fun t10 => ?_)⟩
    · have t10 := of_decide_eq_true (p := y.1.tag = 10) t10
      have fl := Pt.flow pf hy
      obtain ⟨y1, kk⟩ := y
      have hye : y1 = .ret := by cases y1 <;> first | rfl | cases t10
      subst hye
      obtain ⟨rfl, hM⟩ := fl
      obtain ⟨j, hj, stk'⟩ := hok.stk.back hy hM
      have hxl := dpAll_last hA3 hj
      have es : st.step p Ins.ret k = ⟨j, st.vec, st.fr.dropLast⟩ := by
        show Rs.mk (match st.fr.getLast? with | some (.adr j) => j | _ => 0) _ _ = _
        rw [hj]
      refine ⟨_, rfl, _, rfl, f, xs, _, _, rfl, rfl, SqL.of hf3, at_last hxl, _, rfl, _, rfl, ?_⟩
      dsimp only [tNoPart]
      refine ⟨_, rfl, _, rfl, f, xs, rfl, SqL.of hf3, fun t7 n7 => ?_⟩
      rw [cut_butlast]
      have s4 := same_new (o := HO.lst xs.dropLast) n7
      have h4' : (upd H3 t7 (HO.lst xs.dropLast)) t7 = some (HO.lst xs.dropLast) := upd_same
      generalize upd H3 t7 (HO.lst xs.dropLast) = H4 at s4 h4' ⊢
      refine ⟨small (by show 3 ≤ 5000; decide), fun t9 n9 => ?_⟩
      refine fin (s03.trans s4) j v t7 st.vec _ st.fr.dropLast (Same.sqt s4 hv3) h4' ?_ es (.inr (s03.free n7)) t9 n9
      have := dpAll_butlast (dpAll_keep (Same.tk s4) hA3 (frD_tup _))
      rw [← List.map_dropLast] at this
      exact this
    replace t10 : ¬ y.1.tag = 10 := fun z => t10 (decide_eq_true z)
    refine tNextI ?_
    -- print
    have es : st.step p y.1 k = ⟨st.at_ + 1, st.vec, st.fr⟩ := by
      obtain ⟨y1, kk⟩ := y
      cases y1 <;> first | rfl | exact absurd rfl t0 | exact absurd rfl t1 | exact absurd rfl t3 | exact absurd rfl t5 | exact absurd rfl t6 | exact absurd rfl t8 | exact absurd rfl t10 | exact absurd rfl ht | exact absurd (Or.inl rfl) e | exact absurd (Or.inr rfl) e
    refine ⟨_, rfl, _, _, rfl, rfl, _, rfl, _, rfl, small (by show 3 ≤ 5000; decide), fun t9 n9 => ?_⟩
    exact fin s03 (st.at_ + 1) v f _ xs _ hv3 hf3 hA3 es (.inl rfl) t9 n9
end
end Sp1

set_option Elab.async false
set_option linter.all false
set_option maxRecDepth 100000
set_option maxHeartbeats 4000000
namespace Sp1
open PySem PySem.Spec PyProof.Rows L2 Pg
section
variable {P : Program} {w : World} {K : PySem.W.Frag} {mg : Str → Option Value} {base : Heap}
def sp_lfirst (K : PySem.W.Frag) (PC : Addr) : Sp := fun vs H Q _ => ∃ (v : V) (d : Addr) (p : Pt) (g : Str → Option Int), vs = [v, .ref d] ∧ PgAt K PC H v p ∧ p.Fine ∧ StAt H d g ∧ ∀ H' t f, Same H H' → LrAt K H' t f ⟨0, startV p g ++ [1], []⟩ → H f = none → Q (.ref t) H'
theorem ok__law_first (T : LwM K mg) (PC : PgC K mg) : FnOk P w K mg base CX0 3 T.f__law_first T.fd__law_first ["_law_scheme", "_law_opening"] (sp_lfirst K PC.C) := by
  refine T.D__law_first.F.ok sc_l_first (fun vs H Q E h => ?_) (fun cdv A outer s H vs Q E hr h => ?_)
  · obtain ⟨v, d, p, g, rfl, _⟩ := h
    rfl
  · obtain ⟨v, d, p, g, rfl, hp, f, ⟨kvs, hd, hg⟩, q⟩ := h
    have nd := sc_l_first.nd
    have l4 := f.l4
    have nl : p.names.length ≤ 4 := by
      show (p.given ++ p.vars).length ≤ 4
      rw [List.length_append]
      exact l4
    obtain ⟨pa, pdx, pcv, pd, pgv, pvv, pqv, pmv, rfl, g1, g2, g3, g4⟩ := id hp
    refine ⟨_, (pss_cons (ps_setLc (i := 2) (own := [("_law_name", 3)]) (g := (gName 3)) (tt := tYes) rfl nd rfl rfl (sw_true rfl rfl rfl (by decide +kernel)) (pi_tup (pe_prop (pv 0) PC.cl PC.P_names (ok_names PC) (hr.mono (by decide)) PC.b_names .nil pass0 rfl)) (blkOk_by (N := N_l_first) (sc := defScope s_l_first) (by decide +kernel)) (fun _ _ _ _ _ => (pg_name (i := 3) nd rfl (.inl rfl))) (fun _ _ _ _ _ => pts_nil) (fun _ _ _ _ _ => (pe_ifExp (pt_cmp (pc_din (hu_of hr) (pv 3) (pv 1))) (pe_dget (hu_of hr) (pv 1) (pv 3) (fun _ _ => rfl)) pe_int)))
      (pss_one (ps_ret (pe_lst (pa_cons pe_int (pa_cons (pe_callTy call_tuple_of (by rfl) T.m_tuple (by decide +kernel) (pa_cons (pe_op op_cat (pv 2) (pe_lst (pa_cons pe_int pa_nil))) pa_nil)) (pa_cons (pe_lst pa_nil) pa_nil))))))), ?_⟩
    refine ⟨_, rfl, pa, pdx, _, rfl, g1, .ref pa, p, rfl, hp, l4, fun H1 nv s1 hnv => ?_⟩
    obtain ⟨nb, rfl, hbT⟩ := hnv
    refine ⟨nb, rfl, ⟨_, hbT⟩, fun D nD => ?_⟩
    refine lc_it (walk_tup (K := K) (a := nb) (xs := p.names.map V.str)) (Acc H1 D fun j => V.int ((startV p g).getD j 0)) (Acc.start nD) (fun i H' _ h => Same.sqt h.1 hbT) ?_ ?_
    · rintro i v' H2 H3 hi ac ⟨rfl, hv⟩
      rw [List.length_map] at hi
      rw [List.getElem?_map, List.getElem?_eq_getElem hi] at hv
      cases hv
      have hd2 := ac.1 _ _ (s1 _ _ hd)
      have hval := hg p.names[i]
      have est : (startV p g).getD i 0 = (g p.names[i]).getD 0 := by
        unfold startV
        rw [List.getD_eq_getElem?_getD, List.getElem?_map, List.getElem?_eq_getElem hi]
        rfl
      refine ⟨rfl, ?_⟩
      dsimp only [tYes]
      refine iteT ?_
      cases hgi : g p.names[i] with
      | none =>
        rw [hgi] at hval est
        refine ⟨_, rfl, _, rfl, d, none, rfl, .inl ⟨kvs, Sum.inr p.names[i], .inl hd2, rfl, hval.symm⟩, _, rfl, iteF ?_⟩
        exact ac.turn nD (Same.refl _) (by omega) (by rw [est]; rfl)
      | some k =>
        rw [hgi] at hval est
        refine ⟨_, rfl, _, rfl, d, some (.int k), rfl, .inl ⟨kvs, Sum.inr p.names[i], .inl hd2, rfl, hval.symm⟩, _, rfl, iteT ?_⟩
        refine ⟨_, rfl, _, rfl, d, .int k, rfl, .inl ⟨kvs, Sum.inr p.names[i], .inl hd2, rfl, hval.symm⟩, ?_⟩
        exact ac.turn nD (Same.refl _) (by omega) (by rw [est]; rfl)
    · rintro H2 ⟨s2, hD⟩
      rw [List.length_map] at hD
      have hD' : H2 D = some (.lst ((startV p g).map V.int)) := by
        rw [hD]
        congr 2
        exact range_getD (by unfold startV; rw [List.length_map])
      refine gn (σ' := [some (.ref pa), some (.ref d), some (.ref D), none]) rfl ?_
      refine ⟨_, rfl, small (by show 1 ≤ 5000; decide), fun l1 n1 => ?_⟩
      have s3 := same_new (o := HO.lst [.int 1]) n1
      have h3 : (upd H2 l1 (HO.lst [.int 1])) l1 = some (HO.lst [.int 1]) := upd_same
      generalize upd H2 l1 (HO.lst [.int 1]) = H3 at s3 h3 ⊢
      refine ⟨D, l1, _, _, rfl, rfl, s3 _ _ hD', h3, by rw [sizeLine_eq, List.length_map]; unfold startV; rw [List.length_map]; show _ + 1 ≤ _; omega, fun l2 n2 => ?_⟩
      have s4 := same_new (o := HO.lst ((startV p g).map V.int ++ [.int 1])) n2
      have h4 : (upd H3 l2 (HO.lst ((startV p g).map V.int ++ [.int 1]))) l2 = some (HO.lst ((startV p g).map V.int ++ [.int 1])) := upd_same
      generalize upd H3 l2 (HO.lst ((startV p g).map V.int ++ [.int 1])) = H4 at s4 h4 ⊢
      refine ⟨l2, _, rfl, .inl ⟨SqL.of h4, fun t nt => ?_⟩⟩
      have s5 := same_new (o := HO.tup ((startV p g).map V.int ++ [.int 1])) nt
      have h5 : (upd H4 t (HO.tup ((startV p g).map V.int ++ [.int 1]))) t = some (HO.tup ((startV p g).map V.int ++ [.int 1])) := upd_same
      generalize upd H4 t (HO.tup ((startV p g).map V.int ++ [.int 1])) = H5 at s5 h5 ⊢
      refine ⟨small (Nat.zero_le _), fun l3 n3 => ?_⟩
      have s6 := same_new (o := HO.lst []) n3
      have h6 : (upd H5 l3 (HO.lst [])) l3 = some (HO.lst []) := upd_same
      generalize upd H5 l3 (HO.lst []) = H6 at s6 h6 ⊢
      refine ⟨small (by show 3 ≤ 5000; decide), fun r nr => ?_⟩
      have s7 := same_new (o := .lst [.int 0, .ref t, .ref l3]) nr
      refine q _ r l3 ((s1.trans s2).trans ((s3.trans s4).trans ((s5.trans s6).trans s7))) ⟨t, [], upd_same, ?_, s7 _ _ h6, .nil⟩ (((s1.trans s2).trans ((s3.trans s4).trans s5)).free n3)
      rw [List.map_append]
      exact SqT.of ((s6.trans s7) _ _ h5)
end
end Sp1

set_option Elab.async false
set_option linter.all false
set_option maxRecDepth 100000
set_option maxHeartbeats 4000000
/-! repr of a list of a dict (texts to numbers) and a list of numbers -/
namespace Sp1
open PySem PySem.Spec PyProof.Rows L2
section
variable {prog : Program} {w : World} {h₀ : Heap}
theorem reprAll_two {v1 v2 : Value} {d1 d2 : PyData} {as1 as2 : List Addr} (r1 : Reads h₀ v1 d1 as1) (s1 : d1.showable = true) (m1 : sysModules ∉ as1) (r2 : Reads h₀ v2 d2 as2) (s2 : d2.showable = true) (n2 : d2.hasDict = false)
    (hz : ∀ t ∈ PyData.shownAll [d1, d2], t.length ≤ sizeLine) :
    ∃ bs, ReadAtMost h₀ (PyData.depthAll [d1, d2]) bs ∧ ReprAllK prog w bs h₀ (PyData.depthAll [d1, d2]) [v1, v2] (PyData.shownAll [d1, d2]) := by
  obtain ⟨b1, hb1, k1⟩ := ReprK.of_reads (prog := prog) (w := w) r1 s1 (fun _ => m1) (hz _ (by simp only [PyData.shownAll]; exact List.mem_cons_self ..))
  obtain ⟨b2, hb2, k2⟩ := ReprAllK.of_readsAll (prog := prog) (w := w) (ReadsAll.cons r2 .nil) (by simp only [PyData.showableAll, s2, Bool.and_true]) (fun hx => by simp only [PyData.hasDictAll, n2, Bool.or_false] at hx; cases hx) (fun t ht => hz t (by
    simp only [PyData.shownAll] at ht ⊢
    exact List.mem_cons_of_mem _ ht))
  refine ⟨b1 ++ b2, ?_, ?_⟩
  · intro b hm
    rcases List.mem_append.mp hm with hm | hm
    · obtain ⟨d', as', r', hd'⟩ := hb1 b hm
      exact ⟨d', as', r', Nat.le_trans hd' (by simp only [PyData.depthAll]; exact Nat.le_max_left _ _)⟩
    · obtain ⟨d', as', r', hd'⟩ := hb2 b hm
      exact ⟨d', as', r', Nat.le_trans hd' (by simp only [PyData.depthAll]; exact Nat.le_max_right _ _)⟩
  · have := k2.more_le (as' := b1 ++ b2) (d' := PyData.depthAll [d1, d2]) (fun b hb => List.mem_append_right _ hb) (by simp only [PyData.depthAll]; exact Nat.le_max_right _ _)
    simp only [PyData.shownAll] at this ⊢
    exact .cons ((k1.more fun b hb => List.mem_append_left _ hb).level_le (by simp only [PyData.depthAll]; exact Nat.le_max_left _ _)) this
theorem call_repr_two {A : Around} {E : Value → Shared → Prop} {s : Shared} {Q : Value → Shared → Prop} {a : Addr} {o : Obj} {n : Nat} {v1 v2 : Value} {d1 d2 : PyData} {as1 as2 : List Addr}
    (h1 : s.heap.get? a = some o) (h2 : o.cls = .type "list") (h3 : o.data = .seq #[v1, v2] n)
    (r1 : Reads s.heap v1 d1 as1) (s1 : d1.showable = true) (m1 : sysModules ∉ as1) (r2 : Reads s.heap v2 d2 as2) (s2 : d2.showable = true) (n2 : d2.hasDict = false)
    (hg : A.guards = some []) (hu : A.units + ((PyData.list [d1, d2]).depth + 1) < cLine) (hsz : (PyData.list [d1, d2]).shown.length ≤ sizeLine)
    (hQ : ∀ h' u tk, (∀ b o, s.heap.get? b = some o → h'.get? b = some o) → Q (.str (PyData.list [d1, d2]).shown u) { s with heap := h', toks := tk }) :
    wpAny (model prog w) A (call (.builtin "repr") [.ref a]) Q E s := by
  have hz' : (listText (PyData.shownAll [d1, d2])).length ≤ sizeLine := by simpa only [PyData.shown] using hsz
  have h4 : ReadsAll s.heap (#[v1, v2] : Array Value).toList [d1, d2] (as1 ++ (as2 ++ [])) := .cons r1 (.cons r2 .nil)
  obtain ⟨bs, hb, hk⟩ := reprAll_two (prog := prog) (w := w) r1 s1 m1 r2 s2 n2 (fun t ht => Nat.le_trans (listText_mem_le ht) hz')
  have hna : a ∉ bs := not_mem_of_deeper (.list h1 h2 h3 h4) (by simp only [PyData.depth]; omega) hb
  simp only [PyData.depth] at hu
  simp only [PyData.shown] at hQ
  refine call_repr_slot (T := "list") (idr := "list.__repr__") (by omega) ⟨o, h1, h2⟩ F.slot_list_repr.toG ?_
  refine call_list_reprK h1 h2 h3 hna (by simpa using hk.length_eq) (fun i y e => hk.item i y (by simpa using e)) hg (fun b _ => Clear.nil b) (by show A.units + 1 + _ < cLine; omega) (fun _ _ e => e) (fun h' u tk hk => ?_) hz'
  exact ⟨_, _, rfl, hQ h' u tk hk⟩
theorem reads_strs : ∀ {ps : List (Str × Int)} {ks : List Value}, ks.length = ps.length → (∀ (i : Nat) (p : Str × Int) (v : Value), ps[i]? = some p → ks[i]? = some v → ∃ t, v = Value.str p.1 t) → ReadsAll h₀ ks (ps.map fun p => PyData.str p.1) []
  | [], [], _, _ => .nil
  | [], _ :: _, h, _ => by cases h
  | _ :: _, [], h, _ => by cases h
  | p :: ps, v :: ks, h, f => by
    obtain ⟨t, rfl⟩ := f 0 p v rfl rfl
    exact ReadsAll.cons (as := []) (bs := []) (.str _ _) (reads_strs (by simpa using h) fun i q u e1 e2 => f (i + 1) q u e1 e2)
theorem reads_ints : ∀ {ps : List (Str × Int)} {ks : List Value}, ks.length = ps.length → (∀ (i : Nat) (p : Str × Int) (v : Value), ps[i]? = some p → ks[i]? = some v → ∃ t, v = Value.int p.2 t) → ReadsAll h₀ ks (ps.map fun p => PyData.int p.2) []
  | [], [], _, _ => .nil
  | [], _ :: _, h, _ => by cases h
  | _ :: _, [], h, _ => by cases h
  | p :: ps, v :: ks, h, f => by
    obtain ⟨t, rfl⟩ := f 0 p v rfl rfl
    exact ReadsAll.cons (as := []) (bs := []) (.int _ _) (reads_ints (by simpa using h) fun i q u e1 e2 => f (i + 1) q u e1 e2)
end
theorem log2_lt' {n k : Nat} (hk : 0 < k) (h : n < 2 ^ k) : n.log2 < k := by
  by_cases h0 : n = 0
  · subst h0
    exact hk
  · exact (Nat.log2_lt h0).2 h
def kvOf (p : Str × Int) : Key × V := (Sum.inr p.1, .int p.2)
theorem pairs_reads {P : Program} {w : World} {h₀ : Heap} : ∀ {ps : List (Str × Int)} {vs : List (Key × Value)} {es : List DictEntry}, KV (ps.map kvOf) vs → Pairs (mixKind P w) es vs →
    ReadsAll h₀ (es.map (·.key)) (ps.map fun p => PyData.str p.1) [] ∧ ReadsAll h₀ (es.map (·.val)) (ps.map fun p => PyData.int p.2) []
  | [], vs, es, h, g => by
    cases h
    cases g
    exact ⟨.nil, .nil⟩
  | p :: ps, vs, es, h, g => by
    cases h with
    | cons hq ht =>
      cases g with
      | cons g1 g2 g3 =>
        obtain ⟨i1, i2⟩ := pairs_reads (h₀ := h₀) ht g3
        obtain ⟨q1, q2⟩ := hq
        rename_i kv vs' en es'
        obtain ⟨k, u⟩ := kv
        cases q1
        obtain ⟨t, q3⟩ := q2
        have q3 : u = .int p.2 t := q3
        subst q3
        have g1 : Value.isStrOf p.1 en.key = true := g1
        rcases keyIs_shape (k := Sum.inr p.1) g1 with ⟨_, _, e, _⟩ | ⟨x, t', e, e'⟩
        · cases e
        · cases e
          have g2 : en.val = .int p.2 t := g2
          refine ⟨?_, ?_⟩
          · show ReadsAll h₀ (en.key :: es'.map (·.key)) (.str p.1 :: _) []
            rw [e']
            exact ReadsAll.cons (as := []) (bs := []) (.str _ _) i1
          · show ReadsAll h₀ (en.val :: es'.map (·.val)) (.int p.2 :: _) []
            rw [g2]
            exact ReadsAll.cons (as := []) (bs := []) (.int _ _) i2
def kvD (ps : List (Str × Int)) : PyData := .dict (ps.map fun p => (.str p.1, .int p.2))
/-- the text of [{..}, [..]] -/
def twoD (ps : List (Str × Int)) (cs : List Int) : PyData := .list [kvD ps, .list (cs.map PyData.int)]
theorem kv_leaves {ps : List (Str × Int)} (h : ∀ p ∈ ps, (∀ c ∈ p.1.cps.toList, c < 0x110000) ∧ p.2.natAbs ≤ 10 ^ 20) : PyData.showableKv (ps.map fun p => (PyData.str p.1, PyData.int p.2)) = true ∧ PyData.leavesShortKv 1921 (ps.map fun p => (PyData.str p.1, PyData.int p.2)) = true := by
  induction ps with
  | nil => exact ⟨rfl, rfl⟩
  | cons p ps ih =>
    obtain ⟨i1, i2⟩ := ih fun q hq => h q (List.mem_cons_of_mem _ hq)
    obtain ⟨h1, h2⟩ := h p (List.mem_cons_self ..)
    have hl : p.2.natAbs.log2 < 1920 := by
      refine Nat.lt_of_lt_of_le (log2_lt' (n := p.2.natAbs) (k := 1920) (by decide) ?_) (Nat.le_refl _)
      exact Nat.lt_of_le_of_lt h2 (by decide +kernel)
    refine ⟨?_, ?_⟩
    · simp only [List.map_cons, PyData.showableKv, PyData.showable, i1, hl, decide_true, Bool.and_true]
    · have h3 := PyProof.Rows.int_text_len_1921 hl
      have h4 : (p.1.cps.toList.all fun c => decide (c < 16 ^ 8)) = true := List.all_eq_true.mpr fun c hc => decide_eq_true (Nat.lt_trans (h1 c hc) (by decide))
      simp only [List.map_cons, PyData.leavesShortKv, PyData.leavesShort, i2, h4, Bool.true_and, Bool.and_true, decide_eq_true_eq]
      exact h3
theorem ints_leaves {cs : List Int} (h : ∀ k ∈ cs, k.natAbs ≤ 10 ^ 20) : PyData.showableAll (cs.map PyData.int) = true ∧ PyData.leavesShortAll 1921 (cs.map PyData.int) = true ∧ PyData.hasDictAll (cs.map PyData.int) = false ∧ PyData.weightAll (cs.map PyData.int) ≤ 70 * cs.length ∧ PyData.depthAll (cs.map PyData.int) = 0 := by
  induction cs with
  | nil => exact ⟨rfl, rfl, rfl, Nat.le_refl _, rfl⟩
  | cons k cs ih =>
    obtain ⟨i1, i2, i3, i4, i5⟩ := ih fun q hq => h q (List.mem_cons_of_mem _ hq)
    have h2 := h k (List.mem_cons_self ..)
    have hl0 : k.natAbs.log2 < 68 := log2_lt' (by decide) (Nat.lt_of_le_of_lt h2 (by decide +kernel))
    have hl : k.natAbs.log2 < 1920 := by omega
    have h3 := PyProof.Rows.int_text_len_1921 hl
    refine ⟨?_, ?_, ?_, ?_, ?_⟩
    · simp only [List.map_cons, PyData.showableAll, PyData.showable, i1, hl, decide_true, Bool.and_true]
    · simp only [List.map_cons, PyData.leavesShortAll, PyData.leavesShort, i2, Bool.and_true, decide_eq_true_eq]
      exact h3
    · simp only [List.map_cons, PyData.hasDictAll, PyData.hasDict, i3, Bool.or_false]
    · have : (PyData.int k).weight ≤ 69 := by
        simp only [PyData.weight]
        split
        · omega
        · omega
      simp only [List.map_cons, PyData.weightAll, List.length_cons]
      omega
    · simp only [List.map_cons, PyData.depthAll, PyData.depth, i5]
      exact Nat.max_self 0
theorem kv_weight {ps : List (Str × Int)} (h : ∀ p ∈ ps, p.1.length ≤ 8 ∧ p.2.natAbs ≤ 10 ^ 20) : PyData.weightKv (ps.map fun p => (PyData.str p.1, PyData.int p.2)) ≤ 80 * ps.length ∧ PyData.depthKv (ps.map fun p => (PyData.str p.1, PyData.int p.2)) = 0 := by
  induction ps with
  | nil => exact ⟨Nat.le_refl _, rfl⟩
  | cons p ps ih =>
    obtain ⟨i1, i2⟩ := ih fun q hq => h q (List.mem_cons_of_mem _ hq)
    obtain ⟨h1, h2⟩ := h p (List.mem_cons_self ..)
    have hl0 : p.2.natAbs.log2 < 68 := log2_lt' (by decide) (Nat.lt_of_le_of_lt h2 (by decide +kernel))
    have h1 : p.1.cps.size ≤ 8 := h1
    refine ⟨?_, ?_⟩
    · have : (PyData.int p.2).weight ≤ 69 := by
        simp only [PyData.weight]
        split
        · omega
        · omega
      have h3 : (PyData.str p.1).weight = p.1.cps.size := by simp only [PyData.weight]
      simp only [List.map_cons, PyData.weightKv, List.length_cons]
      omega
    · simp only [List.map_cons, PyData.depthKv, PyData.depth, i2]
      rfl
section
variable {X : Cx}
theorem dpAll_ints' {K : PySem.W.Frag} {H : Hp} : ∀ (u : List Int), DpAll K H (u.map V.int) (u.map PyData.int)
  | [] => .nil
  | x :: r => .cons (.int x) (dpAll_ints' r)
def rReprO (K : PySem.W.Frag) : List V → Hp → VK → Prop := fun xs H Q => ∃ (a D c : Addr) (ps : List (Str × Int)) (cs : List Int), xs = [V.ref a] ∧ SqL K H a [.ref D, .ref c] ∧ H D = some (.dK (ps.map kvOf)) ∧ SqL K H c (cs.map V.int) ∧
  (∀ p ∈ ps, p.1.length ≤ 8 ∧ (∀ z ∈ p.1.cps.toList, z < 0x110000) ∧ p.2.natAbs ≤ 10 ^ 20) ∧ ps.length ≤ 8 ∧ (∀ k ∈ cs, k.natAbs ≤ 10 ^ 20) ∧ cs.length ≤ 60 ∧ Q (.str (twoD ps cs).shown) H
theorem twoD_fits {ps : List (Str × Int)} {cs : List Int} (hp : ∀ p ∈ ps, p.1.length ≤ 8 ∧ (∀ z ∈ p.1.cps.toList, z < 0x110000) ∧ p.2.natAbs ≤ 10 ^ 20) (lp : ps.length ≤ 8) (hc : ∀ k ∈ cs, k.natAbs ≤ 10 ^ 20) (lc : cs.length ≤ 60) :
    (twoD ps cs).shown.length ≤ sizeLine ∧ (twoD ps cs).depth = 2 := by
  obtain ⟨k1, k2⟩ := kv_leaves (fun p hq => ⟨(hp p hq).2.1, (hp p hq).2.2⟩)
  obtain ⟨k3, k4⟩ := kv_weight (fun p hq => ⟨(hp p hq).1, (hp p hq).2.2⟩)
  obtain ⟨i1, i2, i3, i4, i5⟩ := ints_leaves hc
  refine ⟨?_, ?_⟩
  · have h := PyData.shown_le 1921 (by decide) (twoD ps cs) (by simp only [twoD, kvD, PyData.leavesShort, PyData.leavesShortAll, k2, i2, Bool.and_true])
    have hw : (twoD ps cs).weight ≤ 8000 := by
      simp only [twoD, kvD, PyData.weight, PyData.weightAll]
      omega
    have h2 : (1921 + 2) * (twoD ps cs).weight ≤ (1921 + 2) * 8000 := Nat.mul_le_mul_left _ hw
    rw [sizeLine_eq]
    omega
  · simp only [twoD, kvD, PyData.depth, PyData.depthAll, k4, i5]
    rfl
theorem cr_reprO (hg : X.A.guards = some []) (hu : X.A.units + 64 < cLine) : CallR X (.builtin "repr") (rReprO X.K) := by
  intro pins s σ H xs us Q I r h
  obtain ⟨a, D, c, ps, cs, rfl, hA, hD, hC, hp, lp, hc, lc, q⟩ := h
  rw [Vals.ref1 r]
  obtain ⟨its, rv, ⟨o, n, ho, hcl, _, hd⟩, _⟩ := I.list hA
  obtain ⟨its', rv', ⟨o', n', ho', hcl', _, hd'⟩, _⟩ := I.list hC
  obtain ⟨_, hsys, vs, rel, od, es, ep, hod, hex, hdd, _, hpr, _⟩ := dk_of I.hok hD
  obtain ⟨rk, rvv⟩ := pairs_reads (h₀ := s.heap) rel hpr
  obtain ⟨fits, dep⟩ := twoD_fits hp lp hc lc
  obtain ⟨k1, k2⟩ := kv_leaves (fun p hq => ⟨(hp p hq).2.1, (hp p hq).2.2⟩)
  obtain ⟨i1, i2, i3, i4, i5⟩ := ints_leaves hc
  obtain ⟨as2, ra2⟩ := Dp.readsAll I (cs.map PyData.int) (cs.map V.int) its' (dpAll_ints' cs) rv'
  have r1 : Reads s.heap (.ref D) (kvD ps) (D :: [] ++ []) := .dict hod hex.1 hdd (by rw [List.map_map]; exact rk) (by rw [List.map_map]; exact rvv)
  have r2 : Reads s.heap (.ref c) (.list (cs.map PyData.int)) (c :: as2) := .list ho' hcl' hd' ra2
  cases rv with
  | cons e1 t1 =>
    cases t1 with
    | cons e2 t2 =>
      cases t2
      cases e1
      cases e2
      refine call_repr_two (d1 := kvD ps) (d2 := .list (cs.map PyData.int)) ho hcl hd r1 ?_ ?_ r2 ?_ ?_ hg ?_ fits (fun h' u tk hk => ?_)
      · simp only [kvD, PyData.showable]; exact k1
      · intro z
        have : sysModules = D := by simpa using z
        rw [this] at hsys
        simp at hsys
      · simp only [PyData.showable]; exact i1
      · simp only [PyData.hasDict]; exact i3
      · have : (PyData.list [kvD ps, .list (cs.map PyData.int)]).depth = 2 := dep
        rw [this]
        omega
      · exact ⟨.str (twoD ps cs).shown, H, I.kept hk, ⟨u, rfl⟩, q⟩
/-- what can be shown, its text short enough -/
structure ReprOk (d : PyData) : Prop where
  sh : d.showable = true
  nd : d.hasDict = false
  dp : d.depth ≤ 60
  fits : d.shown.length ≤ sizeLine
def rReprF (K : PySem.W.Frag) : List V → Hp → VK → Prop := fun xs H Q => ∃ a d, xs = [V.ref a] ∧ Dp K H (.ref a) d ∧ ReprOk d ∧ Q (.str d.shown) H
theorem cr_reprF (hg : X.A.guards = some []) (hu : X.A.units + 64 < cLine) : CallR X (.builtin "repr") (rReprF X.K) := by
  intro pins s σ H xs us Q I r h
  obtain ⟨a, d, rfl, hd, S, q⟩ := h
  rw [Vals.ref1 r]
  obtain ⟨as, rd⟩ := Dp.reads I d (.ref a) (.ref a) hd rfl
  have := S.dp
  refine repr_of_reads' rd S.sh (fun e => by rw [S.nd] at e; cases e) hg (by omega) (fun _ _ e => e) (fun h' u tk hk => ?_) S.fits
  exact ⟨.str d.shown, H, I.kept hk, ⟨u, rfl⟩, q⟩
end
/-! f(k = v, ..), nothing by position -/
section
variable {X : Cx} {CX : CXT} {k : Nat} {f : Addr} {fd : FuncData} {ps ks : List Str} {sp : Sp} {E : XK} {x : Str} {p pos : Pos} {kws : List Keyword} {tk : TA} {g : List Value → List Value → List Value} {gV : List V → List V → List V}
def tCallK0 (sp : Sp) (gV : List V → List V → List V) (E : XK) (tk : TA) : TE := fun σ H Q => tk σ H fun zs H1 => sp (gV [] zs) H1 Q E
theorem pe_callK0 (F : FnOk X.prog X.w X.K X.mg X.base CX k f fd ps sp) (hr : Room k X.A) (hg : Gl X x) (hm : X.mg x = some (.ref f)) (hk : PySem.W.keepIn X.K (.ref f) = true) (hb : KBinds X.K fd ps ks g gV) (hx : Passes CX X E)
    (hkw : PK X kws tk) (hall : (backToKw pos (keywordEach kws X.env)).all (·.1.isSome) = true := by rfl) (hks : (backToKw pos (keywordEach kws X.env)).filterMap (·.1) = ks := by rfl)
    (hdb : (x == ("__debug__" : Str)) = false := by decide)
    (hpl : ((backTo pos (starEach [] X.env)).any (·.1) || (backToKw pos (keywordEach kws X.env)).any (·.1.isNone)) = false := by rfl) :
    PE X (.Call (.Name x p) [] kws pos) (tCallK0 sp gV E tk) := by
  refine ⟨fun pins s σ H Q I h => ?_⟩
  refine wpAny_Call_Name_kw (ld_glob I hg hm ?_ hdb)
  refine PySem.W.callWith_KW0 (h₀ := X.base) I.ok.mod.kin hk hall (thn (hkw.run pos pins s σ H _ I h) fun ws s2 ⟨zs, H2, I2, rz, q2⟩ => ⟨I2.kIn, ?_⟩) hpl
  rw [hks]
  exact run_fnk (us := []) (vs := []) F hr hb hx I2 .nil rz q2
end
end Sp1

set_option Elab.async false
set_option linter.all false
set_option maxRecDepth 100000
set_option maxHeartbeats 4000000
namespace Sp1
open PySem PySem.Spec PyProof.Rows L2 Pg
section
variable {P : Program} {w : World} {K : PySem.W.Frag} {mg : Str → Option Value} {base : Heap}
theorem draw_of (zs : List Int) (c : Int) (hc : (zs.length : Int) = c) {r : Int} (h0 : 0 ≤ r) (h1 : r < c) : ∃ j : Nat, r = (j : Int) ∧ ∃ x ∈ zs, (zs.map V.int)[j]? = some (.int x) := by
  have hl : r.toNat < zs.length := by omega
  exact ⟨r.toNat, by omega, zs[r.toNat], List.getElem_mem hl, by rw [List.getElem?_map, List.getElem?_eq_getElem hl]; rfl⟩
abbrev starts6 : List Int := [0, 1, -2, 7, 10 ^ 20, -5]
theorem starts_ok : ∀ x ∈ starts6, x.natAbs ≤ 10 ^ 20 := by decide
def sp_lstart (K : PySem.W.Frag) (PC : Addr) : Sp := fun vs H Q _ => ∃ (q v : V) (p : Addr) (u d : Int) (pt : Pt), vs = [.ref p, v] ∧ Pl H p u d ∧ PgAt K PC H v pt ∧ pt.Fine ∧
  ∀ H' t g (ps : List (Str × Int)), SX p H H' → Pl H' p u d → H t = none → StG H' t pt g → (∀ x i, g x = some i → i.natAbs ≤ 10 ^ 20) → H' t = some (.dK (ps.map kvOf)) → (∀ q ∈ ps, q.1 ∈ pt.given ∧ q.2.natAbs ≤ 10 ^ 20) → ps.length = pt.given.length → Q (.ref t) H'
theorem ok__law_start (T : LwM K mg) (PC : PgC K mg) : FnOk P w K mg base CX0 3 T.f__law_start T.fd__law_start ["_law_pool_here", "_law_scheme"] (sp_lstart K PC.C) := by
  refine T.D__law_start.F.ok sc_l_start (fun vs H Q E h => ?_) (fun cdv A outer s H vs Q E hr h => ?_)
  · obtain ⟨_, v, p, u, d, pt, rfl, _⟩ := h
    rfl
  · obtain ⟨_, v, p, u, d, pt, rfl, hp, hpg, f, q⟩ := h
    have nd := sc_l_start.nd
    have l4 := f.l4
    obtain ⟨pa, pdx, pcv, pd, pgv, pvv, pqv, pmv, rfl, g1, g2, g3, g4⟩ := id hpg
    obtain ⟨ga, rfl, hga⟩ := g2.g
    refine ⟨_, (pss_cons (ps_set (i := 2) nd rfl (.inl rfl) pe_dnewK)
      (pss_cons (ps_for PassesOwn.never rfl (pi_tup (pe_revT (pe_prop (pv 1) PC.cl PC.P_given (ok_given PC) (hr.mono (by decide)) PC.b_given .nil pass0 rfl) (pe_un un_neg pe_int))) (pg_name (i := 3) nd rfl (.inl rfl))
      (pss_one (ps_dput (hu_of hr) (pv 2) (pv 3) (pe_ix (r := rIxL K) ix_list (pe_lst (pa_cons pe_int (pa_cons pe_int (pa_cons (pe_un un_neg pe_int) (pa_cons pe_int (pa_cons (pe_op op_pow pe_int pe_int) (pa_cons (pe_un un_neg pe_int) pa_nil))))))) (pe_call ((ok__law_draw T.toPlF).mono (by decide)) hr (by rfl) T.D__law_draw.g T.D__law_draw.kp T.D__law_draw.b .nil pass0 (pa_cons (pv 0) (pa_cons pe_int pa_nil))) (fun _ _ => rfl)) rfl)))
      (pss_one (ps_ret (pv 2))))), ?_⟩
    refine fun D nD => ?_
    have s1 := same_new (o := .dK []) nD
    have hD1 : (upd H D (.dK [])) D = some (.dK []) := upd_same
    generalize upd H D (.dK []) = H1 at s1 hD1 ⊢
    refine gn (σ' := [some (.ref p), some (.ref pa), some (.ref D), none]) rfl ?_
    have nDp := hp.ne nD
    refine ⟨_, rfl, pa, pdx, _, rfl, s1 _ _ g1, pa, pdx, _, _, rfl, s1 _ _ g1, pgF_given _ _ _ _ _ _, ?_⟩
    refine ⟨_, rfl, rfl, ga, _, rfl, Same.sqt s1 hga, fun R nR => ?_⟩
    have s2 := same_new (o := HO.tup ((pt.given.map V.str).reverse)) nR
    have hR : (upd H1 R (HO.tup ((pt.given.map V.str).reverse))) R = some (HO.tup ((pt.given.map V.str).reverse)) := upd_same
    generalize upd H1 R (HO.tup ((pt.given.map V.str).reverse)) = H2 at s2 hR ⊢
    have hp2 := hp.same (s1.trans s2)
    have gnd : pt.given.reverse.Nodup := by
      have := f.nd
      exact List.pairwise_reverse.mpr ((List.nodup_append.mp this).1.imp fun h => h.symm)
    have erev : (pt.given.map V.str).reverse = pt.given.reverse.map V.str := List.map_reverse.symm
    rw [erev] at hR
    have rl : pt.given.reverse.length = pt.given.length := List.length_reverse
    have nRp := hp.ne (s1.free nR)
    have RD : R ≠ D := fun e => by rw [e, hD1] at nR; cases nR
    refine ⟨R, rfl, ⟨_, SqT.of hR⟩, for_it (walk_tup (K := K) (a := R) (xs := pt.given.reverse.map V.str)) (fun i σ H' => SX p H H' ∧ Pl H' p u d ∧ H' R = some (.tup (pt.given.reverse.map V.str)) ∧ ∃ (kvs : List (Key × V)) (ps : List (Str × Int)) (g : Str → Option Int) (y : Option V), H' D = some (.dK kvs) ∧ (kvs = ps.map kvOf ∧ ∀ q ∈ ps, q.1 ∈ pt.given ∧ q.2.natAbs ≤ 10 ^ 20) ∧ kvs.length = i ∧ (∀ x, valV kvs (Sum.inr x) = (g x).map V.int) ∧
        (∀ x ∈ pt.given.reverse.take i, ∃ k, g x = some k) ∧ (∀ x, x ∉ pt.given.reverse.take i → g x = none) ∧ (∀ x k, g x = some k → k.natAbs ≤ 10 ^ 20) ∧ σ = [some (.ref p), some (.ref pa), some (.ref D), y])
      ⟨Same.sx (s1.trans s2), hp2, hR, [], [], fun _ => none, none, s2 _ _ hD1, ⟨rfl, fun q hq => by cases hq⟩, rfl, fun x => rfl, (fun x hx => by cases hx), fun x _ => rfl, (fun x k z => by cases z), rfl⟩ (fun i σ H' _ h => SqT.of h.2.2.1) ?_ ?_⟩
    · rintro i x σ H3 H4 hi ⟨sx3, hp3, hR3, kvs, ps, g, y, hD3, ⟨ek, hps⟩, kl, hg, hg1, hg2, hg3, rfl⟩ ⟨rfl, hx⟩
      rw [List.length_map] at hi
      rw [List.getElem?_map, List.getElem?_eq_getElem hi] at hx
      cases hx
      refine gn (σ' := [some (.ref p), some (.ref pa), some (.ref D), some (.str pt.given.reverse[i])]) rfl ?_
      refine ⟨2, rfl, _, _, rfl, rfl, ⟨by decide, by decide, by decide⟩, 5, rfl, small (by show 6 ≤ 5000; decide), fun l nl => ?_⟩
      have s5 := same_new (o := HO.lst [.int 0, .int 1, .int (-2), .int 7, .int (10 ^ (20 : Int).toNat), .int (-5)]) nl
      have hl : (upd H4 l (HO.lst [.int 0, .int 1, .int (-2), .int 7, .int (10 ^ (20 : Int).toNat), .int (-5)])) l = some (HO.lst [.int 0, .int 1, .int (-2), .int 7, .int (10 ^ (20 : Int).toNat), .int (-5)]) := upd_same
      generalize upd H4 l (HO.lst [.int 0, .int 1, .int (-2), .int 7, .int (10 ^ (20 : Int).toNat), .int (-5)]) = H5 at s5 hl ⊢
      have hl : H5 l = some (.lst (starts6.map V.int)) := hl
      have lp := hp3.ne nl
      refine ⟨_, rfl, p, 6, u, d, rfl, hp3.same s5, by decide, by decide, fun r H6 r0 r1 sx6 hp6 => ?_⟩
      obtain ⟨j, rfl, k, hkm, hkj⟩ := draw_of starts6 6 rfl r0 r1
      refine ⟨l, _, _, _, rfl, rfl, SqL.of (sx6 _ _ lp hl), atI_nat hkj, ?_⟩
      have hD6 := sx6 _ _ nDp (s5 _ _ hD3)
      have hR6 := sx6 _ _ nRp (s5 _ _ hR3)
      refine ⟨_, rfl, _, rfl, D, _, rfl, DPut.k (k := Sum.inr pt.given.reverse[i]) hD6 (by rw [sizeLine_eq]; omega), ?_⟩
      have hni : pt.given.reverse[i] ∉ pt.given.reverse.take i := by
        intro z
        obtain ⟨m, hm, e⟩ := List.mem_iff_getElem.mp z
        rw [List.length_take] at hm
        rw [List.getElem_take] at e
        have := List.pairwise_iff_getElem.mp gnd m i (by omega) hi (by omega)
        exact this e
      have hnone : valV kvs (Sum.inr pt.given.reverse[i] : Key) = none := by rw [hg, hg2 _ hni]; rfl
      rw [putK_new _ hnone]
      refine ⟨((sx3.trans (Same.sx s5)).trans sx6).new nD, hp6.put nDp.symm, by rw [upd_ne RD]; exact hR6, _, ps ++ [(pt.given.reverse[i], k)], fun x => if x = pt.given.reverse[i] then some k else g x, _, upd_same, ⟨by rw [List.map_append, ← ek]; rfl, fun q hq => by
        rcases List.mem_append.mp hq with hq | hq
        · exact hps q hq
        · cases List.mem_singleton.mp hq
          exact ⟨List.mem_reverse.mp (List.getElem_mem hi), starts_ok k hkm⟩⟩, by rw [List.length_append, kl]; rfl, fun x => ?_, fun x hx => ?_, fun x hx => ?_, fun x k' hx => ?_, rfl⟩
      · rw [← putK_new _ hnone, valV_put]
        show _ = Option.map V.int (if x = pt.given.reverse[i] then some k else g x)
        by_cases e : x = pt.given.reverse[i]
        · rw [if_pos (by rw [e]), if_pos e]
          rfl
        · rw [if_neg (fun z => e (Sum.inr.inj z)), if_neg e]
          exact hg x
      · show ∃ k', (if x = pt.given.reverse[i] then some k else g x) = some k'
        by_cases e : x = pt.given.reverse[i]
        · exact ⟨k, if_pos e⟩
        · rw [if_neg e]
          refine hg1 x ?_
          rw [List.take_add_one, List.getElem?_eq_getElem hi] at hx
          rcases List.mem_append.mp hx with hx | hx
          · exact hx
          · exact absurd (List.mem_singleton.mp hx) e
      · show (if x = pt.given.reverse[i] then some k else g x) = none
        rw [List.take_add_one, List.getElem?_eq_getElem hi] at hx
        have h1 : x ≠ pt.given.reverse[i] := fun e => hx (List.mem_append.mpr (.inr (by rw [e]; exact List.mem_singleton.mpr rfl)))
        rw [if_neg h1]
        exact hg2 x fun z => hx (List.mem_append.mpr (.inl z))
      · replace hx : (if x = pt.given.reverse[i] then some k else g x) = some k' := hx
        split at hx
        · cases hx
          exact starts_ok k hkm
        · exact hg3 x k' hx
    · rintro σ H3 ⟨sx3, hp3, hR3, kvs, ps, g, y, hD3, ⟨ek, hps⟩, kl, hg, hg1, hg2, hg3, rfl⟩
      rw [List.length_map] at kl hg1
      rw [List.take_length] at hg1
      exact ⟨_, rfl, q _ D g ps sx3 hp3 nD ⟨kvs, hD3, by omega, fun x hx => hg1 x (List.mem_reverse.mpr hx), hg⟩ hg3 (by rw [← ek]; exact hD3) hps (by rw [ek, List.length_map] at kl; omega)⟩
end
end Sp1

set_option Elab.async false
set_option linter.all false
set_option maxRecDepth 100000
set_option maxHeartbeats 4000000
namespace Sp1
open PySem PySem.Spec PyProof.Rows L2 Pg
theorem getD_pre {cs more : List Int} {i : Nat} (h : i < cs.length) : (cs ++ more).getD i 0 = cs.getD i 0 := by
  rw [getD_of (by rw [List.length_append]; omega), getD_of h, List.getElem_append_left h]
theorem getD_end {cs : List Int} {k : Int} : (cs ++ [k]).getD cs.length 0 = k := by
  rw [getD_of (by rw [List.length_append]; show _ < _ + 1; omega)]
  simp
theorem kOf_pre {cs more : List Int} {y : Ins} {us : Nat} (h : ChOk y us cs) : kOf y us (cs ++ more) = kOf y us cs := by
  unfold kOf
  by_cases e : y.need = 0
  · rw [if_pos e, if_pos e]
  · rw [if_neg e, if_neg e, getD_pre (h e).1]
theorem ChOk.pre {cs more : List Int} {y : Ins} {us : Nat} (h : ChOk y us cs) : ChOk y us (cs ++ more) := fun e => by
  obtain ⟨h1, h2⟩ := h e
  refine ⟨by rw [List.length_append]; omega, fun z => ?_⟩
  rw [getD_pre h1]
  exact h2 z
theorem Good.pre {p : Pt} {cs more : List Int} {a : Rs × Nat} (h : Good p cs a) : Good p (cs ++ more) a ∧ one p (cs ++ more) a = one p cs a := by
  obtain ⟨y, h1, h2, h3, h4⟩ := h
  refine ⟨⟨y, h1, h2, h3.pre, by rw [kOf_pre h3]; exact h4⟩, ?_⟩
  unfold one
  rw [h1]
  show (_, _) = (_, _)
  rw [kOf_pre h3]
theorem run_pre {p : Pt} {g : Str → Option Int} {cs : List Int} (more : List Int) : ∀ (i : Nat), (∀ j, j < i → Good p cs (runN p g cs j)) → runN p g (cs ++ more) i = runN p g cs i
  | 0, _ => rfl
  | i + 1, h => by
    show one p (cs ++ more) (runN p g (cs ++ more) i) = one p cs (runN p g cs i)
    rw [run_pre more i fun j hj => h j (by omega)]
    exact (h i (by omega)).pre.2
/-- the picks of a run so far -/
structure Run (p : Pt) (g : Str → Option Int) (cs : List Int) (i : Nat) (s : Rs) : Prop where
  run : runN p g cs i = (s, cs.length)
  good : ∀ j, j < i → Good p cs (runN p g cs j)
theorem Run.start {p : Pt} {g : Str → Option Int} : Run p g [] 0 ⟨0, startV p g ++ [1], []⟩ := ⟨rfl, fun j h => by omega⟩
theorem Run.pre {p : Pt} {g : Str → Option Int} {cs : List Int} {i : Nat} {s : Rs} (h : Run p g cs i s) (more : List Int) : ∀ j, j ≤ i → runN p g (cs ++ more) j = runN p g cs j := fun j hj =>
  run_pre more j fun m hm => h.good m (by omega)
theorem Run.gpre {p : Pt} {g : Str → Option Int} {cs : List Int} {i : Nat} {s : Rs} (h : Run p g cs i s) (more : List Int) : ∀ j, j < i → Good p (cs ++ more) (runN p g (cs ++ more) j) := fun j hj => by
  rw [h.pre more j (by omega)]
  exact (h.good j hj).pre.1
theorem Run.next0 {p : Pt} {g : Str → Option Int} {cs : List Int} {i : Nat} {s : Rs} (h : Run p g cs i s) {y : IK} (hy : p.ins[s.at_]? = some y) (ht : ¬ y.1.tag = 9) (hn : y.1.need = 0) : Run p g cs (i + 1) (s.step p y.1 0) := by
  refine ⟨?_, fun j hj => ?_⟩
  · show one p cs (runN p g cs i) = _
    rw [h.run]
    unfold one
    rw [show p.ins[(s, cs.length).1.at_]? = some y from hy]
    show (_, _) = (_, _)
    unfold kOf usOf
    rw [if_pos hn, if_pos hn]
  · by_cases e : j = i
    · subst e
      rw [h.run]
      exact ⟨y, hy, ht, fun z => absurd hn z, by unfold kOf; rw [if_pos hn]; decide⟩
    · exact h.good j (by omega)
theorem Run.next1 {p : Pt} {g : Str → Option Int} {cs : List Int} {i : Nat} {s : Rs} (h : Run p g cs i s) {y : IK} (hy : p.ins[s.at_]? = some y) (ht : ¬ y.1.tag = 9) (hn : ¬ y.1.need = 0) {k : Int} (hk : k.natAbs ≤ 10 ^ 20) (hw : y.1.need = 2 → k = 0 ∨ k = 1) : Run p g (cs ++ [k]) (i + 1) (s.step p y.1 k) := by
  have e0 : runN p g (cs ++ [k]) i = (s, cs.length) := (h.pre [k] i (Nat.le_refl _)).trans h.run
  have ek : kOf y.1 cs.length (cs ++ [k]) = k := by
    unfold kOf
    rw [if_neg hn, getD_end]
  refine ⟨?_, fun j hj => ?_⟩
  · show one p (cs ++ [k]) (runN p g (cs ++ [k]) i) = _
    rw [e0]
    unfold one
    rw [show p.ins[(s, cs.length).1.at_]? = some y from hy]
    show (_, _) = (_, _)
    rw [show kOf y.1 (s, cs.length).2 (cs ++ [k]) = k from ek, List.length_append]
    unfold usOf
    rw [if_neg hn]
    rfl
  · by_cases e : j = i
    · subst e
      rw [e0]
      refine ⟨y, hy, ht, fun _ => ⟨by rw [List.length_append]; show cs.length < _ + 1; omega, fun z => ?_⟩, by rw [show kOf y.1 (s, cs.length).2 (cs ++ [k]) = k from ek]; exact hk⟩
      show (cs ++ [k]).getD cs.length 0 = 0 ∨ _
      rw [getD_end]
      exact hw z
    · exact h.gpre [k] j (by omega)
end Sp1

set_option Elab.async false
set_option linter.all false
set_option maxRecDepth 100000
set_option maxHeartbeats 4000000
namespace Sp1
open PySem PySem.Spec PyProof.Rows L2 Pg
theorem eqv_stop (y : Ins) : PyData.eqv y.D (.tuple [.str "stop"]) = decide (y.tag = 9) := by
  have two : ∀ (w : Str) (x : PyData) (r : List PyData), PyData.eqv (.tuple (.str w :: x :: r)) (.tuple [.str "stop"]) = false := fun w x r => by
    show (PyData.eqv (.str w) (.str "stop") && PyData.eqvAll (x :: r) []) = false
    show (_ && false) = false
    rw [Bool.and_false]
  cases y with
  | stop => decide +kernel
  | ret => decide +kernel
  | set x e => exact two _ _ _
  | swap x z => exact two _ _ _
  | print e => exact two _ _ _
  | test e n => exact two _ _ _
  | go n w => exact two _ _ _
  | bgn e => exact two _ _ _
  | turn n => exact two _ _ _
  | again n => exact two _ _ _
  | call x => exact two _ _ _
theorem ins_shaped {p : Pt} (f : p.Fine) {i : Nat} {y : IK} (h : p.ins[i]? = some y) : SeqAt.shaped y.1.D = true := by
  have := pg_flat p.m p.ps _ (List.mem_of_getElem? (Pt.code_at h))
  exact shaped_of (ins_tupD f h) (Nat.le_trans this (by decide))
theorem PgAt.sxl {K : PySem.W.Frag} {C q : Addr} {H H' : Hp} {x : V} {p : Pt} {u d : Int} (h : PgAt K C H x p) (f : p.Fine) (hq : Pl H q u d) (s : SX q H H') : PgAt K C H' x p := by
  obtain ⟨a, dx, cv, e, gv, vv, qv, mv, ea, h1, h2, h3, h4⟩ := h
  obtain ⟨a', b', hq', _⟩ := id hq
  have tk := SX.tkP s hq
  exact ⟨a, dx, cv, e, gv, vv, qv, mv, ea, s _ _ (ne_of h1 hq' (by intro z; cases z)) h1, h2.tk f tk, h3.tk (code_tupD f) tk, s _ _ (ne_of h4 hq' (by intro z; cases z)) h4⟩
section
variable {P : Program} {w : World} {K : PySem.W.Frag} {mg : Str → Option Value} {base : Heap}
theorem LrAt.sxl {q r f : Addr} {H H' : Hp} {st : Rs} {u d : Int} (h : LrAt K H r f st) (hq : Pl H q u d) (hf : f ≠ q) (s : SX q H H') : LrAt K H' r f st := by
  obtain ⟨v, xs, h1, h2, h3, h4⟩ := h
  obtain ⟨a', b', hq', _⟩ := id hq
  have tk := SX.tkP s hq
  exact ⟨v, xs, s _ _ (ne_of h1 hq' (by intro z; cases z)) h1, tk.sqt h2, s _ _ hf h3, dpAll_keep tk h4 (frD_tup _)⟩
theorem LrAt.put {r f D : Addr} {H : Hp} {st : Rs} {cs : List Int} {o : HO} (h : LrAt K H r f st) (hD : H D = some (.lst (cs.map V.int))) (hf : f ≠ D) : LrAt K (upd H D o) r f st := by
  obtain ⟨v, xs, h1, h2, h3, h4⟩ := h
  have hr : r ≠ D := fun e => by
    rw [e, hD] at h1
    injection h1 with h1
    injection h1 with h1
    have := congrArg (·[1]?) h1
    simp only [List.getElem?_map] at this
    cases e2 : cs[1]? with
    | none => rw [e2] at this; cases this
    | some k => rw [e2] at this; cases this
  have tk : TK H (upd H D o) := tk_lst hD
  exact ⟨v, xs, by rw [upd_ne hr]; exact h1, tk.sqt h2, by rw [upd_ne hf]; exact h3, dpAll_keep tk h4 (frD_tup _)⟩
abbrev picks6 : List Int := [0, 1, -1, 2, -6, 10 ^ 20]
theorem picks_ok : ∀ x ∈ picks6, x.natAbs ≤ 10 ^ 20 := by decide
def sp_lchoices (K : PySem.W.Frag) (PC : Addr) : Sp := fun vs H Q _ => ∃ (v : V) (p d : Addr) (u e : Int) (pt : Pt) (g : Str → Option Int) (n : Nat), vs = [.ref p, v, .ref d, .int (n : Int)] ∧ Pl H p u e ∧ PgAt K PC H v pt ∧ pt.Fine ∧ pt.Small ∧ pt.Lo ∧ StAt H d g ∧ (∀ x i, g x = some i → i.natAbs ≤ 10 ^ 20) ∧ n ≤ 40 ∧
  ∀ H' t D (cs : List Int) (m : Nat) (s : Rs), SX p H H' → Pl H' p u e → SqT K H' t [.ref D, .int (m : Int)] → H' D = some (.lst (cs.map V.int)) → H D = none → m ≤ n → Run pt g cs m s → cs.length ≤ m → (∀ k ∈ cs, k.natAbs ≤ 10 ^ 20) → Q (.ref t) H'
theorem ok__law_choices (T : LwM K mg) (PC : PgC K mg) (UE : PgE0 K mg PC.C) : FnOk P w K mg base CX0 8 T.f__law_choices T.fd__law_choices ["_law_pool_here", "_law_scheme", "_law_opening", "_law_length"] (sp_lchoices K PC.C) := by
  refine T.D__law_choices.F.ok sc_l_choices (fun vs H Q E h => ?_) (fun cdv A outer s H vs Q E hr h => ?_)
  · obtain ⟨v, p, d, u, e, pt, g, n, rfl, _⟩ := h
    rfl
  · obtain ⟨v, p, d, u, e, pt, g, n, rfl, hp, hpg, f, sm, lo, hd, hgb, hn, q⟩ := h
    have nd := sc_l_choices.nd
    refine ⟨_, (pss_cons (ps_par (i := 4) (j := 5) rfl nd rfl rfl (by decide) rfl rfl (pa_cons (pe_call ((ok__law_first T PC).mono (by decide)) hr (by rfl) T.D__law_first.g T.D__law_first.kp T.D__law_first.b .nil pass0 (pa_cons (pv 1) (pa_cons (pv 2) pa_nil))) (pa_cons (pe_lst pa_nil) pa_nil)) rfl)
      (pss_cons (ps_for PassesOwn.never rfl (pi_range1 (by rfl) T.m_range (pa_cons (pv 3) pa_nil)) (pg_name (i := 6) nd rfl (.inl rfl))
      (pss_cons (ps_set (i := 7) nd rfl (.inl rfl) (pe_ix (r := rIxT K) ix_tup (pe_prop (pv 1) PC.cl PC.P_code (ok_code PC) (hr.mono (by decide)) PC.b_code .nil pass0 rfl) (pe_ix (r := rIxL K) ix_list (pv 4) pe_int (fun _ _ => rfl)) (fun _ _ => rfl)))
        (pss_cons (ps_if (pt_cmpR (op_eqD hr.units) (pv 7) (pe_tup (pa_cons pe_str pa_nil)) (nomark _))
        (pss_one (ps_ret (pe_tup (pa_cons (pv 5) (pa_cons (pv 6) pa_nil)))))
        pss_nil)
        (pss_cons (ps_par (i := 8) (j := 9) rfl nd rfl rfl (by decide) rfl rfl (pa_cons (pe_call ((ok__law_need T).mono (by decide)) hr (by rfl) T.D__law_need.g T.D__law_need.kp T.D__law_need.b .nil pass0 (pa_cons (pv 7) pa_nil)) (pa_cons pe_int pa_nil)) rfl)
        (pss_cons (ps_if (pt_cmpR op_eq (pv 8) pe_str (nomark _))
        (pss_one (ps_set (i := 9) nd rfl (.inl rfl) (pe_call ((ok__law_draw T.toPlF).mono (by decide)) hr (by rfl) T.D__law_draw.g T.D__law_draw.kp T.D__law_draw.b .nil pass0 (pa_cons (pv 0) (pa_cons pe_int pa_nil)))))
        pss_nil)
        (pss_cons (ps_if (pt_cmpR op_eq (pv 8) pe_str (nomark _))
        (pss_one (ps_set (i := 9) nd rfl (.inl rfl) (pe_ix (r := rIxL K) ix_list (pe_lst (pa_cons pe_int (pa_cons pe_int (pa_cons (pe_un un_neg pe_int) (pa_cons pe_int (pa_cons (pe_un un_neg pe_int) (pa_cons (pe_op op_pow pe_int pe_int) pa_nil))))))) (pe_call ((ok__law_draw T.toPlF).mono (by decide)) hr (by rfl) T.D__law_draw.g T.D__law_draw.kp T.D__law_draw.b .nil pass0 (pa_cons (pv 0) (pa_cons pe_int pa_nil))) (fun _ _ => rfl))))
        pss_nil)
        (pss_cons (ps_if (pt_cmpR op_ne (pv 8) pe_str (nomark _))
        (pss_one (ps_expr (pe_bm PySem.F.plainAttrs_list PySem.F.slot_list_append PySem.F.type_list_append mt_append (pv 5) (pa_cons (pv 9) pa_nil))))
        pss_nil)
        (pss_one (ps_set (i := 4) nd rfl (.inl rfl) (pe_call ((ok__law_jump T PC UE).mono (by decide)) hr (by rfl) T.D__law_jump.g T.D__law_jump.kp T.D__law_jump.b .nil pass0 (pa_cons (pv 1) (pa_cons (pv 4) (pa_cons (pv 9) pa_nil)))))))))))))
      (pss_one (ps_ret (pe_tup (pa_cons (pv 5) (pa_cons (pv 3) pa_nil))))))), ?_⟩
    refine ⟨_, rfl, _, rfl, v, d, pt, g, rfl, hpg, f, hd, fun H1 r fk s1 hr1 nfk => ?_⟩
    refine ⟨small (Nat.zero_le _), fun D nD => ?_⟩
    have s2 := same_new (o := HO.lst []) nD
    have hD : (upd H1 D (HO.lst [])) D = some (HO.lst []) := upd_same
    generalize upd H1 D (HO.lst []) = H2 at s2 hD ⊢
    refine ⟨_, _, rfl, ?_⟩
    dsimp only [List.set]
    refine ⟨_, rfl, (n : Int), rfl, by omega, by omega, ?_⟩
    have nDH := s1.free nD
    have nDp := hp.ne nDH
    have ok0 : Rs.Ok pt 0 ⟨0, startV pt g ++ [1], []⟩ := Rs.ok0 f (by unfold startV; rw [List.length_map]) fun y hy => by
      obtain ⟨nm, _, rfl⟩ := List.mem_map.mp hy
      cases e : g nm with
      | none => decide
      | some i => exact hgb nm i e
    refine for_range (lo := 0) (n := ((n : Int)).toNat) (fun i σ H' => SX p H H' ∧ Pl H' p u e ∧ ∃ (r fk : Addr) (st : Rs) (cs : List Int) (y1 y2 y3 y4 : Option V), LrAt K H' r fk st ∧ fk ≠ p ∧ fk ≠ D ∧ Rs.Ok pt i st ∧ H' D = some (.lst (cs.map V.int)) ∧ Run pt g cs i st ∧ (cs.length ≤ i ∧ ∀ k ∈ cs, k.natAbs ≤ 10 ^ 20) ∧ σ = [some (.ref p), some v, some (.ref d), some (.int (n : Int)), some (.ref r), some (.ref D), y1, y2, y3, y4])
      ⟨Same.sx (s1.trans s2), hp.same (s1.trans s2), r, fk, _, [], none, none, none, none, hr1.same s2, hp.ne nfk, (fun e => by obtain ⟨_, _, _, _, h3, _⟩ := hr1; rw [e, nD] at h3; cases h3), ok0, hD, Run.start, ⟨Nat.le_refl _, fun k hk => by cases hk⟩, rfl⟩ ?_ ?_
    · rintro i σ H3 hi ⟨sx3, hp3, r, fk, st, cs, y1, y2, y3, y4, hr3, fkp, fkD, hok, hD3, hrun, ⟨cl, cb⟩, rfl⟩
      have hi : i < n := hi
      have ei : V.int ((0 : Int) + (i : Int)) = V.int (i : Int) := by rw [Int.zero_add]
      refine gn (σ' := [some (.ref p), some v, some (.ref d), some (.int (n : Int)), some (.ref r), some (.ref D), some (.int (i : Int)), y2, y3, y4]) (by rw [ei]; rfl) ?_
      have hpg3 := hpg.sxl f hp sx3
      obtain ⟨pa, pdx, pcv, pd, pgv, pvv, pqv, pmv, rfl, g1, g2, ⟨c, ys, rfl, hF, hY⟩, g4⟩ := id hpg3
      obtain ⟨vv', xs, hr1', hr2', hr3', hr4'⟩ := id hr3
      obtain ⟨y0, k0, hy⟩ := hok.stk.at_
      generalize hyy : (y0, k0) = y at hy
      clear hyy
      have hl' : st.at_ < ys.length := by
        rw [dpAll_len hY, ← pt.ins_len]
        exact (List.getElem?_eq_some_iff.mp hy).1
      obtain ⟨y', hy', hdp⟩ := cdv_at hY (List.getElem?_eq_getElem hl')
      rw [hy] at hy'
      cases hy'
      have iok := Pt.ins_ok f y (List.mem_of_getElem? hy)
      obtain ⟨a, zs, ea, hT, hZ⟩ := dp_ins hdp
      rw [ea] at hdp
      refine ⟨_, rfl, pa, pdx, _, rfl, g1, pa, pdx, _, _, rfl, g1, pgF_code _ _ _ _ _ _, _, rfl, r, _, 0, _, rfl, rfl, SqL.of hr1', at0, c, ys, _, .ref a, rfl, rfl, hF.sqt, by rw [← ea]; exact atI_nat (List.getElem?_eq_getElem hl'), ?_⟩
      refine gn (σ' := [some (.ref p), some (.ref pa), some (.ref d), some (.int (n : Int)), some (.ref r), some (.ref D), some (.int (i : Int)), some (.ref a), y3, y4]) rfl ?_
      refine ⟨_, rfl, small (by show 1 ≤ 5000; decide), fun ts ns => ?_⟩
      have s4 := same_new (o := HO.tup [.str "stop"]) ns
      have hts : (upd H3 ts (HO.tup [.str "stop"])) ts = some (HO.tup [.str "stop"]) := upd_same
      generalize upd H3 ts (HO.tup [.str "stop"]) = H4 at s4 hts ⊢
      refine ⟨y.1.D, .tuple [.str "stop"], dp_keep (Same.tk s4) hdp (ins_tupD f hy), .tup (SqT.of hts) (.cons (.str _) .nil), ins_shaped f hy, by decide +kernel, ?_⟩
      rw [eqv_stop]
      refine ⟨_, rfl, ite2 (fun e9 => ?_) (fun e9 => ?_)⟩
      · refine ⟨_, rfl, _, rfl, small (by show 2 ≤ 5000; decide), fun t nt => ?_⟩
        have s5 := same_new (o := .tup [.ref D, .int (i : Int)]) nt
        exact q _ t D cs i st (sx3.trans (Same.sx (s4.trans s5))) (hp3.same (s4.trans s5)) (SqT.of upd_same) ((s4.trans s5) _ _ hD3) nDH (by omega) hrun cl cb
      have h9 : ¬ y.1.tag = 9 := fun z => e9 (decide_eq_true z)
      refine tNextI ?_
      refine ⟨_, rfl, a, y.1, zs, pt.names, pt.ps.map (·.1), rfl, Same.sqt s4 hT, dpAll_keep (Same.tk s4) hZ ?_, iok, f.N, fun H5 s5 => ?_⟩
      · have := ins_tupD f hy
        rw [y.1.D_eq, tupD_tuple, tupAll] at this
        exact (Bool.and_eq_true _ _ ▸ this).2
      refine ⟨_, _, rfl, ?_⟩
      dsimp only [List.set]
      have s35 := s4.trans s5
      have hD5 := s35 _ _ hD3
      have hp5 := hp3.same s35
      have hr5 := hr3.same s35
      have sx5 := sx3.trans (Same.sx s35)
      have hpg5 := hpg3.same f s35
      by_cases n2 : y.1.need = 2
      · have hS : needS y.1 = "way" := if_pos n2
        have n0 : ¬ y.1.need = 0 := by rw [n2]; decide
        rw [hS]
        refine ⟨_, rfl, rfl, _, rfl, iteT ?_⟩
        refine ⟨_, rfl, p, 2, u, e, rfl, hp5, by decide, by decide, fun rr H6 r0 r1 sx6 hp6 => ?_⟩
        refine gn (σ' := [some (.ref p), some (.ref pa), some (.ref d), some (.int (n : Int)), some (.ref r), some (.ref D), some (.int (i : Int)), some (.ref a), some (.str "way"), some (.int rr)]) rfl ?_
        have hD6 := sx6 _ _ nDp hD5
        have hr6 := hr5.sxl hp5 fkp sx6
        have hpg6 := hpg5.sxl f hp5 sx6
        refine ⟨_, rfl, rfl, _, rfl, iteF ?_⟩
        refine tNextI ?_
        refine ⟨_, rfl, rfl, _, rfl, iteT ?_⟩
        refine ⟨_, rfl, .inl ⟨rfl, _, SqL.of hD6⟩, _, rfl, D, _, _, rfl, rfl, hD6, by rw [sizeLine_eq, List.length_map]; omega, ?_⟩
        have sx7 : SX p H (upd H6 D (.lst (cs.map V.int ++ [.int rr]))) := (sx5.trans sx6).new nDH
        have hD7 : (upd H6 D (.lst (cs.map V.int ++ [.int rr]))) D = some (.lst ((cs ++ [rr]).map V.int)) := by rw [upd_same, List.map_append]; rfl
        have hp7 := hp6.put (o := .lst (cs.map V.int ++ [.int rr])) nDp.symm
        have hr7 := hr6.put (o := .lst (cs.map V.int ++ [.int rr])) hD6 fkD
        have hpg7 := hpg.sxl f hp sx7
        generalize upd H6 D (.lst (cs.map V.int ++ [.int rr])) = H7 at sx7 hD7 hp7 hr7 hpg7 ⊢
        have hrw : rr = 0 ∨ rr = 1 := by omega
        have hrb : rr.natAbs ≤ 10 ^ 20 := by omega
        refine ⟨_, rfl, _, rfl, _, rfl, .ref pa, r, fk, pt, st, i, rr, y, rfl, hpg7, f, sm, lo, hr7, hy, h9, hok, by omega, fun _ => hrw, hrb, fun H8 t8 f8 s8 hl8 hf8 => ?_⟩
        refine gn (σ' := [some (.ref p), some (.ref pa), some (.ref d), some (.int (n : Int)), some (.ref t8), some (.ref D), some (.int (i : Int)), some (.ref a), some (.str "way"), some (.int rr)]) rfl ?_
        exact ⟨sx7.trans (Same.sx s8), hp7.same s8, t8, f8, _, cs ++ [rr], _, _, _, _, hl8, (hf8.elim (fun e => e ▸ fkp) fun e => hp7.ne e), (hf8.elim (fun e => e ▸ fkD) fun e z => by rw [z, hD7] at e; cases e), hok.step f lo hy (fun z => h9 (by rw [z]; rfl)) hrb, s8 _ _ hD7, hrun.next1 hy h9 n0 hrb (fun _ => hrw), ⟨by rw [List.length_append]; show _ + 1 ≤ _; omega, fun k hk => (List.mem_append.mp hk).elim (cb k) fun z => by (rw [List.mem_singleton.mp z]; exact hrb)⟩, rfl⟩
      · by_cases n1 : y.1.need = 1
        · have hS : needS y.1 = "any" := (if_neg n2).trans (if_pos n1)
          have n0 : ¬ y.1.need = 0 := by rw [n1]; decide
          rw [hS]
          refine ⟨_, rfl, rfl, _, rfl, iteF ?_⟩
          refine tNextI ?_
          refine ⟨_, rfl, rfl, _, rfl, iteT ?_⟩
          refine ⟨1, rfl, 6, rfl, _, _, rfl, rfl, ⟨by decide, by decide, by decide⟩, small (by show 6 ≤ 5000; decide), fun l nl => ?_⟩
          have s5b := same_new (o := HO.lst [.int 0, .int 1, .int (-1), .int 2, .int (-6), .int (10 ^ (20 : Int).toNat)]) nl
          have hl : (upd H5 l (HO.lst [.int 0, .int 1, .int (-1), .int 2, .int (-6), .int (10 ^ (20 : Int).toNat)])) l = some (HO.lst [.int 0, .int 1, .int (-1), .int 2, .int (-6), .int (10 ^ (20 : Int).toNat)]) := upd_same
          generalize upd H5 l (HO.lst [.int 0, .int 1, .int (-1), .int 2, .int (-6), .int (10 ^ (20 : Int).toNat)]) = H5b at s5b hl ⊢
          have hl : H5b l = some (.lst (picks6.map V.int)) := hl
          have lp := hp5.ne nl
          refine ⟨_, rfl, p, 6, u, e, rfl, hp5.same s5b, by decide, by decide, fun r0' H6 r0 r1 sx6 hp6 => ?_⟩
          obtain ⟨j, rfl, rr, hkm, hkj⟩ := draw_of picks6 6 rfl r0 r1
          have hrb := picks_ok rr hkm
          refine ⟨l, _, _, _, rfl, rfl, SqL.of (sx6 _ _ lp hl), atI_nat hkj, ?_⟩
          refine gn (σ' := [some (.ref p), some (.ref pa), some (.ref d), some (.int (n : Int)), some (.ref r), some (.ref D), some (.int (i : Int)), some (.ref a), some (.str "any"), some (.int rr)]) rfl ?_
          have hD6 := sx6 _ _ nDp (s5b _ _ hD5)
          have hr6 := (hr5.same s5b).sxl (hp5.same s5b) fkp sx6
          refine ⟨_, rfl, rfl, _, rfl, iteT ?_⟩
          refine ⟨_, rfl, .inl ⟨rfl, _, SqL.of hD6⟩, _, rfl, D, _, _, rfl, rfl, hD6, by rw [sizeLine_eq, List.length_map]; omega, ?_⟩
          have sx7 : SX p H (upd H6 D (.lst (cs.map V.int ++ [.int rr]))) := ((sx5.trans (Same.sx s5b)).trans sx6).new nDH
          have hD7 : (upd H6 D (.lst (cs.map V.int ++ [.int rr]))) D = some (.lst ((cs ++ [rr]).map V.int)) := by rw [upd_same, List.map_append]; rfl
          have hp7 := hp6.put (o := .lst (cs.map V.int ++ [.int rr])) nDp.symm
          have hr7 := hr6.put (o := .lst (cs.map V.int ++ [.int rr])) hD6 fkD
          have hpg7 := hpg.sxl f hp sx7
          generalize upd H6 D (.lst (cs.map V.int ++ [.int rr])) = H7 at sx7 hD7 hp7 hr7 hpg7 ⊢
          refine ⟨_, rfl, _, rfl, _, rfl, .ref pa, r, fk, pt, st, i, rr, y, rfl, hpg7, f, sm, lo, hr7, hy, h9, hok, by omega, fun z => absurd z n2, hrb, fun H8 t8 f8 s8 hl8 hf8 => ?_⟩
          refine gn (σ' := [some (.ref p), some (.ref pa), some (.ref d), some (.int (n : Int)), some (.ref t8), some (.ref D), some (.int (i : Int)), some (.ref a), some (.str "any"), some (.int rr)]) rfl ?_
          exact ⟨sx7.trans (Same.sx s8), hp7.same s8, t8, f8, _, cs ++ [rr], _, _, _, _, hl8, (hf8.elim (fun e => e ▸ fkp) fun e => hp7.ne e), (hf8.elim (fun e => e ▸ fkD) fun e z => by rw [z, hD7] at e; cases e), hok.step f lo hy (fun z => h9 (by rw [z]; rfl)) hrb, s8 _ _ hD7, hrun.next1 hy h9 n0 hrb (fun z => absurd z n2), ⟨by rw [List.length_append]; show _ + 1 ≤ _; omega, fun k hk => (List.mem_append.mp hk).elim (cb k) fun z => by (rw [List.mem_singleton.mp z]; exact hrb)⟩, rfl⟩
        · have n0 : y.1.need = 0 := by
            have : y.1.need ≤ 2 := by
              cases y.1 <;> first | exact Nat.le_refl _ | exact Nat.zero_le _ | (show (if _ then 1 else 0) ≤ 2; split <;> decide)
            omega
          have hS : needS y.1 = "" := (if_neg n2).trans (if_neg n1)
          rw [hS]
          refine ⟨_, rfl, rfl, _, rfl, iteF ?_⟩
          refine tNextI ?_
          refine ⟨_, rfl, rfl, _, rfl, iteF ?_⟩
          refine tNextI ?_
          refine ⟨_, rfl, rfl, _, rfl, iteF ?_⟩
          refine tNextI ?_
          refine ⟨_, rfl, _, rfl, _, rfl, .ref pa, r, fk, pt, st, i, 0, y, rfl, hpg5, f, sm, lo, hr5, hy, h9, hok, by omega, fun z => absurd z n2, by decide, fun H8 t8 f8 s8 hl8 hf8 => ?_⟩
          refine gn (σ' := [some (.ref p), some (.ref pa), some (.ref d), some (.int (n : Int)), some (.ref t8), some (.ref D), some (.int (i : Int)), some (.ref a), some (.str ""), some (.int 0)]) rfl ?_
          exact ⟨sx5.trans (Same.sx s8), hp5.same s8, t8, f8, _, cs, _, _, _, _, hl8, (hf8.elim (fun e => e ▸ fkp) fun e => hp5.ne e), (hf8.elim (fun e => e ▸ fkD) fun e z => by rw [z, hD5] at e; cases e), hok.step f lo hy (fun z => h9 (by rw [z]; rfl)) (by decide), s8 _ _ hD5, hrun.next0 hy h9 n0, ⟨by omega, cb⟩, rfl⟩
    · rintro σ H3 ⟨sx3, hp3, r, fk, st, cs, y1, y2, y3, y4, hr3, fkp, fkD, hok, hD3, hrun, ⟨cl, cb⟩, rfl⟩
      rw [show ((n : Int)).toNat = n from rfl] at hrun cl
      refine ⟨_, rfl, _, rfl, small (by show 2 ≤ 5000; decide), fun t nt => ?_⟩
      have s4 := same_new (o := .tup [.ref D, .int (n : Int)]) nt
      exact q _ t D cs n st (sx3.trans (Same.sx s4)) (hp3.same s4) (SqT.of upd_same) (s4 _ _ hD3) nDH (Nat.le_refl _) hrun cl cb
end
end Sp1

set_option Elab.async false
set_option linter.all false
set_option maxRecDepth 100000
set_option maxHeartbeats 4000000
namespace Sp1
open PySem PySem.Spec PyProof.Rows L2 Pg
section
variable {P : Program} {w : World} {K : PySem.W.Frag} {mg : Str → Option Value} {base : Heap}
def sp_ldue (K : PySem.W.Frag) (PC : Addr) : Sp := fun vs H Q _ => ∃ (v : V) (d c : Addr) (pt : Pt) (g : Str → Option Int) (cs : List Int) (n : Nat), vs = [v, .ref d, .ref c, .int (n : Int)] ∧ PgAt K PC H v pt ∧ pt.Fine ∧ pt.Small ∧ pt.Lo ∧ StAt H d g ∧ (∀ x i, g x = some i → i.natAbs ≤ 10 ^ 20) ∧ n ≤ 40 ∧ SqL K H c (cs.map V.int) ∧ (∀ i, i < n → Good pt cs (runN pt g cs i)) ∧
  ∀ H' t, Same H H' → Dp K H' (.ref t) (.tuple [.str "done", resD (runN pt g cs n)]) → Q (.ref t) H'
theorem ok__law_due (T : LwM K mg) (PC : PgC K mg) (UE : PgE0 K mg PC.C) : FnOk P w K mg base CX0 8 T.f__law_due T.fd__law_due ["_law_scheme", "_law_opening", "_law_picks", "_law_length"] (sp_ldue K PC.C) := by
  refine T.D__law_due.F.ok sc_l_due (fun vs H Q E h => ?_) (fun cdv A outer s H vs Q E hr h => ?_)
  · obtain ⟨v, d, c, pt, g, cs, n, rfl, _⟩ := h
    rfl
  · obtain ⟨v, d, c, pt, g, cs, n, rfl, hpg, f, sm, lo, hd, hgb, hn, hc, good, q⟩ := h
    have nd := sc_l_due.nd
    refine ⟨_, (pss_cons (ps_par (i := 4) (j := 5) rfl nd rfl rfl (by decide) rfl rfl (pa_cons (pe_call ((ok__law_first T PC).mono (by decide)) hr (by rfl) T.D__law_first.g T.D__law_first.kp T.D__law_first.b .nil pass0 (pa_cons (pv 0) (pa_cons (pv 1) pa_nil))) (pa_cons pe_int pa_nil)) rfl)
      (pss_cons (ps_for PassesOwn.never rfl (pi_range1 (by rfl) T.m_range (pa_cons (pv 3) pa_nil)) (pg_name (i := 6) nd rfl (.inl rfl))
      (pss_cons (ps_set (i := 7) nd rfl (.inl rfl) (pe_ix (r := rIxT K) ix_tup (pe_prop (pv 0) PC.cl PC.P_code (ok_code PC) (hr.mono (by decide)) PC.b_code .nil pass0 rfl) (pe_ix (r := rIxL K) ix_list (pv 4) pe_int (fun _ _ => rfl)) (fun _ _ => rfl)))
        (pss_cons (ps_if (pt_cmpR (op_eqD hr.units) (pv 7) (pe_tup (pa_cons pe_str pa_nil)) (nomark _))
        (pss_one (ps_ret (pe_tup (pa_cons pe_str (pa_cons (pv 5) pa_nil)))))
        pss_nil)
        (pss_cons (ps_par (i := 8) (j := 9) rfl nd rfl rfl (by decide) rfl rfl (pa_cons (pe_call ((ok__law_need T).mono (by decide)) hr (by rfl) T.D__law_need.g T.D__law_need.kp T.D__law_need.b .nil pass0 (pa_cons (pv 7) pa_nil)) (pa_cons pe_int pa_nil)) rfl)
        (pss_cons (ps_if (pt_cmpR op_ne (pv 8) pe_str (nomark _))
        (pss_cons (ps_if (PW.pt (pw_or (pt_cmpR op_ge (pv 5) (pe_callB call_len_seq (by rfl) T.m_len PySem.boot_len (pa_cons (pv 2) pa_nil)) (nomark _)) (pw_or1 (PW.pt (pw_and (pt_cmpR op_eq (pv 8) pe_str (nomark _)) (pw_and1 (pt_cmpR op_notIn_seq (pe_ix (r := rIxL K) ix_list (pv 2) (pv 5) (fun _ _ => rfl)) (pe_lst (pa_cons pe_int (pa_cons pe_int pa_nil))) (by with_unfolding_all rfl))))))))
          (pss_one (ps_ret (pe_tup (pa_cons pe_str (pa_cons (pv 5) pa_nil)))))
          pss_nil)
          (pss_cons (ps_set (i := 9) nd rfl (.inl rfl) (pe_ix (r := rIxL K) ix_list (pv 2) (pv 5) (fun _ _ => rfl)))
          (pss_one (ps_set (i := 5) nd rfl (.inl rfl) (pe_op op_add (pv 5) pe_int)))))
        pss_nil)
        (pss_one (ps_set (i := 4) nd rfl (.inl rfl) (pe_call ((ok__law_jump T PC UE).mono (by decide)) hr (by rfl) T.D__law_jump.g T.D__law_jump.kp T.D__law_jump.b .nil pass0 (pa_cons (pv 0) (pa_cons (pv 4) (pa_cons (pv 9) pa_nil)))))))))))
      (pss_one (ps_ret (pe_tup (pa_cons pe_str (pa_cons (pe_tup (pa_cons (pe_ix (r := rIxL K) ix_list (pv 4) pe_int (fun _ _ => rfl)) (pa_cons (pe_ix (r := rIxL K) ix_list (pv 4) pe_int (fun _ _ => rfl)) (pa_cons (pe_callTy call_tuple_of (by rfl) T.m_tuple (by decide +kernel) (pa_cons (pe_ix (r := rIxL K) ix_list (pv 4) pe_int (fun _ _ => rfl)) pa_nil)) (pa_cons (pv 5) pa_nil))))) pa_nil))))))), ?_⟩
    refine ⟨_, rfl, _, rfl, v, d, pt, g, rfl, hpg, f, hd, fun H1 r fk s1 hr1 nfk => ?_⟩
    refine ⟨_, _, rfl, ?_⟩
    dsimp only [List.set]
    refine ⟨_, rfl, (n : Int), rfl, by omega, by omega, ?_⟩
    have ok0 : Rs.Ok pt 0 (runN pt g cs 0).1 := Rs.ok0 f (by unfold startV; rw [List.length_map]) fun y hy => by
      obtain ⟨nm, _, rfl⟩ := List.mem_map.mp hy
      cases e : g nm with
      | none => decide
      | some i => exact hgb nm i e
    have oks : ∀ i, i ≤ n → Rs.Ok pt i (runN pt g cs i).1 := runN_ok f lo ok0 good
    refine for_range (lo := 0) (n := ((n : Int)).toNat) (fun i σ H' => Same H H' ∧ ∃ (r fk : Addr) (y1 y2 y3 y4 : Option V), LrAt K H' r fk (runN pt g cs i).1 ∧ σ = [some v, some (.ref d), some (.ref c), some (.int (n : Int)), some (.ref r), some (.int ((runN pt g cs i).2 : Int)), y1, y2, y3, y4])
      ⟨s1, r, fk, none, none, none, none, hr1, rfl⟩ ?_ ?_
    · rintro i σ H3 hi ⟨s3, r, fk, y1, y2, y3, y4, hr3, rfl⟩
      have hi : i < n := hi
      have ei : V.int ((0 : Int) + (i : Int)) = V.int (i : Int) := by rw [Int.zero_add]
      refine gn (σ' := [some v, some (.ref d), some (.ref c), some (.int (n : Int)), some (.ref r), some (.int ((runN pt g cs i).2 : Int)), some (.int (i : Int)), y2, y3, y4]) (by rw [ei]; rfl) ?_
      have hpg3 := hpg.same f s3
      have hok := oks i (by omega)
      obtain ⟨y, hy, h9, hch, hkb⟩ := good i hi
      have e1 : runN pt g cs (i + 1) = ((runN pt g cs i).1.step pt y.1 (kOf y.1 (runN pt g cs i).2 cs), usOf y.1 (runN pt g cs i).2) := by
        show one pt cs (runN pt g cs i) = _
        unfold one
        rw [hy]
      obtain ⟨pa, pdx, pcv, pd, pgv, pvv, pqv, pmv, rfl, g1, g2, ⟨cc, ys, rfl, hF, hY⟩, g4⟩ := id hpg3
      obtain ⟨vv', xs, hr1', hr2', hr3', hr4'⟩ := id hr3
      have hl' : (runN pt g cs i).1.at_ < ys.length := by
        rw [dpAll_len hY, ← pt.ins_len]
        exact (List.getElem?_eq_some_iff.mp hy).1
      obtain ⟨y', hy', hdp⟩ := cdv_at hY (List.getElem?_eq_getElem hl')
      rw [hy] at hy'
      cases hy'
      have iok := Pt.ins_ok f y (List.mem_of_getElem? hy)
      obtain ⟨a, zs, ea, hT, hZ⟩ := dp_ins hdp
      rw [ea] at hdp
      refine ⟨_, rfl, pa, pdx, _, rfl, g1, pa, pdx, _, _, rfl, g1, pgF_code _ _ _ _ _ _, _, rfl, r, _, 0, _, rfl, rfl, SqL.of hr1', at0, cc, ys, _, .ref a, rfl, rfl, hF.sqt, by rw [← ea]; exact atI_nat (List.getElem?_eq_getElem hl'), ?_⟩
      generalize hus : (runN pt g cs i).2 = us at *
      generalize hst : (runN pt g cs i).1 = st at *
      refine gn (σ' := [some (.ref pa), some (.ref d), some (.ref c), some (.int (n : Int)), some (.ref r), some (.int (us : Int)), some (.int (i : Int)), some (.ref a), y3, y4]) rfl ?_
      refine ⟨_, rfl, small (by show 1 ≤ 5000; decide), fun ts ns => ?_⟩
      have s4 := same_new (o := HO.tup [.str "stop"]) ns
      have hts : (upd H3 ts (HO.tup [.str "stop"])) ts = some (HO.tup [.str "stop"]) := upd_same
      generalize upd H3 ts (HO.tup [.str "stop"]) = H4 at s4 hts ⊢
      refine ⟨y.1.D, .tuple [.str "stop"], dp_keep (Same.tk s4) hdp (ins_tupD f hy), .tup (SqT.of hts) (.cons (.str _) .nil), ins_shaped f hy, by decide +kernel, ?_⟩
      rw [eqv_stop, decide_eq_false h9]
      refine ⟨_, rfl, iteF ?_⟩
      refine tNextI ?_
      refine ⟨_, rfl, a, y.1, zs, pt.names, pt.ps.map (·.1), rfl, Same.sqt s4 hT, dpAll_keep (Same.tk s4) hZ ?_, iok, f.N, fun H5 s5 => ?_⟩
      · have := ins_tupD f hy
        rw [y.1.D_eq, tupD_tuple, tupAll] at this
        exact (Bool.and_eq_true _ _ ▸ this).2
      refine ⟨_, _, rfl, ?_⟩
      dsimp only [List.set]
      have s05 := s3.trans (s4.trans s5)
      have hr5 := hr3.same (s4.trans s5)
      have hpg5 := hpg.same f s05
      have hc5 := Same.seq s05 hc
      have e2 : (runN pt g cs (i + 1)).1 = st.step pt y.1 (kOf y.1 us cs) := by rw [e1]
      have e3 : (runN pt g cs (i + 1)).2 = usOf y.1 us := by rw [e1]
      by_cases n0 : y.1.need = 0
      · have hS : needS y.1 = "" := by
          unfold needS
          rw [n0]
          rfl
        have hk0 : kOf y.1 us cs = 0 := if_pos n0
        rw [hS]
        refine ⟨_, rfl, rfl, _, rfl, iteF ?_⟩
        refine tNextI ?_
        refine ⟨_, rfl, _, rfl, _, rfl, .ref pa, r, fk, pt, st, i, 0, y, rfl, hpg5, f, sm, lo, hr5, hy, h9, hok, by omega, (fun z => by (rw [z] at n0; cases n0)), by decide, fun H8 t8 f8 s8 hl8 _ => ?_⟩
        refine gn (σ' := [some (.ref pa), some (.ref d), some (.ref c), some (.int (n : Int)), some (.ref t8), some (.int (us : Int)), some (.int (i : Int)), some (.ref a), some (.str ""), some (.int 0)]) rfl ?_
        refine ⟨s05.trans s8, t8, f8, _, _, _, _, by rw [e2, hk0]; exact hl8, by rw [e3, show usOf y.1 us = us from if_pos n0]⟩
      · obtain ⟨hlt, hway⟩ := hch n0
        have hk0 : kOf y.1 us cs = cs.getD us 0 := if_neg n0
        have hat : atI (cs.map V.int) (us : Int) = some (.int (cs.getD us 0)) := atI_nat (by rw [List.getElem?_map, List.getElem?_eq_getElem hlt, getD_of hlt]; rfl)
        generalize hkk : cs.getD us 0 = k at *
        rw [hk0] at hkb
        have last : ∀ {H6 : Hp} (nds : Str), Same H H6 → LrAt K H6 r fk st → sp_ljump K PC.C [.ref pa, .ref r, .int k] H6 (fun x H1 => gName 4 x [some (.ref pa), some (.ref d), some (.ref c), some (.int (n : Int)), some (.ref r), some (.int ((us : Int) + 1)), some (.int (i : Int)), some (.ref a), some (.str nds), some (.int k)] H1
            fun σ H' => Same H H' ∧ ∃ (r fk : Addr) (y1 y2 y3 y4 : Option V), LrAt K H' r fk (runN pt g cs (i + 1)).1 ∧ σ = [some (.ref pa), some (.ref d), some (.ref c), some (.int (n : Int)), some (.ref r), some (.int ((runN pt g cs (i + 1)).2 : Int)), y1, y2, y3, y4]) E0 := fun {H6} nds s6 hr6 => by
          refine ⟨.ref pa, r, fk, pt, st, i, k, y, rfl, hpg.same f s6, f, sm, lo, hr6, hy, h9, hok, by omega, hway, hkb, fun H8 t8 f8 s8 hl8 _ => ?_⟩
          refine gn (σ' := [some (.ref pa), some (.ref d), some (.ref c), some (.int (n : Int)), some (.ref t8), some (.int ((us : Int) + 1)), some (.int (i : Int)), some (.ref a), some (.str nds), some (.int k)]) rfl ?_
          refine ⟨s6.trans s8, t8, f8, _, _, _, _, by rw [e2, hk0]; exact hl8, by rw [e3, show usOf y.1 us = us + 1 from if_neg n0]; rfl⟩
        have used : ¬ (((cs.map V.int).length : Nat) : Int) ≤ (us : Int) := by rw [List.length_map]; omega
        by_cases n2 : y.1.need = 2
        · have hS : needS y.1 = "way" := if_pos n2
          rw [hS]
          refine ⟨_, rfl, rfl, _, rfl, iteT ?_⟩
          refine ⟨_, rfl, _, rfl, c, _, rfl, .inl hc5, _, _, rfl, rfl, _, rfl, ite2 (fun e => absurd (of_decide_eq_true e) used) (fun _ => ?_)⟩
          refine ⟨_, rfl, rfl, _, rfl, iteT ?_⟩
          refine ⟨_, rfl, _, rfl, c, _, _, _, rfl, rfl, hc5, hat, small (by show 2 ≤ 5000; decide), fun l nl => ?_⟩
          have s6 := same_new (o := HO.lst [.int 0, .int 1]) nl
          have hl : (upd H5 l (HO.lst [.int 0, .int 1])) l = some (HO.lst [.int 0, .int 1]) := upd_same
          generalize upd H5 l (HO.lst [.int 0, .int 1]) = H6 at s6 hl ⊢
          refine ⟨l, _, rfl, .inl (SqL.of hl), rfl, rfl, ?_⟩
          have ein : (if (true : Bool) = true then !inV (.int k) [.int 0, .int 1] else inV (.int k) [.int 0, .int 1]) = false := by
            rcases hway n2 with rfl | rfl <;> decide +kernel
          rw [ein]
          refine ⟨_, rfl, iteF ?_⟩
          refine tNextI ?_
          refine ⟨_, rfl, _, rfl, c, _, _, _, rfl, rfl, Same.seq s6 hc5, hat, ?_⟩
          refine gn (σ' := [some (.ref pa), some (.ref d), some (.ref c), some (.int (n : Int)), some (.ref r), some (.int (us : Int)), some (.int (i : Int)), some (.ref a), some (.str "way"), some (.int k)]) rfl ?_
          refine ⟨_, rfl, _, _, rfl, rfl, ?_⟩
          refine gn (σ' := [some (.ref pa), some (.ref d), some (.ref c), some (.int (n : Int)), some (.ref r), some (.int ((us : Int) + 1)), some (.int (i : Int)), some (.ref a), some (.str "way"), some (.int k)]) rfl ?_
          exact ⟨_, rfl, _, rfl, _, rfl, last "way" (s05.trans s6) (hr5.same s6)⟩
        · have n1 : y.1.need = 1 := by
            have : y.1.need ≤ 2 := by
              cases y.1 <;> first | exact Nat.le_refl _ | exact Nat.zero_le _ | (show (if _ then 1 else 0) ≤ 2; split <;> decide)
            omega
          have hS : needS y.1 = "any" := (if_neg n2).trans (if_pos n1)
          rw [hS]
          refine ⟨_, rfl, rfl, _, rfl, iteT ?_⟩
          refine ⟨_, rfl, _, rfl, c, _, rfl, .inl hc5, _, _, rfl, rfl, _, rfl, ite2 (fun e => absurd (of_decide_eq_true e) used) (fun _ => ?_)⟩
          refine ⟨_, rfl, rfl, _, rfl, iteF ?_⟩
          refine iteF ?_
          refine tNextI ?_
          refine ⟨_, rfl, _, rfl, c, _, _, _, rfl, rfl, hc5, hat, ?_⟩
          refine gn (σ' := [some (.ref pa), some (.ref d), some (.ref c), some (.int (n : Int)), some (.ref r), some (.int (us : Int)), some (.int (i : Int)), some (.ref a), some (.str "any"), some (.int k)]) rfl ?_
          refine ⟨_, rfl, _, _, rfl, rfl, ?_⟩
          refine gn (σ' := [some (.ref pa), some (.ref d), some (.ref c), some (.int (n : Int)), some (.ref r), some (.int ((us : Int) + 1)), some (.int (i : Int)), some (.ref a), some (.str "any"), some (.int k)]) rfl ?_
          exact ⟨_, rfl, _, rfl, _, rfl, last "any" s05 hr5⟩
    · rintro σ H3 ⟨s3, r, fk, y1, y2, y3, y4, hr3, rfl⟩
      rw [show ((n : Int)).toNat = n from rfl] at hr3
      obtain ⟨vv', xs, hr1', hr2', hr3', hr4'⟩ := id hr3
      refine ⟨_, rfl, r, _, 0, _, rfl, rfl, SqL.of hr1', at0, _, rfl, r, _, 1, _, rfl, rfl, SqL.of hr1', at1, _, rfl, r, _, 2, _, rfl, rfl, SqL.of hr1', at2, fk, xs, rfl, .inl ⟨SqL.of hr3', fun t1 n1 => ?_⟩⟩
      have s4 := same_new (o := HO.tup xs) n1
      have h4 : (upd H3 t1 (HO.tup xs)) t1 = some (HO.tup xs) := upd_same
      generalize upd H3 t1 (HO.tup xs) = H4 at s4 h4 ⊢
      refine ⟨_, rfl, small (by show 4 ≤ 5000; decide), fun t2 n2 => ?_⟩
      have en : ((n : Int)).toNat = n := rfl
      rw [en]
      have s5 := same_new (o := HO.tup [.int ((runN pt g cs n).1.at_ : Int), .ref vv', .ref t1, .int ((runN pt g cs n).2 : Int)]) n2
      have h5 : (upd H4 t2 (HO.tup [.int ((runN pt g cs n).1.at_ : Int), .ref vv', .ref t1, .int ((runN pt g cs n).2 : Int)])) t2 = some (HO.tup [.int ((runN pt g cs n).1.at_ : Int), .ref vv', .ref t1, .int ((runN pt g cs n).2 : Int)]) := upd_same
      generalize upd H4 t2 (HO.tup [.int ((runN pt g cs n).1.at_ : Int), .ref vv', .ref t1, .int ((runN pt g cs n).2 : Int)]) = H5 at s5 h5 ⊢
      refine ⟨small (by show 2 ≤ 5000; decide), fun t3 n3 => ?_⟩
      have s6 := same_new (o := .tup [.str "done", .ref t2]) n3
      have s46 := s4.trans (s5.trans s6)
      refine q _ t3 (s3.trans s46) (.tup (SqT.of upd_same) (.cons (.str _) (.cons (.tup (SqT.of (s6 _ _ h5)) (.cons (.int _) (.cons (.tup (Same.sqt s46 hr2') (dpAll_ints _)) (.cons (.tup (SqT.of ((s5.trans s6) _ _ h4)) (dpAll_keep (Same.tk s46) hr4' (frD_tup _))) (.cons (.int _) .nil))))) .nil)))
end
end Sp1

set_option Elab.async false
set_option linter.all false
set_option maxRecDepth 100000
set_option maxHeartbeats 4000000
namespace Sp1
open PySem PySem.Spec PyProof.Rows L2 Pg
/-! what a free run returns can be shown -/
theorem stk_adr {C : List IK} {M i : Nat} {f : List Fr} (h : Stk C M i f) : ∀ n, Fr.adr n ∈ f → n < C.length := by
  induction h with
  | main h1 h2 h3 h4 => exact fun n hn => False.elim (h4 _ hn)
  | proc h1 h2 h3 h4 h5 ih =>
    intro n hn
    rcases List.mem_append.mp hn with hn | hn
    · exact ih n hn
    · rcases List.mem_append.mp hn with hn | hn
      · cases List.mem_singleton.mp hn
        obtain ⟨y, k, e⟩ := h5.at_
        exact (List.getElem?_eq_some_iff.mp e).1
      · exact False.elim (h4 _ hn)
theorem usOf_le (y : Ins) (us : Nat) : usOf y us ≤ us + 1 := by
  unfold usOf
  split <;> omega
theorem runN_us (p : Pt) (g : Str → Option Int) (cs : List Int) : ∀ n, (runN p g cs n).2 ≤ n
  | 0 => Nat.le_refl _
  | n + 1 => by
    have ih := runN_us p g cs n
    show (one p cs (runN p g cs n)).2 ≤ n + 1
    unfold one
    split
    · rename_i y hy
      have := usOf_le y.1 (runN p g cs n).2
      show usOf y.1 (runN p g cs n).2 ≤ n + 1
      omega
    · omega
def BIG : Nat := 10 ^ 21 * (10 ^ 6) ^ 40
theorem BIG_log {i : Int} (h : i.natAbs ≤ BIG) : i.natAbs.log2 < 1920 := log2_lt' (by decide) (Nat.lt_of_le_of_lt h (by decide +kernel))
theorem bigs {cs : List Int} (h : ∀ k ∈ cs, k.natAbs ≤ BIG) : PyData.showableAll (cs.map PyData.int) = true ∧ PyData.leavesShortAll 1921 (cs.map PyData.int) = true ∧ PyData.hasDictAll (cs.map PyData.int) = false ∧ PyData.bulkAll (cs.map PyData.int) = cs.length ∧ PyData.depthAll (cs.map PyData.int) = 0 := by
  induction cs with
  | nil => exact ⟨rfl, rfl, rfl, rfl, rfl⟩
  | cons k cs ih =>
    obtain ⟨i1, i2, i3, i4, i5⟩ := ih fun q hq => h q (List.mem_cons_of_mem _ hq)
    have hl := BIG_log (h k (List.mem_cons_self ..))
    have h3 := PyProof.Rows.int_text_len_1921 hl
    refine ⟨?_, ?_, ?_, ?_, ?_⟩
    · simp only [List.map_cons, PyData.showableAll, PyData.showable, i1, hl, decide_true, Bool.and_true]
    · simp only [List.map_cons, PyData.leavesShortAll, PyData.leavesShort, i2, Bool.and_true, decide_eq_true_eq]
      exact h3
    · simp only [List.map_cons, PyData.hasDictAll, PyData.hasDict, i3, Bool.or_false]
    · simp only [List.map_cons, PyData.bulkAll, PyData.bulk, i4, List.length_cons]
      omega
    · simp only [List.map_cons, PyData.depthAll, PyData.depth, i5]
      exact Nat.max_self 0
def FrBig : Fr → Prop
  | .adr n => n ≤ BIG
  | .cnt a b => a.natAbs ≤ BIG ∧ b.natAbs ≤ BIG
theorem bigFr {fs : List Fr} (h : ∀ f ∈ fs, FrBig f) : PyData.showableAll (fs.map Fr.D) = true ∧ PyData.leavesShortAll 1921 (fs.map Fr.D) = true ∧ PyData.hasDictAll (fs.map Fr.D) = false ∧ PyData.bulkAll (fs.map Fr.D) ≤ 3 * fs.length ∧ PyData.depthAll (fs.map Fr.D) ≤ 1 := by
  induction fs with
  | nil => exact ⟨rfl, rfl, rfl, Nat.le_refl _, Nat.zero_le _⟩
  | cons f fs ih =>
    obtain ⟨i1, i2, i3, i4, i5⟩ := ih fun q hq => h q (List.mem_cons_of_mem _ hq)
    have hf := h f (List.mem_cons_self ..)
    have one : f.D.showable = true ∧ f.D.leavesShort 1921 = true ∧ f.D.hasDict = false ∧ f.D.bulk ≤ 2 ∧ f.D.depth ≤ 1 := by
      cases f with
      | adr n =>
        obtain ⟨j1, j2, j3, j4, j5⟩ := bigs (cs := [(n : Int)]) (fun k hk => by
          cases List.mem_singleton.mp hk
          exact hf)
        simp only [List.map_cons, List.map_nil, PyData.showableAll, PyData.leavesShortAll, PyData.hasDictAll, Bool.and_true, Bool.or_false] at j1 j2 j3
        exact ⟨j1, j2, j3, by simp only [Fr.D, PyData.bulk]; omega, by simp only [Fr.D, PyData.depth]; omega⟩
      | cnt a b =>
        obtain ⟨j1, j2, j3, j4, j5⟩ := bigs (cs := [a, b]) (fun k hk => by
          rcases List.mem_cons.mp hk with rfl | hk
          · exact hf.1
          · cases List.mem_singleton.mp hk
            exact hf.2)
        simp only [List.map_cons, List.map_nil] at j1 j2 j3 j4 j5
        refine ⟨?_, ?_, ?_, ?_, ?_⟩
        · simp only [Fr.D, PyData.showable]; exact j1
        · simp only [Fr.D, PyData.leavesShort]; exact j2
        · simp only [Fr.D, PyData.hasDict]; exact j3
        · simp only [Fr.D, PyData.bulk, j4]; exact Nat.le_refl _
        · simp only [Fr.D, PyData.depth, j5]; exact Nat.le_refl _
    obtain ⟨o1, o2, o3, o4, o5⟩ := one
    refine ⟨?_, ?_, ?_, ?_, ?_⟩
    · simp only [List.map_cons, PyData.showableAll, i1, o1, Bool.and_true]
    · simp only [List.map_cons, PyData.leavesShortAll, i2, o2, Bool.and_true]
    · simp only [List.map_cons, PyData.hasDictAll, o3, i3, Bool.or_false]
    · simp only [List.map_cons, PyData.bulkAll, List.length_cons]
      omega
    · simp only [List.map_cons, PyData.depthAll]
      exact Nat.max_le.mpr ⟨o5, i5⟩
theorem resD_ok {p : Pt} (f : p.Fine) (sm : p.Small) {n : Nat} {a : Rs × Nat} (h : Rs.Ok p n a.1) (hn : n ≤ 40) (hu : a.2 ≤ 40) : ReprOk (resD a) := by
  have hB : ∀ z : Nat, z ≤ 10 ^ 21 * (10 ^ 6) ^ n → z ≤ BIG := fun z hz => Nat.le_trans hz (Nat.mul_le_mul_left _ (Nat.pow_le_pow_right (by decide) hn))
  have hC : p.ins.length ≤ 120 := by rw [Pt.ins_len]; exact sm.sz
  obtain ⟨y, k, hat⟩ := h.stk.at_
  have hat := (List.getElem?_eq_some_iff.mp hat).1
  have b120 : ∀ z : Nat, z ≤ 120 → z ≤ BIG := fun z hz => Nat.le_trans hz (by decide +kernel)
  obtain ⟨v1, v2, v3, v4, v5⟩ := bigs (cs := a.1.vec) (fun x hx => hB _ (h.bd x hx))
  obtain ⟨f1, f2, f3, f4, f5⟩ := bigFr (fs := a.1.fr) (fun x hx => by
    cases x with
    | adr m =>
      have := stk_adr h.stk m hx
      exact b120 _ (by omega)
    | cnt c d =>
      obtain ⟨q1, q2⟩ := h.fb c d hx
      exact ⟨hB _ q1, hB _ q2⟩)
  obtain ⟨w1, w2, w3, w4, w5⟩ := bigs (cs := [(a.1.at_ : Int), (a.2 : Int)]) (fun x hx => by
    rcases List.mem_cons.mp hx with rfl | hx
    · exact b120 a.1.at_ (by omega)
    · cases List.mem_singleton.mp hx
      exact b120 a.2 (by omega))
  simp only [List.map_cons, List.map_nil, PyData.showableAll, PyData.leavesShortAll, PyData.hasDictAll, Bool.and_true, Bool.or_false, Bool.and_eq_true, Bool.or_eq_false_iff] at w1 w2 w3
  have l1 := h.len
  have l2 := h.fl
  have l4 := f.l4
  have ln : p.names.length = p.given.length + p.vars.length := List.length_append
  have hb : (resD a).bulk ≤ 200 := by
    simp only [resD, PyData.bulk, PyData.bulkAll, v4]
    omega
  have hl : (resD a).leavesShort 1921 = true := by
    simp only [resD, PyData.leavesShort, PyData.leavesShortAll, v2, f2]
    have a1 := w2.1
    have a2 := w2.2
    simp only [PyData.leavesShort] at a1 a2
    simp only [a1, a2, Bool.and_true]
  refine ⟨?_, ?_, ?_, ?_⟩
  · simp only [resD, PyData.showable, PyData.showableAll, v1, f1]
    have a1 := w1.1
    have a2 := w1.2
    simp only [PyData.showable] at a1 a2
    simp only [a1, a2, Bool.and_true]
  · simp only [resD, PyData.hasDict, PyData.hasDictAll, v3, f3, Bool.or_false]
  · simp only [resD, PyData.depth, PyData.depthAll, v5]
    omega
  · have h1 := PyData.shown_le_bulk 1921 (by decide) (resD a) hl
    have h2 : (1921 + 2) * (resD a).bulk ≤ (1921 + 2) * 200 := Nat.mul_le_mul_left _ hb
    rw [sizeLine_eq]
    omega
end Sp1

set_option Elab.async false
set_option linter.all false
set_option maxRecDepth 100000
set_option maxHeartbeats 4000000
namespace Sp1
open PySem PySem.Spec PyProof.Rows L2 Pg
structure LqM (K : PySem.W.Frag) (mg : Str → Option Value) extends LwM K mg where
  m_repr : mg "repr" = none
section
variable {P : Program} {w : World} {K : PySem.W.Frag} {mg : Str → Option Value} {base : Heap}
theorem kb_free_run {f : Addr} {fd : FuncData} (F : Fun K "free_run" "free_run" s_free_run f fd) : KBinds K fd ["program", "start", "choices", "steps"] ["steps", "choices", "start", "program"] (fun us ws => us ++ ws.reverse) (fun vs zs => vs ++ zs.reverse) := by
  obtain ⟨oc, od, kV, doc, pm, an, cdv, ct, osl, rfl, lk, hcd⟩ := F.ex
  refine ⟨fun s us ws _ hl => ?_, fun r rz => r.append (vals_rev rz)⟩
  replace hl : us.length + ws.length = 4 := by simpa using hl
  refine BindsTo.of_eq ?_
  have fin : ∀ (a b c d : Value), (bindArgs (PySem.W.fnOf "free_run" "free_run" (defArgs s_free_run) (defBody s_free_run) (defScope s_free_run) .none kV doc pm an cdv ct) ⟨[], (["steps", "choices", "start", "program"] : List Str).zip [a, b, c, d]⟩ = pure ((["program", "start", "choices", "steps"] : List Str).zip [d, c, b, a])) := fun a b c d => rfl
  rcases us with _ | ⟨u1, _ | ⟨u2, _ | ⟨u3, _ | ⟨u4, us⟩⟩⟩⟩ <;> rcases ws with _ | ⟨w1, _ | ⟨w2, _ | ⟨w3, _ | ⟨w4, _ | ⟨w5, ws⟩⟩⟩⟩⟩ <;> first | rfl | (exfalso; simp only [List.length_cons, List.length_nil] at hl; omega) | (rcases us with _ | ⟨u5, us⟩ <;> first | rfl | (exfalso; simp only [List.length_cons, List.length_nil] at hl; omega))
def sp_lright (K : PySem.W.Frag) (PC : Addr) : Sp := fun vs H Q _ => ∃ (p : Addr) (v : V) (u e : Int) (pt : Pt), vs = [.ref p, v] ∧ Pl H p u e ∧ PgAt K PC H v pt ∧ pt.Fine ∧ pt.Small ∧ pt.Lo ∧ ∀ H', SX p H H' → Pl H' p u e → Q (.bl true) H'
theorem ok__law_is_right (T : LqM K mg) (PC : PgC K mg) (UE : PgE0 K mg PC.C) (MC : MvC K mg) (FC : FrC K mg) : FnOkG P w K mg base CX0 12 T.f__law_is_right T.fd__law_is_right ["_law_pool_here", "_law_scheme"] (sp_lright K PC.C) := by
  refine Sp1.Fun.okG T.D__law_is_right.F sc_l_is_right (fun vs H Q E h => ?_) (fun cdv A outer s H vs Q E hG hr h => ?_)
  · obtain ⟨p, v, u, e, pt, rfl, _⟩ := h
    rfl
  · obtain ⟨p, v, u, e, pt, rfl, hp, hpg, f, sm, lo, q⟩ := h
    have nd := sc_l_is_right.nd
    refine ⟨_, (pss_cons (ps_set (i := 2) nd rfl (.inl rfl) (pe_call ((ok__law_start T.toLwM PC).mono (by decide)) hr (by rfl) T.D__law_start.g T.D__law_start.kp T.D__law_start.b .nil pass0 (pa_cons (pv 0) (pa_cons (pv 1) pa_nil))))
      (pss_cons (ps_asg (pe_call ((ok__law_choices T.toLwM PC UE).mono (by decide)) hr (by rfl) T.D__law_choices.g T.D__law_choices.kp T.D__law_choices.b .nil pass0 (pa_cons (pv 0) (pa_cons (pv 1) (pa_cons (pv 2) (pa_cons (pe_call ((ok__law_draw T.toLwM.toPlF).mono (by decide)) hr (by rfl) T.D__law_draw.g T.D__law_draw.kp T.D__law_draw.b .nil pass0 (pa_cons (pv 0) (pa_cons pe_int pa_nil))) pa_nil))))) (pg_tup rfl (pgs_cons (pg_name (i := 3) nd rfl (.inl rfl)) (pgs_cons (pg_name (i := 4) nd rfl (.inl rfl)) pgs_nil))))
      (pss_cons (ps_set (i := 5) nd rfl (.inl rfl) (pe_call ((ok__law_draw T.toLwM.toPlF).mono (by decide)) hr (by rfl) T.D__law_draw.g T.D__law_draw.kp T.D__law_draw.b .nil pass0 (pa_cons (pv 0) (pa_cons (pe_op op_add (pv 4) pe_int) pa_nil))))
      (pss_cons (ps_set (i := 6) nd rfl (.inl rfl) (pe_op op_cat (pv 3) (pe_lc (own := [("_law_turn", 9)]) (g := (gName 9)) (tt := tYes) rfl nd (pi_range1 (by rfl) T.m_range (pa_cons (pe_call ((ok__law_draw T.toLwM.toPlF).mono (by decide)) hr (by rfl) T.D__law_draw.g T.D__law_draw.kp T.D__law_draw.b .nil pass0 (pa_cons (pv 0) (pa_cons pe_int pa_nil))) pa_nil)) (blkOk_by (N := N_l_is_right) (sc := defScope s_l_is_right) (by decide +kernel)) (fun _ _ _ _ _ => (pg_name (i := 9) nd rfl (.inl rfl))) (fun _ _ _ _ _ => pts_nil) (fun _ _ _ _ _ => (pe_call ((ok__law_draw T.toLwM.toPlF).mono (by decide)) hr (by rfl) T.D__law_draw.g T.D__law_draw.kp T.D__law_draw.b .nil pass0 (pa_cons (pv 0) (pa_cons pe_int pa_nil)))))))
      (pss_cons (ps_set (i := 7) nd rfl (.inl rfl) (pe_callB (cr_reprO hG hr.units) (by rfl) T.m_repr (by decide +kernel) (pa_cons (pe_lst (pa_cons (pv 2) (pa_cons (pv 6) pa_nil))) pa_nil)))
      (pss_cons (ps_set (i := 8) nd rfl (.inl rfl) (pe_ix (r := rIxT K) ix_tup (pe_call ((ok__law_due T.toLwM PC UE).mono (by decide)) hr (by rfl) T.D__law_due.g T.D__law_due.kp T.D__law_due.b .nil pass0 (pa_cons (pv 1) (pa_cons (pv 2) (pa_cons (pv 3) (pa_cons (pv 4) pa_nil))))) pe_int (fun _ _ => rfl)))
      (pss_cons (ps_if (pt_cmpR op_ne (pe_callB (cr_reprF hG hr.units) (by rfl) T.m_repr (by decide +kernel) (pa_cons (pe_call ((okL_free_run T.toLwM.toFrF PC UE MC FC).mono (by decide)) hr (by rfl) T.D_free_run.g T.D_free_run.kp T.D_free_run.b .nil pass0 (pa_cons (pv 1) (pa_cons (pv 2) (pa_cons (pv 6) (pa_cons (pv 4) pa_nil))))) pa_nil)) (pe_callB (cr_reprF hG hr.units) (by rfl) T.m_repr (by decide +kernel) (pa_cons (pv 8) pa_nil)) (nomark _))
      (pss_one (ps_ret pe_bl))
      pss_nil)
      (pss_cons (ps_if (pt_cmpR op_ne (pe_callB (cr_reprF hG hr.units) (by rfl) T.m_repr (by decide +kernel) (pa_cons (pe_callK0 ((okT_free_run T.toLwM.toFrF PC UE MC FC).mono (by decide)) hr (by rfl) T.D_free_run.g T.D_free_run.kp (kb_free_run T.D_free_run.F) pass0 (pk_cons (pv 4) (pk_cons (pe_callTy call_tuple_of (by rfl) T.m_tuple (by decide +kernel) (pa_cons (pv 3) pa_nil)) (pk_cons (pv 2) (pk_cons (pv 1) pk_nil))))) pa_nil)) (pe_callB (cr_reprF hG hr.units) (by rfl) T.m_repr (by decide +kernel) (pa_cons (pv 8) pa_nil)) (nomark _))
      (pss_one (ps_ret pe_bl))
      pss_nil)
      (pss_cons (ps_if (pt_cmpR op_ne (pe_callB (cr_reprF hG hr.units) (by rfl) T.m_repr (by decide +kernel) (pa_cons (pe_call ((okT_free_run T.toLwM.toFrF PC UE MC FC).mono (by decide)) hr (by rfl) T.D_free_run.g T.D_free_run.kp T.D_free_run.b .nil pass0 (pa_cons (pv 1) (pa_cons (pv 2) (pa_cons (pe_callTy call_tuple_of (by rfl) T.m_tuple (by decide +kernel) (pa_cons (pv 6) pa_nil)) (pa_cons (pv 5) pa_nil))))) pa_nil)) (pe_callB (cr_reprF hG hr.units) (by rfl) T.m_repr (by decide +kernel) (pa_cons (pe_ix (r := rIxT K) ix_tup (pe_call ((ok__law_due T.toLwM PC UE).mono (by decide)) hr (by rfl) T.D__law_due.g T.D__law_due.kp T.D__law_due.b .nil pass0 (pa_cons (pv 1) (pa_cons (pv 2) (pa_cons (pv 3) (pa_cons (pv 5) pa_nil))))) pe_int (fun _ _ => rfl)) pa_nil)) (nomark _))
      (pss_one (ps_ret pe_bl))
      pss_nil)
      (pss_one (ps_ret (pe_cmpR op_eq (pe_callB (cr_reprO hG hr.units) (by rfl) T.m_repr (by decide +kernel) (pa_cons (pe_lst (pa_cons (pv 2) (pa_cons (pv 6) pa_nil))) pa_nil)) (pv 7) (nomark _))))))))))))), ?_⟩
    refine ⟨_, rfl, _, rfl, .non, v, p, u, e, pt, rfl, hp, hpg, f, fun H1 d g ps sx1 hp1 nd1 hd1 hgb hdk hps hpl => ?_⟩
    refine gn (σ' := [some (.ref p), some v, some (.ref d), none, none, none, none, none, none, none]) rfl ?_
    have dp := hp.ne nd1
    have hpg1 := hpg.sxl f hp sx1
    refine ⟨_, rfl, _, rfl, _, rfl, _, rfl, p, 41, u, e, rfl, hp1, by decide, by decide, fun r H2 r0 r1 sx2 hp2 => ?_⟩
    obtain ⟨n, rfl⟩ : ∃ n : Nat, r = (n : Int) := ⟨r.toNat, by omega⟩
    obtain ⟨kvs, e1, e2, e3, e4⟩ := id hd1
    rw [hdk] at e1
    cases e1
    have stA : ∀ {H' : Hp}, H' d = some (.dK (ps.map kvOf)) → StAt H' d g := fun h => ⟨_, h, e4⟩
    have stG : ∀ {H' : Hp}, H' d = some (.dK (ps.map kvOf)) → StG H' d pt g := fun h => ⟨_, h, e2, e3, e4⟩
    have hd2 := sx2 _ _ dp hdk
    have sx02 := sx1.trans sx2
    refine ⟨v, p, d, u, e, pt, g, n, rfl, hp2, hpg.sxl f hp sx02, f, sm, lo, stA hd2, hgb, by omega, fun H3 t D cs m s sx3 hp3 ht hD nD hm hrun cl cb => ?_⟩
    refine ⟨t, _, rfl, ht, rfl, _, _, rfl, _, _, rfl, rfl, ?_⟩
    dsimp only [List.set]
    have Dp' := hp2.ne nD
    have hd3 := sx3 _ _ dp hd2
    have sx03 := sx02.trans sx3
    refine ⟨_, rfl, _, rfl, _, _, rfl, rfl, p, (m : Int) + 1, u, e, rfl, hp3, by omega, by omega, fun b H4 b0 b1 sx4 hp4 => ?_⟩
    obtain ⟨b, rfl⟩ : ∃ z : Nat, b = (z : Int) := ⟨b.toNat, by omega⟩
    refine gn (σ' := [some (.ref p), some v, some (.ref d), some (.ref D), some (.int (m : Int)), some (.int (b : Int)), none, none, none, none]) rfl ?_
    have hd4 := sx4 _ _ dp hd3
    have hD4 := sx4 _ _ Dp' hD
    have sx04 := sx03.trans sx4
    refine ⟨_, rfl, _, rfl, p, 3, u, e, rfl, hp4, by decide, by decide, fun k H5 k0 k1 sx5 hp5 => ?_⟩
    obtain ⟨k, rfl⟩ : ∃ z : Nat, k = (z : Int) := ⟨k.toNat, by omega⟩
    have hd5 := sx5 _ _ dp hd4
    have hD5 := sx5 _ _ Dp' hD4
    have sx05 := sx04.trans sx5
    refine ⟨k, rfl, by omega, by omega, fun D2 nD2 => ?_⟩
    have D2p := hp5.ne nD2
    refine lc_range (lo := 0) (n := ((k : Int)).toNat) (fun i H' => SX p H5 H' ∧ Pl H' p u e ∧ ∃ zs : List Int, H' D2 = some (.lst (zs.map V.int)) ∧ zs.length = i ∧ ∀ z ∈ zs, z.natAbs ≤ 10 ^ 20)
      ⟨Same.sx (same_new nD2), hp5.new nD2, [], upd_same, rfl, (fun z hz => by cases hz)⟩ ?_ ?_
    · rintro i H6 hi ⟨sx6, hp6, zs, hD2, hl, hz⟩
      refine ⟨rfl, ?_⟩
      dsimp only [tYes]
      refine iteT ?_
      refine ⟨_, rfl, p, 3, u, e, rfl, hp6, by decide, by decide, fun r H7 r0 r1 sx7 hp7 => ?_⟩
      refine ⟨zs.map V.int, sx7 _ _ D2p hD2, by rw [List.length_map, sizeLine_eq]; omega, (sx6.trans sx7).new nD2, hp7.put D2p.symm, zs ++ [r], by rw [upd_same, List.map_append]; rfl, by rw [List.length_append, hl]; rfl, fun z hz' => ?_⟩
      rcases List.mem_append.mp hz' with hz' | hz'
      · exact hz z hz'
      · cases List.mem_singleton.mp hz'
        omega
    rintro H6 ⟨sx6, hp6, zs, hD2, hl, hz⟩
    have hl : zs.length = k := hl
    have hd6 := sx6 _ _ dp hd5
    have hD6 := sx6 _ _ Dp' hD5
    have sx06 := sx05.trans sx6
    have hk2 : k ≤ 2 := by omega
    refine ⟨D, D2, _, _, rfl, rfl, hD6, hD2, by rw [List.length_map, List.length_map, sizeLine_eq]; omega, fun c nc => ?_⟩
    have sc := same_new (o := .lst (cs.map V.int ++ zs.map V.int)) nc
    have hc7 : (upd H6 c (.lst (cs.map V.int ++ zs.map V.int))) c = some (.lst ((cs ++ zs).map V.int)) := by rw [upd_same, List.map_append]
    have hp7 := hp6.same sc
    generalize upd H6 c (.lst (cs.map V.int ++ zs.map V.int)) = H7 at sc hc7 hp7 ⊢
    refine gn (σ' := [some (.ref p), some v, some (.ref d), some (.ref D), some (.int (m : Int)), some (.int (b : Int)), some (.ref c), none, none, none]) rfl ?_
    have hd7 := sc _ _ hd6
    have hD7 := sc _ _ hD6
    have sx07 := sx06.trans (Same.sx sc)
    have hbO : ∀ q ∈ ps, q.1.length ≤ 8 ∧ (∀ z ∈ q.1.cps.toList, z < 0x110000) ∧ q.2.natAbs ≤ 10 ^ 20 := fun q hq => by
      obtain ⟨h1, h2⟩ := hps q hq
      have nm := f.N q.1 (List.mem_append_left _ h1)
      exact ⟨nm.l8, fun z hz => Nat.lt_of_le_of_lt (nm.ch z hz).2 (by decide), h2⟩
    have l4 := f.l4
    have lps : ps.length ≤ 8 := by omega
    have hbC : ∀ z ∈ cs ++ zs, z.natAbs ≤ 10 ^ 20 := fun z hz' => (List.mem_append.mp hz').elim (cb z) (hz z)
    have lC : (cs ++ zs).length ≤ 60 := by rw [List.length_append]; omega
    -- kept
    refine ⟨_, rfl, _, rfl, small (by show 2 ≤ 5000; decide), fun a na => ?_⟩
    have s8 := same_new (o := HO.lst [.ref d, .ref c]) na
    have ha : (upd H7 a (HO.lst [.ref d, .ref c])) a = some (HO.lst [.ref d, .ref c]) := upd_same
    generalize upd H7 a (HO.lst [.ref d, .ref c]) = H8 at s8 ha ⊢
    refine ⟨a, d, c, ps, cs ++ zs, rfl, SqL.of ha, s8 _ _ hd7, SqL.of (s8 _ _ hc7), hbO, lps, hbC, lC, ?_⟩
    refine gn (σ' := [some (.ref p), some v, some (.ref d), some (.ref D), some (.int (m : Int)), some (.int (b : Int)), some (.ref c), some (.str (twoD ps (cs ++ zs)).shown), none, none]) rfl ?_
    have hd8 := s8 _ _ hd7
    have hc8 := s8 _ _ hc7
    have hD8 := s8 _ _ hD7
    have sx08 := sx07.trans (Same.sx s8)
    have hp8 := hp7.same s8
    have hpg8 := hpg.sxl f hp sx08
    have ok0 : Rs.Ok pt 0 (runN pt g cs 0).1 := Rs.ok0 f (by unfold startV; rw [List.length_map]) fun y hy => by
      obtain ⟨nm, _, rfl⟩ := List.mem_map.mp hy
      cases e : g nm with
      | none => decide
      | some i => exact hgb nm i e
    have rok : ∀ i, i ≤ m → ReprOk (resD (runN pt g cs i)) := fun i hi => resD_ok f sm (runN_ok f lo ok0 (fun j hj => hrun.good j (by omega)) i (Nat.le_refl _)) (by omega) (Nat.le_trans (runN_us pt g cs i) (by omega))
    have tupR : ∀ {H' : Hp} {x : V} {z : Rs × Nat}, Dp K H' x (resD z) → ∃ r, x = .ref r := fun h => by
      unfold resD at h
      cases h
      exact ⟨_, rfl⟩
    have nes : ∀ x : Str, (!decide (V.str x = V.str x)) = false := fun x => by simp
    have trd : ∀ z : Rs × Nat, tupD (resD z) = true := fun z => by
      unfold resD
      rw [tupD_tuple]
      refine tupAll_iff.mpr fun y hy => ?_
      rcases List.mem_cons.mp hy with rfl | hy
      · rfl
      rcases List.mem_cons.mp hy with rfl | hy
      · rw [tupD_tuple]
        exact tupAll_iff.mpr fun y hy => by
          obtain ⟨i, _, rfl⟩ := List.mem_map.mp hy
          rfl
      rcases List.mem_cons.mp hy with rfl | hy
      · rw [tupD_tuple]
        exact frD_tup _
      · cases List.mem_singleton.mp hy
        rfl
    clear hdk hp1 hp2 hp3 hp4 hp5 hp6 hp7 hd2 hd3 hd4 hd5 hd6 hd7 hD hD4 hD5 hD6 hD7 hc7 sx1 sx2 sx3 sx4 sx5 sx6 sx02 sx03 sx04 sx05 sx06 sx07 hpg1 hd1 hD2 ht
    -- due
    refine ⟨_, rfl, _, rfl, _, rfl, _, rfl, v, d, D, pt, g, cs, m, rfl, hpg8, f, sm, lo, stA hd8, hgb, by omega, SqL.of hD8, hrun.good, fun H9 t9 s9 dp9 => ?_⟩
    cases dp9 with
    | tup hT hA =>
    cases hA with
    | cons r1 r2 =>
    cases r1
    cases r2 with
    | cons r2 r3 =>
    cases r3
    obtain ⟨r9, rfl⟩ := tupR r2
    refine ⟨t9, _, 1, _, rfl, rfl, hT, at1, ?_⟩
    refine gn (σ' := [some (.ref p), some v, some (.ref d), some (.ref D), some (.int (m : Int)), some (.int (b : Int)), some (.ref c), some (.str (twoD ps (cs ++ zs)).shown), some (.ref r9), none]) rfl ?_
    have hpg9 := hpg8.same f s9
    have hd9 := s9 _ _ hd8
    have hc9 := s9 _ _ hc8
    have hD9 := s9 _ _ hD8
    -- by place
    refine ⟨_, rfl, _, rfl, _, rfl, _, rfl, d, c, v, pt, g, cs ++ zs, m, rfl, hpg9, f, sm, lo, stG hd9, hgb, SqL.of hc9, ⟨_, hc9⟩, by omega, by omega, hrun.gpre zs, fun H10 t10 s10 dp10 => ?_⟩
    rw [hrun.pre zs m (Nat.le_refl _)] at dp10
    refine ⟨t10, _, rfl, dp10, rok m (Nat.le_refl _), ?_⟩
    refine ⟨_, rfl, r9, _, rfl, dp_keep (Same.tk s10) r2 (trd _), rok m (Nat.le_refl _), ?_⟩
    refine ⟨rfl, _, rfl, ?_⟩
    rw [nes]
    refine iteF ?_
    refine tNextI ?_
    -- by names
    have s9' := s10
    refine ⟨_, rfl, _, rfl, D, _, rfl, .inl ⟨SqL.of (s10 _ _ hD9), fun l nl => ?_⟩⟩
    have s11 := same_new (o := HO.tup (cs.map V.int)) nl
    have hl11 : (upd H10 l (HO.tup (cs.map V.int))) l = some (HO.tup (cs.map V.int)) := upd_same
    generalize upd H10 l (HO.tup (cs.map V.int)) = H11 at s11 hl11 ⊢
    have s911 := s10.trans s11
    refine ⟨_, rfl, _, rfl, d, l, v, pt, g, cs, m, rfl, hpg9.same f s911, f, sm, lo, stG (s911 _ _ hd9), hgb, SqT.of hl11, ⟨_, hl11⟩, by omega, by omega, hrun.good, fun H12 t12 s12 dp12 => ?_⟩
    refine ⟨t12, _, rfl, dp12, rok m (Nat.le_refl _), ?_⟩
    have s912 := s911.trans s12
    refine ⟨_, rfl, r9, _, rfl, dp_keep (Same.tk s912) r2 (trd _), rok m (Nat.le_refl _), ?_⟩
    refine ⟨rfl, _, rfl, ?_⟩
    rw [nes]
    refine iteF ?_
    refine tNextI ?_
    -- fewer steps
    refine ⟨_, rfl, _, rfl, _, rfl, c, _, rfl, .inl ⟨SqL.of (s912 _ _ hc9), fun l2 nl2 => ?_⟩⟩
    have s13 := same_new (o := HO.tup ((cs ++ zs).map V.int)) nl2
    have hl13 : (upd H12 l2 (HO.tup ((cs ++ zs).map V.int))) l2 = some (HO.tup ((cs ++ zs).map V.int)) := upd_same
    generalize upd H12 l2 (HO.tup ((cs ++ zs).map V.int)) = H13 at s13 hl13 ⊢
    have s913 := s912.trans s13
    refine ⟨_, rfl, d, l2, v, pt, g, cs ++ zs, b, rfl, hpg9.same f s913, f, sm, lo, stG (s913 _ _ hd9), hgb, SqT.of hl13, ⟨_, hl13⟩, by omega, by omega, fun i hi => hrun.gpre zs i (by omega), fun H14 t14 s14 dp14 => ?_⟩
    rw [hrun.pre zs b (by omega)] at dp14
    refine ⟨t14, _, rfl, dp14, rok b (by omega), ?_⟩
    have s914 := s913.trans s14
    refine ⟨_, rfl, _, rfl, _, rfl, _, rfl, v, d, D, pt, g, cs, b, rfl, hpg9.same f s914, f, sm, lo, stA (s914 _ _ hd9), hgb, by omega, SqL.of (s914 _ _ hD9), fun i hi => hrun.good i (by omega), fun H15 t15 s15 dp15 => ?_⟩
    cases dp15 with
    | tup hT' hA' =>
    cases hA' with
    | cons r1' r2' =>
    cases r1'
    cases r2' with
    | cons r2' r3' =>
    cases r3'
    obtain ⟨r15, rfl⟩ := tupR r2'
    refine ⟨t15, _, 1, _, rfl, rfl, hT', at1, ?_⟩
    refine ⟨r15, _, rfl, r2', rok b (by omega), ?_⟩
    refine ⟨rfl, _, rfl, ?_⟩
    rw [nes]
    refine iteF ?_
    refine tNextI ?_
    -- nothing has changed
    have s915 := s914.trans s15
    refine ⟨_, rfl, _, rfl, small (by show 2 ≤ 5000; decide), fun a2 na2 => ?_⟩
    have s16 := same_new (o := HO.lst [.ref d, .ref c]) na2
    have ha2 : (upd H15 a2 (HO.lst [.ref d, .ref c])) a2 = some (HO.lst [.ref d, .ref c]) := upd_same
    generalize upd H15 a2 (HO.lst [.ref d, .ref c]) = H16 at s16 ha2 ⊢
    have s916 := s915.trans s16
    refine ⟨a2, d, c, ps, cs ++ zs, rfl, SqL.of ha2, s916 _ _ hd9, SqL.of (s916 _ _ hc9), hbO, lps, hbC, lC, ?_⟩
    refine ⟨_, rfl, rfl, ?_⟩
    rw [decide_eq_true rfl]
    exact q _ (sx08.trans (Same.sx (s9.trans s916))) ((hp8.same s9).same s916)
end
end Sp1

set_option Elab.async false
set_option linter.all false
set_option maxRecDepth 100000
set_option maxHeartbeats 4000000
namespace Sp1
open PySem PySem.Spec PyProof.Rows L2 Pg
abbrev s_law : Stmt := top 90
abbrev N_law : List Str := ["_law_script", "_law_k", "_law_pool_here", "_law_scheme", "_law_turn"]
theorem sc_law : FnScope N_law ["_law_script"] (defScope s_law) := ⟨rfl, rfl, rfl, by decide +kernel, rfl, by decide +kernel, by decide +kernel⟩
section
variable {P : Program} {w : World} {K : PySem.W.Frag} {mg : Str → Option Value} {base : Heap}
def sp_law (K : PySem.W.Frag) : Sp := fun vs H Q _ => ∃ (a : Addr) (ns : List Int), vs = [.ref a] ∧ SqL K H a (ns.map V.int) ∧ ns.length ≤ 63 ∧ ∀ H', Q (.bl true) H'
theorem ok_law {f : Addr} {fd : FuncData} (D0 : Dn K mg "law" s_law ["_law_script"] f fd) (T : LqM K mg) (PC : PgC K mg) (UE : PgE0 K mg PC.C) (MC : MvC K mg) (FC : FrC K mg) : FnOkG P w K mg base CX0 37 f fd ["_law_script"] (sp_law K) := by
  refine Sp1.Fun.okG D0.F sc_law (fun vs H Q E h => ?_) (fun cdv A outer s H vs Q E hG hr h => ?_)
  · obtain ⟨a, ns, rfl, _⟩ := h
    rfl
  · obtain ⟨a, ns, rfl, hS, hlen, q⟩ := h
    have nd := sc_law.nd
    refine ⟨_, (pss_cons (ps_for PassesOwn.never rfl (pi_range1 (by rfl) T.m_range (pa_cons (pe_callB (call_max2 rfl) (by rfl) T.m_max (by decide +kernel) (pa_cons pe_int (pa_cons (pe_callB (call_min2 rfl) (by rfl) T.m_min (by decide +kernel) (pa_cons pe_int (pa_cons (pe_callB call_len_seq (by rfl) T.m_len PySem.boot_len (pa_cons (pv 0) pa_nil)) pa_nil))) pa_nil))) pa_nil)) (pg_name (i := 1) nd rfl (.inl rfl))
      (pss_cons (ps_set (i := 2) nd rfl (.inl rfl) (pe_call ((ok__law_pool T.toLwM.toPlF).mono (by decide)) hr (by rfl) T.D__law_pool.g T.D__law_pool.kp T.D__law_pool.b .nil pass0 (pa_cons (pv 0) (pa_cons (pv 1) pa_nil))))
        (pss_cons (ps_set (i := 3) nd rfl (.inl rfl) (pe_call ((ok__law_program T.toLwM.toPlF PC).mono (by decide)) hr (by rfl) T.D__law_program.g T.D__law_program.kp T.D__law_program.b .nil pass0 (pa_cons (pv 2) (pa_cons pe_int (pa_cons pe_int pa_nil)))))
        (pss_one (ps_for PassesOwn.never rfl (pi_range1 (by rfl) T.m_range (pa_cons pe_int pa_nil)) (pg_name (i := 4) nd rfl (.inl rfl))
        (pss_one (ps_if (pt_not (pt_val (pe_callG ((ok__law_is_right T PC UE MC FC).mono (by decide)) hG hr (by rfl) T.D__law_is_right.g T.D__law_is_right.kp T.D__law_is_right.b .nil pass0 (pa_cons (pv 2) (pa_cons (pv 3) pa_nil)))))
          (pss_one (ps_ret pe_bl))
          pss_nil)))))))
      (pss_one (ps_ret pe_bl))), ?_⟩
    obtain ⟨m, hm1, hm2, hm3⟩ : ∃ m : Int, (if (if (ns.length : Int) < 4 then (ns.length : Int) else 4) > 1 then (if (ns.length : Int) < 4 then (ns.length : Int) else 4) else 1) = m ∧ 1 ≤ m ∧ m ≤ 4 := ⟨_, rfl, by split <;> split <;> omega, by split <;> split <;> omega⟩
    refine ⟨_, rfl, a, _, rfl, .inl hS, _, _, rfl, _, _, rfl, ?_⟩
    rw [List.length_map]
    refine ⟨m, by rw [← hm1], by omega, by omega, ?_⟩
    refine for_range (lo := 0) (n := m.toNat) (fun i σ H' => Same H H' ∧ ∃ (y1 y2 y3 y4 : Option V), σ = [some (.ref a), y1, y2, y3, y4]) ⟨Same.refl _, _, _, _, _, rfl⟩ ?_ ?_
    · rintro i σ H0 hi ⟨s0, y1, y2, y3, y4, rfl⟩
      rw [Int.zero_add]
      refine gn (σ' := [some (.ref a), some (.int (i : Int)), y2, y3, y4]) rfl ?_
      refine ⟨_, rfl, _, rfl, a, ns, i, rfl, s0.seq hS, by omega, fun p H1 s1 np hp1 => ?_⟩
      refine gn (σ' := [some (.ref a), some (.int (i : Int)), some (.ref p), y3, y4]) rfl ?_
      refine ⟨_, rfl, p, 0, 4, 16, 2, rfl, hp1, by decide, by decide, by decide, by decide, fun v H2 pt u e sx2 hp2 e0 e8 hpg f sm _ _ _ lo => ?_⟩
      have s02 : Same H0 H2 := fun b o z => sx2 b o (ne_of_none z np) (s1 b o z)
      refine gn (σ' := [some (.ref a), some (.int (i : Int)), some (.ref p), some v, y4]) rfl ?_
      refine ⟨3, rfl, by decide, by decide, ?_⟩
      refine for_range (lo := 0) (n := ((3 : Int)).toNat) (fun j σ H' => Same H H' ∧ SX p H2 H' ∧ Pl H' p u e ∧ ∃ y, σ = [some (.ref a), some (.int (i : Int)), some (.ref p), some v, y]) ⟨s0.trans s02, (fun b o _ z => z), hp2, _, rfl⟩ ?_ ?_
      · rintro j σ H3 hj ⟨s3, sx3, hp3, y, rfl⟩
        refine gn (σ' := [some (.ref a), some (.int (i : Int)), some (.ref p), some v, some (.int (0 + (j : Int)))]) rfl ?_
        refine ⟨_, rfl, _, rfl, p, v, u, e, pt, rfl, hp3, (hpg.sxl f hp2 sx3), f, sm, lo, fun H4 sx4 hp4 => ?_⟩
        refine ⟨_, rfl, ?_⟩
        refine iteF ?_
        exact ⟨fun b o z => sx4 b o (ne_of_none (s0 b o z) np) (s3 b o z), sx3.trans sx4, hp4, _, rfl⟩
      · rintro σ H3 ⟨s3, sx3, hp3, y, rfl⟩
        exact ⟨s3, _, _, _, _, rfl⟩
    · rintro σ H0 ⟨s0, y1, y2, y3, y4, rfl⟩
      exact q _
end
end Sp1

set_option Elab.async false
set_option linter.all false
set_option maxRecDepth 100000
set_option maxHeartbeats 8000000
namespace Sp1
open PySem PySem.Spec PyProof.Rows L2 Pg
theorem kit_not {K : PySem.W.Frag} {C : Addr} {T : String} (h1 : PySem.W.isClsIn K C = true) (h2 : PySem.W.typeIn K (.ref C) = some (.type "type")) (h3 : PySem.W.subIn K (.type T) (.ref C) = some false) : PySem.W.kitOne K (.type T) (.ref C) = some false := by
  unfold PySem.W.kitOne
  rw [if_neg (by simp)]
  unfold PySem.W.kitCls
  have e : ((PySem.W.clsIn K C).isSome && PySem.W.typeIn K (.ref C) == some (.type "type")) = true := by
    have h1' : (PySem.W.clsIn K C).isSome = true := h1
    rw [h1', h2]
    simp
  show (if _ = true then _ else _) = _
  rw [if_pos e]
  exact h3
theorem all_mk {l : PySem.W.OpenLaw} {w : World} {K : PySem.W.Frag} {h : Heap} {mg : Str → Option Value} {fa : Addr} {fxis_integer : Addr} {fdxis_integer : FuncData}
    {fxis_short : Addr} {fdxis_short : FuncData}
    {fxcommon_divisor : Addr} {fdxcommon_divisor : FuncData}
    {fxis_name : Addr} {fdxis_name : FuncData}
    {fxare_names : Addr} {fdxare_names : FuncData}
    {fxis_term : Addr} {fdxis_term : FuncData}
    {fxare_terms : Addr} {fdxare_terms : FuncData}
    {fxsum_numbers : Addr} {fdxsum_numbers : FuncData}
    {fxis_long_sum : Addr} {fdxis_long_sum : FuncData}
    {fxis_sum : Addr} {fdxis_sum : FuncData}
    {fxis_expression : Addr} {fdxis_expression : FuncData}
    {fxis_statement : Addr} {fdxis_statement : FuncData}
    {fxis_writing : Addr} {fdxis_writing : FuncData}
    {fxis_compound : Addr} {fdxis_compound : FuncData}
    {fxare_procedures : Addr} {fdxare_procedures : FuncData}
    {fxblock_code : Addr} {fdxblock_code : FuncData}
    {fxstatement_code : Addr} {fdxstatement_code : FuncData}
    {fxif_code : Addr} {fdxif_code : FuncData}
    {fxwhile_code : Addr} {fdxwhile_code : FuncData}
    {fxrepeat_code : Addr} {fdxrepeat_code : FuncData}
    {fxprogram_code : Addr} {fdxprogram_code : FuncData}
    {fxcheck_names : Addr} {fdxcheck_names : FuncData}
    {fxcheck_blocks : Addr} {fdxcheck_blocks : FuncData}
    {fxcheck_size : Addr} {fdxcheck_size : FuncData}
    {fx_law_pool : Addr} {fdx_law_pool : FuncData}
    {fx_law_draw : Addr} {fdx_law_draw : FuncData}
    {fx_law_names : Addr} {fdx_law_names : FuncData}
    {fx_law_divisor : Addr} {fdx_law_divisor : FuncData}
    {fx_law_sum : Addr} {fdx_law_sum : FuncData}
    {fx_law_expression : Addr} {fdx_law_expression : FuncData}
    {fx_law_simple : Addr} {fdx_law_simple : FuncData}
    {fx_law_statement : Addr} {fdx_law_statement : FuncData}
    {fx_law_block : Addr} {fdx_law_block : FuncData}
    {fx_law_program : Addr} {fdx_law_program : FuncData}
    {fxloop_depths : Addr} {fdxloop_depths : FuncData}
    {fxis_free : Addr} {fdxis_free : FuncData}
    {fxdivided : Addr} {fdxdivided : FuncData}
    {fxcheck_program : Addr} {fdxcheck_program : FuncData}
    {fxis_state : Addr} {fdxis_state : FuncData}
    {fxcheck_values : Addr} {fdxcheck_values : FuncData}
    {fxfirst_wrong : Addr} {fdxfirst_wrong : FuncData}
    {fxcheck_count : Addr} {fdxcheck_count : FuncData}
    {fxcheck_choices : Addr} {fdxcheck_choices : FuncData}
    {fxfree_run : Addr} {fdxfree_run : FuncData}
    {fx_law_low : Addr} {fdx_law_low : FuncData}
    {fx_law_worth : Addr} {fdx_law_worth : FuncData}
    {fx_law_put : Addr} {fdx_law_put : FuncData}
    {fx_law_need : Addr} {fdx_law_need : FuncData}
    {fx_law_told : Addr} {fdx_law_told : FuncData}
    {fx_law_jump : Addr} {fdx_law_jump : FuncData}
    {fx_law_first : Addr} {fdx_law_first : FuncData}
    {fx_law_start : Addr} {fdx_law_start : FuncData}
    {fx_law_choices : Addr} {fdx_law_choices : FuncData}
    {fx_law_due : Addr} {fdx_law_due : FuncData}
    {fx_law_is_right : Addr} {fdx_law_is_right : FuncData}
    {fxlaw : Addr} {fdxlaw : FuncData}
    {fB TD : Addr} {ocB kVB dcB pmB cdB ctB : Value} {odB anB : Option Addr} {slB : Array (Option Value)} {oT : Obj} {nT : Nat} {t0 : Tok}
    {zSHORT_BOUND : Int} {tSHORT_BOUND : Tok}
    {zMAX_LETTERS : Int} {tMAX_LETTERS : Tok}
    {zMAX_DEPTH : Int} {tMAX_DEPTH : Tok}
    {zMAX_PROCEDURES : Int} {tMAX_PROCEDURES : Tok}
    {zMAX_NAMES : Int} {tMAX_NAMES : Tok}
    {zMAX_CODE : Int} {tMAX_CODE : Tok}
    {zMAX_CALLS : Int} {tMAX_CALLS : Tok}
    {aWORDS : Addr} {oWORDS : Obj} {itsWORDS : Array Value} {nWORDS : Nat}
    {aPAIRS : Addr} {oPAIRS : Obj} {itsPAIRS : Array Value} {nPAIRS : Nat}
    {aCOMPOUND : Addr} {oCOMPOUND : Obj} {itsCOMPOUND : Array Value} {nCOMPOUND : Nat}
    {C : Addr}
    {fMi : Addr} {fdMi : FuncData}
    {fMe : Addr} {fdMe : FuncData}
    {pPgiven fPgiven : Addr} {fdPgiven : FuncData}
    {pPvariables fPvariables : Addr} {fdPvariables : FuncData}
    {pPprocedures fPprocedures : Addr} {fdPprocedures : FuncData}
    {pPmain fPmain : Addr} {fdPmain : FuncData}
    {pPnames fPnames : Addr} {fdPnames : FuncData}
    {pPcode fPcode : Addr} {fdPcode : FuncData}
    {fMn : Addr} {fdMn : FuncData}
    {CMv : Addr}
    {fMvinit : Addr} {fdMvinit : FuncData}
    {fMvchoices : Addr} {fdMvchoices : FuncData}
    {fMvtarget : Addr} {fdMvtarget : FuncData}
    {fMvvalue_entries : Addr} {fdMvvalue_entries : FuncData}
    {fMvresult : Addr} {fdMvresult : FuncData}
    {fMvafter_set : Addr} {fdMvafter_set : FuncData}
    {fMvafter_swap : Addr} {fdMvafter_swap : FuncData}
    {CFr : Addr}
    {fFrinit : Addr} {fdFrinit : FuncData}
    {fFrperform : Addr} {fdFrperform : FuncData}
    {fFrnext_choice : Addr} {fdFrnext_choice : FuncData}
    {fFrmove : Addr} {fdFrmove : FuncData}
    (X : K.In h) (G : h.Ns mainGlobals mg) (hfa : mg "law" = some (.ref fa))
    (axis_integer : PySem.W.nsIn K mainGlobals "is_integer" = some (some (.ref fxis_integer)))
    (Fxis_integer : Fun K "is_integer" "is_integer" s_is_integer fxis_integer fdxis_integer)
    (axis_short : PySem.W.nsIn K mainGlobals "is_short" = some (some (.ref fxis_short)))
    (Fxis_short : Fun K "is_short" "is_short" s_is_short fxis_short fdxis_short)
    (axcommon_divisor : PySem.W.nsIn K mainGlobals "common_divisor" = some (some (.ref fxcommon_divisor)))
    (Fxcommon_divisor : Fun K "common_divisor" "common_divisor" s_common_divisor fxcommon_divisor fdxcommon_divisor)
    (axis_name : PySem.W.nsIn K mainGlobals "is_name" = some (some (.ref fxis_name)))
    (Fxis_name : Fun K "is_name" "is_name" s_is_name fxis_name fdxis_name)
    (axare_names : PySem.W.nsIn K mainGlobals "are_names" = some (some (.ref fxare_names)))
    (Fxare_names : Fun K "are_names" "are_names" s_are_names fxare_names fdxare_names)
    (axis_term : PySem.W.nsIn K mainGlobals "is_term" = some (some (.ref fxis_term)))
    (Fxis_term : Fun K "is_term" "is_term" s_is_term fxis_term fdxis_term)
    (axare_terms : PySem.W.nsIn K mainGlobals "are_terms" = some (some (.ref fxare_terms)))
    (Fxare_terms : Fun K "are_terms" "are_terms" s_are_terms fxare_terms fdxare_terms)
    (axsum_numbers : PySem.W.nsIn K mainGlobals "sum_numbers" = some (some (.ref fxsum_numbers)))
    (Fxsum_numbers : Fun K "sum_numbers" "sum_numbers" s_sum_numbers fxsum_numbers fdxsum_numbers)
    (axis_long_sum : PySem.W.nsIn K mainGlobals "is_long_sum" = some (some (.ref fxis_long_sum)))
    (Fxis_long_sum : Fun K "is_long_sum" "is_long_sum" s_is_long_sum fxis_long_sum fdxis_long_sum)
    (axis_sum : PySem.W.nsIn K mainGlobals "is_sum" = some (some (.ref fxis_sum)))
    (Fxis_sum : Fun K "is_sum" "is_sum" s_is_sum fxis_sum fdxis_sum)
    (axis_expression : PySem.W.nsIn K mainGlobals "is_expression" = some (some (.ref fxis_expression)))
    (Fxis_expression : Fun K "is_expression" "is_expression" s_is_expression fxis_expression fdxis_expression)
    (axis_statement : PySem.W.nsIn K mainGlobals "is_statement" = some (some (.ref fxis_statement)))
    (Fxis_statement : Fun K "is_statement" "is_statement" s_is_statement fxis_statement fdxis_statement)
    (axis_writing : PySem.W.nsIn K mainGlobals "is_writing" = some (some (.ref fxis_writing)))
    (Fxis_writing : Fun K "is_writing" "is_writing" s_is_writing fxis_writing fdxis_writing)
    (axis_compound : PySem.W.nsIn K mainGlobals "is_compound" = some (some (.ref fxis_compound)))
    (Fxis_compound : Fun K "is_compound" "is_compound" s_is_compound fxis_compound fdxis_compound)
    (axare_procedures : PySem.W.nsIn K mainGlobals "are_procedures" = some (some (.ref fxare_procedures)))
    (Fxare_procedures : Fun K "are_procedures" "are_procedures" s_are_procedures fxare_procedures fdxare_procedures)
    (axblock_code : PySem.W.nsIn K mainGlobals "block_code" = some (some (.ref fxblock_code)))
    (Fxblock_code : Fun K "block_code" "block_code" s_block_code fxblock_code fdxblock_code)
    (axstatement_code : PySem.W.nsIn K mainGlobals "statement_code" = some (some (.ref fxstatement_code)))
    (Fxstatement_code : Fun K "statement_code" "statement_code" s_statement_code fxstatement_code fdxstatement_code)
    (axif_code : PySem.W.nsIn K mainGlobals "if_code" = some (some (.ref fxif_code)))
    (Fxif_code : Fun K "if_code" "if_code" s_if_code fxif_code fdxif_code)
    (axwhile_code : PySem.W.nsIn K mainGlobals "while_code" = some (some (.ref fxwhile_code)))
    (Fxwhile_code : Fun K "while_code" "while_code" s_while_code fxwhile_code fdxwhile_code)
    (axrepeat_code : PySem.W.nsIn K mainGlobals "repeat_code" = some (some (.ref fxrepeat_code)))
    (Fxrepeat_code : Fun K "repeat_code" "repeat_code" s_repeat_code fxrepeat_code fdxrepeat_code)
    (axprogram_code : PySem.W.nsIn K mainGlobals "program_code" = some (some (.ref fxprogram_code)))
    (Fxprogram_code : Fun K "program_code" "program_code" s_program_code fxprogram_code fdxprogram_code)
    (axcheck_names : PySem.W.nsIn K mainGlobals "check_names" = some (some (.ref fxcheck_names)))
    (Fxcheck_names : Fun K "check_names" "check_names" s_check_names fxcheck_names fdxcheck_names)
    (axcheck_blocks : PySem.W.nsIn K mainGlobals "check_blocks" = some (some (.ref fxcheck_blocks)))
    (Fxcheck_blocks : Fun K "check_blocks" "check_blocks" s_check_blocks fxcheck_blocks fdxcheck_blocks)
    (axcheck_size : PySem.W.nsIn K mainGlobals "check_size" = some (some (.ref fxcheck_size)))
    (Fxcheck_size : Fun K "check_size" "check_size" s_check_size fxcheck_size fdxcheck_size)
    (ax_law_pool : PySem.W.nsIn K mainGlobals "_law_pool" = some (some (.ref fx_law_pool)))
    (Fx_law_pool : Fun K "_law_pool" "_law_pool" s_l_pool fx_law_pool fdx_law_pool)
    (ax_law_draw : PySem.W.nsIn K mainGlobals "_law_draw" = some (some (.ref fx_law_draw)))
    (Fx_law_draw : Fun K "_law_draw" "_law_draw" s_l_draw fx_law_draw fdx_law_draw)
    (ax_law_names : PySem.W.nsIn K mainGlobals "_law_names" = some (some (.ref fx_law_names)))
    (Fx_law_names : Fun K "_law_names" "_law_names" s_l_names fx_law_names fdx_law_names)
    (ax_law_divisor : PySem.W.nsIn K mainGlobals "_law_divisor" = some (some (.ref fx_law_divisor)))
    (Fx_law_divisor : Fun K "_law_divisor" "_law_divisor" s_l_divisor fx_law_divisor fdx_law_divisor)
    (ax_law_sum : PySem.W.nsIn K mainGlobals "_law_sum" = some (some (.ref fx_law_sum)))
    (Fx_law_sum : Fun K "_law_sum" "_law_sum" s_l_sum fx_law_sum fdx_law_sum)
    (ax_law_expression : PySem.W.nsIn K mainGlobals "_law_expression" = some (some (.ref fx_law_expression)))
    (Fx_law_expression : Fun K "_law_expression" "_law_expression" s_l_expression fx_law_expression fdx_law_expression)
    (ax_law_simple : PySem.W.nsIn K mainGlobals "_law_simple" = some (some (.ref fx_law_simple)))
    (Fx_law_simple : Fun K "_law_simple" "_law_simple" s_l_simple fx_law_simple fdx_law_simple)
    (ax_law_statement : PySem.W.nsIn K mainGlobals "_law_statement" = some (some (.ref fx_law_statement)))
    (Fx_law_statement : Fun K "_law_statement" "_law_statement" s_l_statement fx_law_statement fdx_law_statement)
    (ax_law_block : PySem.W.nsIn K mainGlobals "_law_block" = some (some (.ref fx_law_block)))
    (Fx_law_block : Fun K "_law_block" "_law_block" s_l_block fx_law_block fdx_law_block)
    (ax_law_program : PySem.W.nsIn K mainGlobals "_law_program" = some (some (.ref fx_law_program)))
    (Fx_law_program : Fun K "_law_program" "_law_program" s_l_program fx_law_program fdx_law_program)
    (axloop_depths : PySem.W.nsIn K mainGlobals "loop_depths" = some (some (.ref fxloop_depths)))
    (Fxloop_depths : Fun K "loop_depths" "loop_depths" s_loop_depths fxloop_depths fdxloop_depths)
    (axis_free : PySem.W.nsIn K mainGlobals "is_free" = some (some (.ref fxis_free)))
    (Fxis_free : Fun K "is_free" "is_free" s_is_free fxis_free fdxis_free)
    (axdivided : PySem.W.nsIn K mainGlobals "divided" = some (some (.ref fxdivided)))
    (Fxdivided : Fun K "divided" "divided" s_divided fxdivided fdxdivided)
    (axcheck_program : PySem.W.nsIn K mainGlobals "check_program" = some (some (.ref fxcheck_program)))
    (Fxcheck_program : Fun K "check_program" "check_program" s_check_program fxcheck_program fdxcheck_program)
    (axis_state : PySem.W.nsIn K mainGlobals "is_state" = some (some (.ref fxis_state)))
    (Fxis_state : Fun K "is_state" "is_state" s_is_state fxis_state fdxis_state)
    (axcheck_values : PySem.W.nsIn K mainGlobals "check_values" = some (some (.ref fxcheck_values)))
    (Fxcheck_values : Fun K "check_values" "check_values" s_check_values fxcheck_values fdxcheck_values)
    (axfirst_wrong : PySem.W.nsIn K mainGlobals "first_wrong" = some (some (.ref fxfirst_wrong)))
    (Fxfirst_wrong : Fun K "first_wrong" "first_wrong" s_first_wrong fxfirst_wrong fdxfirst_wrong)
    (axcheck_count : PySem.W.nsIn K mainGlobals "check_count" = some (some (.ref fxcheck_count)))
    (Fxcheck_count : Fun K "check_count" "check_count" s_check_count fxcheck_count fdxcheck_count)
    (axcheck_choices : PySem.W.nsIn K mainGlobals "check_choices" = some (some (.ref fxcheck_choices)))
    (Fxcheck_choices : Fun K "check_choices" "check_choices" s_check_choices fxcheck_choices fdxcheck_choices)
    (axfree_run : PySem.W.nsIn K mainGlobals "free_run" = some (some (.ref fxfree_run)))
    (Fxfree_run : Fun K "free_run" "free_run" s_free_run fxfree_run fdxfree_run)
    (ax_law_low : PySem.W.nsIn K mainGlobals "_law_low" = some (some (.ref fx_law_low)))
    (Fx_law_low : Fun K "_law_low" "_law_low" s_l_low fx_law_low fdx_law_low)
    (ax_law_worth : PySem.W.nsIn K mainGlobals "_law_worth" = some (some (.ref fx_law_worth)))
    (Fx_law_worth : Fun K "_law_worth" "_law_worth" s_l_worth fx_law_worth fdx_law_worth)
    (ax_law_put : PySem.W.nsIn K mainGlobals "_law_put" = some (some (.ref fx_law_put)))
    (Fx_law_put : Fun K "_law_put" "_law_put" s_l_put fx_law_put fdx_law_put)
    (ax_law_need : PySem.W.nsIn K mainGlobals "_law_need" = some (some (.ref fx_law_need)))
    (Fx_law_need : Fun K "_law_need" "_law_need" s_l_need fx_law_need fdx_law_need)
    (ax_law_told : PySem.W.nsIn K mainGlobals "_law_told" = some (some (.ref fx_law_told)))
    (Fx_law_told : Fun K "_law_told" "_law_told" s_l_told fx_law_told fdx_law_told)
    (ax_law_jump : PySem.W.nsIn K mainGlobals "_law_jump" = some (some (.ref fx_law_jump)))
    (Fx_law_jump : Fun K "_law_jump" "_law_jump" s_l_jump fx_law_jump fdx_law_jump)
    (ax_law_first : PySem.W.nsIn K mainGlobals "_law_first" = some (some (.ref fx_law_first)))
    (Fx_law_first : Fun K "_law_first" "_law_first" s_l_first fx_law_first fdx_law_first)
    (ax_law_start : PySem.W.nsIn K mainGlobals "_law_start" = some (some (.ref fx_law_start)))
    (Fx_law_start : Fun K "_law_start" "_law_start" s_l_start fx_law_start fdx_law_start)
    (ax_law_choices : PySem.W.nsIn K mainGlobals "_law_choices" = some (some (.ref fx_law_choices)))
    (Fx_law_choices : Fun K "_law_choices" "_law_choices" s_l_choices fx_law_choices fdx_law_choices)
    (ax_law_due : PySem.W.nsIn K mainGlobals "_law_due" = some (some (.ref fx_law_due)))
    (Fx_law_due : Fun K "_law_due" "_law_due" s_l_due fx_law_due fdx_law_due)
    (ax_law_is_right : PySem.W.nsIn K mainGlobals "_law_is_right" = some (some (.ref fx_law_is_right)))
    (Fx_law_is_right : Fun K "_law_is_right" "_law_is_right" s_l_is_right fx_law_is_right fdx_law_is_right)
    (axlaw : PySem.W.nsIn K mainGlobals "law" = some (some (.ref fxlaw)))
    (Fxlaw : Fun K "law" "law" s_law fxlaw fdxlaw)
    (aB : PySem.W.nsIn K mainGlobals "is_block" = some (some (.ref fB)))
    (lB : K.lookup fB = some ⟨ocB, odB, .func (PySem.W.fnOf "is_block" "is_block" (defArgs s_is_block) (defBody s_is_block) (defScope s_is_block) (.ref TD) kVB dcB pmB anB cdB ctB), slB⟩)
    (cB : PySem.W.codeIn K cdB "is_block" = true)
    (kB : PySem.W.keepIn K (.ref fB) = true)
    (lT : K.lookup TD = some oT)
    (dT : oT.data = .seq #[.int 1 t0] nT)
    (gGcd : PySem.W.nsIn K mainGlobals "gcd" = some (some (.builtin "math.gcd")))
    (cSHORT_BOUND : PySem.W.nsIn K mainGlobals "SHORT_BOUND" = some (some (.int zSHORT_BOUND tSHORT_BOUND)))
    (eSHORT_BOUND : zSHORT_BOUND = Pg.great)
    (cMAX_LETTERS : PySem.W.nsIn K mainGlobals "MAX_LETTERS" = some (some (.int zMAX_LETTERS tMAX_LETTERS)))
    (eMAX_LETTERS : zMAX_LETTERS = 8)
    (cMAX_DEPTH : PySem.W.nsIn K mainGlobals "MAX_DEPTH" = some (some (.int zMAX_DEPTH tMAX_DEPTH)))
    (eMAX_DEPTH : zMAX_DEPTH = 8)
    (cMAX_PROCEDURES : PySem.W.nsIn K mainGlobals "MAX_PROCEDURES" = some (some (.int zMAX_PROCEDURES tMAX_PROCEDURES)))
    (eMAX_PROCEDURES : zMAX_PROCEDURES = 6)
    (cMAX_NAMES : PySem.W.nsIn K mainGlobals "MAX_NAMES" = some (some (.int zMAX_NAMES tMAX_NAMES)))
    (eMAX_NAMES : zMAX_NAMES = 4)
    (cMAX_CODE : PySem.W.nsIn K mainGlobals "MAX_CODE" = some (some (.int zMAX_CODE tMAX_CODE)))
    (eMAX_CODE : zMAX_CODE = 120)
    (cMAX_CALLS : PySem.W.nsIn K mainGlobals "MAX_CALLS" = some (some (.int zMAX_CALLS tMAX_CALLS)))
    (eMAX_CALLS : zMAX_CALLS = 8)
    (gWORDS : PySem.W.nsIn K mainGlobals "WORDS" = some (some (.ref aWORDS)))
    (lWORDS : K.lookup aWORDS = some oWORDS)
    (sWORDS : oWORDS.cls = .type "tuple")
    (dWORDS : oWORDS.data = .seq itsWORDS nWORDS)
    (vWORDS : Vals (Pg.words.map V.str) itsWORDS.toList)
    (gPAIRS : PySem.W.nsIn K mainGlobals "PAIRS" = some (some (.ref aPAIRS)))
    (lPAIRS : K.lookup aPAIRS = some oPAIRS)
    (sPAIRS : oPAIRS.cls = .type "tuple")
    (dPAIRS : oPAIRS.data = .seq itsPAIRS nPAIRS)
    (vPAIRS : Vals (Pg.pairWords.map V.str) itsPAIRS.toList)
    (gCOMPOUND : PySem.W.nsIn K mainGlobals "COMPOUND" = some (some (.ref aCOMPOUND)))
    (lCOMPOUND : K.lookup aCOMPOUND = some oCOMPOUND)
    (sCOMPOUND : oCOMPOUND.cls = .type "tuple")
    (dCOMPOUND : oCOMPOUND.data = .seq itsCOMPOUND nCOMPOUND)
    (vCOMPOUND : Vals (Pg.compound.map V.str) itsCOMPOUND.toList)
    (aC : PySem.W.nsIn K mainGlobals "Program" = some (some (.ref C)))
    (pg : PySem.W.plainGet K C Str.empty = true)
    (hd : PySem.W.hasDictIn K C = true)
    (po : PySem.W.plainOver K C = true)
    (sa : PySem.W.findIn K (.ref C) "__setattr__" = some (some (.builtin "object.__setattr__")))
    (mk : PySem.W.makesIn K C = true)
    (kc : PySem.W.keepIn K (.ref C) = true)
    (ha : PySem.W.findIn K (.ref C) "__class__" = some (some (.builtin "object.__class__")))
    (hn : PySem.W.specialIn K (.builtin "object.__class__") "__get__" = some (some (.builtin "getset_descriptor.__get__")))
    (ht : PySem.W.takesIn K (.builtin "object.__class__") = some true)
    (hm : PySem.W.mroIn K C (.type "object") = some true)
    (aNe : PySem.W.findIn K (.ref C) "__ne__" = some (some (.builtin "object.__ne__")))
    (n_code : PySem.W.findIn K (.ref C) "_code" = some none)
    (n_entries : PySem.W.findIn K (.ref C) "_entries" = some none)
    (n_given : PySem.W.findIn K (.ref C) "_given" = some none)
    (n_variables : PySem.W.findIn K (.ref C) "_variables" = some none)
    (n_procedures : PySem.W.findIn K (.ref C) "_procedures" = some none)
    (n_main : PySem.W.findIn K (.ref C) "_main" = some none)
    (atMi : PySem.W.findIn K (.ref C) "__init__" = some (some (.ref fMi)))
    (isMi : PySem.W.isFn K (.ref fMi) = true)
    (FMi : Fun K "__init__" "Program.__init__" s_init fMi fdMi)
    (atMe : PySem.W.findIn K (.ref C) "__eq__" = some (some (.ref fMe)))
    (isMe : PySem.W.isFn K (.ref fMe) = true)
    (FMe : Fun K "__eq__" "Program.__eq__" s_eq fMe fdMe)
    (aPgiven : PySem.W.findIn K (.ref C) "given" = some (some (.ref pPgiven)))
    (gtPgiven : PySem.W.specialIn K (.ref pPgiven) "__get__" = some (some (.builtin "property.__get__")))
    (tkPgiven : PySem.W.takesIn K (.ref pPgiven) = some true)
    (rcPgiven : ∃ rest, PySem.W.recIn K pPgiven "property" = some (.ref fPgiven :: rest))
    (FPgiven : Fun K "given" "Program.given" s_given fPgiven fdPgiven)
    (aPvariables : PySem.W.findIn K (.ref C) "variables" = some (some (.ref pPvariables)))
    (gtPvariables : PySem.W.specialIn K (.ref pPvariables) "__get__" = some (some (.builtin "property.__get__")))
    (tkPvariables : PySem.W.takesIn K (.ref pPvariables) = some true)
    (rcPvariables : ∃ rest, PySem.W.recIn K pPvariables "property" = some (.ref fPvariables :: rest))
    (FPvariables : Fun K "variables" "Program.variables" s_variables fPvariables fdPvariables)
    (aPprocedures : PySem.W.findIn K (.ref C) "procedures" = some (some (.ref pPprocedures)))
    (gtPprocedures : PySem.W.specialIn K (.ref pPprocedures) "__get__" = some (some (.builtin "property.__get__")))
    (tkPprocedures : PySem.W.takesIn K (.ref pPprocedures) = some true)
    (rcPprocedures : ∃ rest, PySem.W.recIn K pPprocedures "property" = some (.ref fPprocedures :: rest))
    (FPprocedures : Fun K "procedures" "Program.procedures" s_procedures fPprocedures fdPprocedures)
    (aPmain : PySem.W.findIn K (.ref C) "main" = some (some (.ref pPmain)))
    (gtPmain : PySem.W.specialIn K (.ref pPmain) "__get__" = some (some (.builtin "property.__get__")))
    (tkPmain : PySem.W.takesIn K (.ref pPmain) = some true)
    (rcPmain : ∃ rest, PySem.W.recIn K pPmain "property" = some (.ref fPmain :: rest))
    (FPmain : Fun K "main" "Program.main" s_main fPmain fdPmain)
    (aPnames : PySem.W.findIn K (.ref C) "names" = some (some (.ref pPnames)))
    (gtPnames : PySem.W.specialIn K (.ref pPnames) "__get__" = some (some (.builtin "property.__get__")))
    (tkPnames : PySem.W.takesIn K (.ref pPnames) = some true)
    (rcPnames : ∃ rest, PySem.W.recIn K pPnames "property" = some (.ref fPnames :: rest))
    (FPnames : Fun K "names" "Program.names" s_names fPnames fdPnames)
    (aPcode : PySem.W.findIn K (.ref C) "code" = some (some (.ref pPcode)))
    (gtPcode : PySem.W.specialIn K (.ref pPcode) "__get__" = some (some (.builtin "property.__get__")))
    (tkPcode : PySem.W.takesIn K (.ref pPcode) = some true)
    (rcPcode : ∃ rest, PySem.W.recIn K pPcode "property" = some (.ref fPcode :: rest))
    (FPcode : Fun K "code" "Program.code" s_code fPcode fdPcode)
    (atMn : PySem.W.findIn K (.ref C) "entry" = some (some (.ref fMn)))
    (isMn : PySem.W.isFn K (.ref fMn) = true)
    (FMn : Fun K "entry" "Program.entry" s_entry fMn fdMn)
    (aMv : PySem.W.nsIn K mainGlobals "Moves" = some (some (.ref CMv)))
    (pgMv : PySem.W.plainGet K CMv Str.empty = true)
    (hdMv : PySem.W.hasDictIn K CMv = true)
    (poMv : PySem.W.plainOver K CMv = true)
    (saMv : PySem.W.findIn K (.ref CMv) "__setattr__" = some (some (.builtin "object.__setattr__")))
    (mkMv : PySem.W.makesIn K CMv = true)
    (kcMv : PySem.W.keepIn K (.ref CMv) = true)
    (nMvinstructions : PySem.W.findIn K (.ref CMv) "instructions" = some none)
    (nMvorder : PySem.W.findIn K (.ref CMv) "order" = some none)
    (nMvsize : PySem.W.findIn K (.ref CMv) "size" = some none)
    (nMventries : PySem.W.findIn K (.ref CMv) "entries" = some none)
    (nMvreturns : PySem.W.findIn K (.ref CMv) "returns" = some none)
    (nMvcallers : PySem.W.findIn K (.ref CMv) "callers" = some none)
    (nMvdepths : PySem.W.findIn K (.ref CMv) "depths" = some none)
    (nMv_places : PySem.W.findIn K (.ref CMv) "_places" = some none)
    (atMvinit : PySem.W.findIn K (.ref CMv) "__init__" = some (some (.ref fMvinit)))
    (isMvinit : PySem.W.isFn K (.ref fMvinit) = true)
    (FMvinit : Fun K "__init__" "Moves.__init__" s_mv_init fMvinit fdMvinit)
    (atMvchoices : PySem.W.findIn K (.ref CMv) "choices" = some (some (.ref fMvchoices)))
    (isMvchoices : PySem.W.isFn K (.ref fMvchoices) = true)
    (FMvchoices : Fun K "choices" "Moves.choices" s_mv_choices fMvchoices fdMvchoices)
    (atMvtarget : PySem.W.findIn K (.ref CMv) "target" = some (some (.ref fMvtarget)))
    (isMvtarget : PySem.W.isFn K (.ref fMvtarget) = true)
    (FMvtarget : Fun K "target" "Moves.target" s_mv_target fMvtarget fdMvtarget)
    (atMvvalue_entries : PySem.W.findIn K (.ref CMv) "value_entries" = some (some (.ref fMvvalue_entries)))
    (isMvvalue_entries : PySem.W.isFn K (.ref fMvvalue_entries) = true)
    (FMvvalue_entries : Fun K "value_entries" "Moves.value_entries" s_mv_value_entries fMvvalue_entries fdMvvalue_entries)
    (atMvresult : PySem.W.findIn K (.ref CMv) "result" = some (some (.ref fMvresult)))
    (isMvresult : PySem.W.isFn K (.ref fMvresult) = true)
    (FMvresult : Fun K "result" "Moves.result" s_mv_result fMvresult fdMvresult)
    (atMvafter_set : PySem.W.findIn K (.ref CMv) "_after_set" = some (some (.ref fMvafter_set)))
    (isMvafter_set : PySem.W.isFn K (.ref fMvafter_set) = true)
    (FMvafter_set : Fun K "_after_set" "Moves._after_set" s_mv_after_set fMvafter_set fdMvafter_set)
    (atMvafter_swap : PySem.W.findIn K (.ref CMv) "_after_swap" = some (some (.ref fMvafter_swap)))
    (isMvafter_swap : PySem.W.isFn K (.ref fMvafter_swap) = true)
    (FMvafter_swap : Fun K "_after_swap" "Moves._after_swap" s_mv_after_swap fMvafter_swap fdMvafter_swap)
    (aFr : PySem.W.nsIn K mainGlobals "FreeRun" = some (some (.ref CFr)))
    (pgFr : PySem.W.plainGet K CFr Str.empty = true)
    (hdFr : PySem.W.hasDictIn K CFr = true)
    (poFr : PySem.W.plainOver K CFr = true)
    (saFr : PySem.W.findIn K (.ref CFr) "__setattr__" = some (some (.builtin "object.__setattr__")))
    (mkFr : PySem.W.makesIn K CFr = true)
    (kcFr : PySem.W.keepIn K (.ref CFr) = true)
    (nFrmoves : PySem.W.findIn K (.ref CFr) "moves" = some none)
    (nFraddress : PySem.W.findIn K (.ref CFr) "address" = some none)
    (nFrvector : PySem.W.findIn K (.ref CFr) "vector" = some none)
    (nFrframes : PySem.W.findIn K (.ref CFr) "frames" = some none)
    (nFrused : PySem.W.findIn K (.ref CFr) "used" = some none)
    (nFr_choices : PySem.W.findIn K (.ref CFr) "_choices" = some none)
    (atFrinit : PySem.W.findIn K (.ref CFr) "__init__" = some (some (.ref fFrinit)))
    (isFrinit : PySem.W.isFn K (.ref fFrinit) = true)
    (FFrinit : Fun K "__init__" "FreeRun.__init__" s_fr_init fFrinit fdFrinit)
    (atFrperform : PySem.W.findIn K (.ref CFr) "perform" = some (some (.ref fFrperform)))
    (isFrperform : PySem.W.isFn K (.ref fFrperform) = true)
    (FFrperform : Fun K "perform" "FreeRun.perform" s_fr_perform fFrperform fdFrperform)
    (atFrnext_choice : PySem.W.findIn K (.ref CFr) "_next_choice" = some (some (.ref fFrnext_choice)))
    (isFrnext_choice : PySem.W.isFn K (.ref fFrnext_choice) = true)
    (FFrnext_choice : Fun K "_next_choice" "FreeRun._next_choice" s_fr_next_choice fFrnext_choice fdFrnext_choice)
    (atFrmove : PySem.W.findIn K (.ref CFr) "_move" = some (some (.ref fFrmove)))
    (isFrmove : PySem.W.isFn K (.ref fFrmove) = true)
    (FFrmove : Fun K "_move" "FreeRun._move" s_fr_move fFrmove fdFrmove)
    (z_isinstance : PySem.W.nsIn K mainGlobals "isinstance" = some none) (z_int : PySem.W.nsIn K mainGlobals "int" = some none) (z_bool : PySem.W.nsIn K mainGlobals "bool" = some none) (z_str : PySem.W.nsIn K mainGlobals "str" = some none) (z_tuple : PySem.W.nsIn K mainGlobals "tuple" = some none) (z_len : PySem.W.nsIn K mainGlobals "len" = some none) (z_all : PySem.W.nsIn K mainGlobals "all" = some none) (z_set : PySem.W.nsIn K mainGlobals "set" = some none) (z_sorted : PySem.W.nsIn K mainGlobals "sorted" = some none) (z_max : PySem.W.nsIn K mainGlobals "max" = some none) (z_min : PySem.W.nsIn K mainGlobals "min" = some none) (z_range : PySem.W.nsIn K mainGlobals "range" = some none) (z_list : PySem.W.nsIn K mainGlobals "list" = some none) (z_enumerate : PySem.W.nsIn K mainGlobals "enumerate" = some none) (z_abs : PySem.W.nsIn K mainGlobals "abs" = some none) (z_zip : PySem.W.nsIn K mainGlobals "zip" = some none) (z_dict : PySem.W.nsIn K mainGlobals "dict" = some none) (z_repr : PySem.W.nsIn K mainGlobals "repr" = some none) :
    ∃ fd : FuncData, (∀ (s : Shared) (v : Value), BindsTo s fd ⟨[v], []⟩ [("_law_script", v)]) ∧ ∀ base : Heap, K.In base → base.Ns mainGlobals mg → FnOkG l.prog w K mg base CX0 37 fa fd ["_law_script"] (sp_law K) := by
  have e := hfa.symm.trans (PySem.W.mg_of X G axlaw)
  cases e
  have m_isinstance := PySem.W.mg_none_of X G z_isinstance
  have m_int := PySem.W.mg_none_of X G z_int
  have m_bool := PySem.W.mg_none_of X G z_bool
  have m_str := PySem.W.mg_none_of X G z_str
  have m_tuple := PySem.W.mg_none_of X G z_tuple
  have m_len := PySem.W.mg_none_of X G z_len
  have m_all := PySem.W.mg_none_of X G z_all
  have m_set := PySem.W.mg_none_of X G z_set
  have m_sorted := PySem.W.mg_none_of X G z_sorted
  have m_max := PySem.W.mg_none_of X G z_max
  have m_min := PySem.W.mg_none_of X G z_min
  have m_range := PySem.W.mg_none_of X G z_range
  have m_list := PySem.W.mg_none_of X G z_list
  have m_enumerate := PySem.W.mg_none_of X G z_enumerate
  have m_abs := PySem.W.mg_none_of X G z_abs
  have m_zip := PySem.W.mg_none_of X G z_zip
  have m_dict := PySem.W.mg_none_of X G z_dict
  have m_repr := PySem.W.mg_none_of X G z_repr
  have Dxis_integer : Dn K mg "is_integer" s_is_integer ["value"] fxis_integer fdxis_integer := ⟨Fxis_integer, PySem.W.mg_of X G axis_integer, Fxis_integer.binds (ps := ["value"]) fun _ _ _ _ _ _ us hl => match us, hl with | [_], _ => rfl⟩
  have Dxis_short : Dn K mg "is_short" s_is_short ["value"] fxis_short fdxis_short := ⟨Fxis_short, PySem.W.mg_of X G axis_short, Fxis_short.binds (ps := ["value"]) fun _ _ _ _ _ _ us hl => match us, hl with | [_], _ => rfl⟩
  have Dxcommon_divisor : Dn K mg "common_divisor" s_common_divisor ["numbers"] fxcommon_divisor fdxcommon_divisor := ⟨Fxcommon_divisor, PySem.W.mg_of X G axcommon_divisor, Fxcommon_divisor.binds (ps := ["numbers"]) fun _ _ _ _ _ _ us hl => match us, hl with | [_], _ => rfl⟩
  have Dxis_name : Dn K mg "is_name" s_is_name ["candidate"] fxis_name fdxis_name := ⟨Fxis_name, PySem.W.mg_of X G axis_name, Fxis_name.binds (ps := ["candidate"]) fun _ _ _ _ _ _ us hl => match us, hl with | [_], _ => rfl⟩
  have Dxare_names : Dn K mg "are_names" s_are_names ["candidate"] fxare_names fdxare_names := ⟨Fxare_names, PySem.W.mg_of X G axare_names, Fxare_names.binds (ps := ["candidate"]) fun _ _ _ _ _ _ us hl => match us, hl with | [_], _ => rfl⟩
  have Dxis_term : Dn K mg "is_term" s_is_term ["candidate", "names"] fxis_term fdxis_term := ⟨Fxis_term, PySem.W.mg_of X G axis_term, Fxis_term.binds (ps := ["candidate", "names"]) fun _ _ _ _ _ _ us hl => match us, hl with | [_, _], _ => rfl⟩
  have Dxare_terms : Dn K mg "are_terms" s_are_terms ["candidate", "names"] fxare_terms fdxare_terms := ⟨Fxare_terms, PySem.W.mg_of X G axare_terms, Fxare_terms.binds (ps := ["candidate", "names"]) fun _ _ _ _ _ _ us hl => match us, hl with | [_, _], _ => rfl⟩
  have Dxsum_numbers : Dn K mg "sum_numbers" s_sum_numbers ["value"] fxsum_numbers fdxsum_numbers := ⟨Fxsum_numbers, PySem.W.mg_of X G axsum_numbers, Fxsum_numbers.binds (ps := ["value"]) fun _ _ _ _ _ _ us hl => match us, hl with | [_], _ => rfl⟩
  have Dxis_long_sum : Dn K mg "is_long_sum" s_is_long_sum ["candidate", "names"] fxis_long_sum fdxis_long_sum := ⟨Fxis_long_sum, PySem.W.mg_of X G axis_long_sum, Fxis_long_sum.binds (ps := ["candidate", "names"]) fun _ _ _ _ _ _ us hl => match us, hl with | [_, _], _ => rfl⟩
  have Dxis_sum : Dn K mg "is_sum" s_is_sum ["candidate", "names"] fxis_sum fdxis_sum := ⟨Fxis_sum, PySem.W.mg_of X G axis_sum, Fxis_sum.binds (ps := ["candidate", "names"]) fun _ _ _ _ _ _ us hl => match us, hl with | [_, _], _ => rfl⟩
  have Dxis_expression : Dn K mg "is_expression" s_is_expression ["candidate", "names"] fxis_expression fdxis_expression := ⟨Fxis_expression, PySem.W.mg_of X G axis_expression, Fxis_expression.binds (ps := ["candidate", "names"]) fun _ _ _ _ _ _ us hl => match us, hl with | [_, _], _ => rfl⟩
  have Dxis_statement : Dn K mg "is_statement" s_is_statement ["candidate", "names", "procedures", "depth"] fxis_statement fdxis_statement := ⟨Fxis_statement, PySem.W.mg_of X G axis_statement, Fxis_statement.binds (ps := ["candidate", "names", "procedures", "depth"]) fun _ _ _ _ _ _ us hl => match us, hl with | [_, _, _, _], _ => rfl⟩
  have Dxis_writing : Dn K mg "is_writing" s_is_writing ["candidate", "names"] fxis_writing fdxis_writing := ⟨Fxis_writing, PySem.W.mg_of X G axis_writing, Fxis_writing.binds (ps := ["candidate", "names"]) fun _ _ _ _ _ _ us hl => match us, hl with | [_, _], _ => rfl⟩
  have Dxis_compound : Dn K mg "is_compound" s_is_compound ["candidate", "names", "procedures", "depth"] fxis_compound fdxis_compound := ⟨Fxis_compound, PySem.W.mg_of X G axis_compound, Fxis_compound.binds (ps := ["candidate", "names", "procedures", "depth"]) fun _ _ _ _ _ _ us hl => match us, hl with | [_, _, _, _], _ => rfl⟩
  have Dxare_procedures : Dn K mg "are_procedures" s_are_procedures ["candidate", "names"] fxare_procedures fdxare_procedures := ⟨Fxare_procedures, PySem.W.mg_of X G axare_procedures, Fxare_procedures.binds (ps := ["candidate", "names"]) fun _ _ _ _ _ _ us hl => match us, hl with | [_, _], _ => rfl⟩
  have Dxblock_code : Dn K mg "block_code" s_block_code ["block", "start"] fxblock_code fdxblock_code := ⟨Fxblock_code, PySem.W.mg_of X G axblock_code, Fxblock_code.binds (ps := ["block", "start"]) fun _ _ _ _ _ _ us hl => match us, hl with | [_, _], _ => rfl⟩
  have Dxstatement_code : Dn K mg "statement_code" s_statement_code ["statement", "start"] fxstatement_code fdxstatement_code := ⟨Fxstatement_code, PySem.W.mg_of X G axstatement_code, Fxstatement_code.binds (ps := ["statement", "start"]) fun _ _ _ _ _ _ us hl => match us, hl with | [_, _], _ => rfl⟩
  have Dxif_code : Dn K mg "if_code" s_if_code ["statement", "start"] fxif_code fdxif_code := ⟨Fxif_code, PySem.W.mg_of X G axif_code, Fxif_code.binds (ps := ["statement", "start"]) fun _ _ _ _ _ _ us hl => match us, hl with | [_, _], _ => rfl⟩
  have Dxwhile_code : Dn K mg "while_code" s_while_code ["statement", "start"] fxwhile_code fdxwhile_code := ⟨Fxwhile_code, PySem.W.mg_of X G axwhile_code, Fxwhile_code.binds (ps := ["statement", "start"]) fun _ _ _ _ _ _ us hl => match us, hl with | [_, _], _ => rfl⟩
  have Dxrepeat_code : Dn K mg "repeat_code" s_repeat_code ["statement", "start"] fxrepeat_code fdxrepeat_code := ⟨Fxrepeat_code, PySem.W.mg_of X G axrepeat_code, Fxrepeat_code.binds (ps := ["statement", "start"]) fun _ _ _ _ _ _ us hl => match us, hl with | [_, _], _ => rfl⟩
  have Dxprogram_code : Dn K mg "program_code" s_program_code ["procedures", "main"] fxprogram_code fdxprogram_code := ⟨Fxprogram_code, PySem.W.mg_of X G axprogram_code, Fxprogram_code.binds (ps := ["procedures", "main"]) fun _ _ _ _ _ _ us hl => match us, hl with | [_, _], _ => rfl⟩
  have Dxcheck_names : Dn K mg "check_names" s_check_names ["given", "variables"] fxcheck_names fdxcheck_names := ⟨Fxcheck_names, PySem.W.mg_of X G axcheck_names, Fxcheck_names.binds (ps := ["given", "variables"]) fun _ _ _ _ _ _ us hl => match us, hl with | [_, _], _ => rfl⟩
  have Dxcheck_blocks : Dn K mg "check_blocks" s_check_blocks ["names", "procedures", "main"] fxcheck_blocks fdxcheck_blocks := ⟨Fxcheck_blocks, PySem.W.mg_of X G axcheck_blocks, Fxcheck_blocks.binds (ps := ["names", "procedures", "main"]) fun _ _ _ _ _ _ us hl => match us, hl with | [_, _, _], _ => rfl⟩
  have Dxcheck_size : Dn K mg "check_size" s_check_size ["code"] fxcheck_size fdxcheck_size := ⟨Fxcheck_size, PySem.W.mg_of X G axcheck_size, Fxcheck_size.binds (ps := ["code"]) fun _ _ _ _ _ _ us hl => match us, hl with | [_], _ => rfl⟩
  have Dx_law_pool : Dn K mg "_law_pool" s_l_pool ["_law_script", "_law_k"] fx_law_pool fdx_law_pool := ⟨Fx_law_pool, PySem.W.mg_of X G ax_law_pool, Fx_law_pool.binds (ps := ["_law_script", "_law_k"]) fun _ _ _ _ _ _ us hl => match us, hl with | [_, _], _ => rfl⟩
  have Dx_law_draw : Dn K mg "_law_draw" s_l_draw ["_law_pool_here", "_law_count"] fx_law_draw fdx_law_draw := ⟨Fx_law_draw, PySem.W.mg_of X G ax_law_draw, Fx_law_draw.binds (ps := ["_law_pool_here", "_law_count"]) fun _ _ _ _ _ _ us hl => match us, hl with | [_, _], _ => rfl⟩
  have Dx_law_names : Dn K mg "_law_names" s_l_names ["_law_pool_here", "_law_many"] fx_law_names fdx_law_names := ⟨Fx_law_names, PySem.W.mg_of X G ax_law_names, Fx_law_names.binds (ps := ["_law_pool_here", "_law_many"]) fun _ _ _ _ _ _ us hl => match us, hl with | [_, _], _ => rfl⟩
  have Dx_law_divisor : Dn K mg "_law_divisor" s_l_divisor ["_law_numbers"] fx_law_divisor fdx_law_divisor := ⟨Fx_law_divisor, PySem.W.mg_of X G ax_law_divisor, Fx_law_divisor.binds (ps := ["_law_numbers"]) fun _ _ _ _ _ _ us hl => match us, hl with | [_], _ => rfl⟩
  have Dx_law_sum : Dn K mg "_law_sum" s_l_sum ["_law_pool_here", "_law_names_here"] fx_law_sum fdx_law_sum := ⟨Fx_law_sum, PySem.W.mg_of X G ax_law_sum, Fx_law_sum.binds (ps := ["_law_pool_here", "_law_names_here"]) fun _ _ _ _ _ _ us hl => match us, hl with | [_, _], _ => rfl⟩
  have Dx_law_expression : Dn K mg "_law_expression" s_l_expression ["_law_pool_here", "_law_names_here"] fx_law_expression fdx_law_expression := ⟨Fx_law_expression, PySem.W.mg_of X G ax_law_expression, Fx_law_expression.binds (ps := ["_law_pool_here", "_law_names_here"]) fun _ _ _ _ _ _ us hl => match us, hl with | [_, _], _ => rfl⟩
  have Dx_law_simple : Dn K mg "_law_simple" s_l_simple ["_law_pool_here", "_law_names_here", "_law_calls"] fx_law_simple fdx_law_simple := ⟨Fx_law_simple, PySem.W.mg_of X G ax_law_simple, Fx_law_simple.binds (ps := ["_law_pool_here", "_law_names_here", "_law_calls"]) fun _ _ _ _ _ _ us hl => match us, hl with | [_, _, _], _ => rfl⟩
  have Dx_law_statement : Dn K mg "_law_statement" s_l_statement ["_law_pool_here", "_law_names_here", "_law_calls", "_law_depth"] fx_law_statement fdx_law_statement := ⟨Fx_law_statement, PySem.W.mg_of X G ax_law_statement, Fx_law_statement.binds (ps := ["_law_pool_here", "_law_names_here", "_law_calls", "_law_depth"]) fun _ _ _ _ _ _ us hl => match us, hl with | [_, _, _, _], _ => rfl⟩
  have Dx_law_block : Dn K mg "_law_block" s_l_block ["_law_pool_here", "_law_names_here", "_law_calls", "_law_depth", "_law_most"] fx_law_block fdx_law_block := ⟨Fx_law_block, PySem.W.mg_of X G ax_law_block, Fx_law_block.binds (ps := ["_law_pool_here", "_law_names_here", "_law_calls", "_law_depth", "_law_most"]) fun _ _ _ _ _ _ us hl => match us, hl with | [_, _, _, _, _], _ => rfl⟩
  have Dx_law_program : Dn K mg "_law_program" s_l_program ["_law_pool_here", "_law_budget", "_law_most"] fx_law_program fdx_law_program := ⟨Fx_law_program, PySem.W.mg_of X G ax_law_program, Fx_law_program.binds (ps := ["_law_pool_here", "_law_budget", "_law_most"]) fun _ _ _ _ _ _ us hl => match us, hl with | [_, _, _], _ => rfl⟩
  have Dxloop_depths : Dn K mg "loop_depths" s_loop_depths ["code"] fxloop_depths fdxloop_depths := ⟨Fxloop_depths, PySem.W.mg_of X G axloop_depths, Fxloop_depths.binds (ps := ["code"]) fun _ _ _ _ _ _ us hl => match us, hl with | [_], _ => rfl⟩
  have Dxis_free : Dn K mg "is_free" s_is_free ["expression"] fxis_free fdxis_free := ⟨Fxis_free, PySem.W.mg_of X G axis_free, Fxis_free.binds (ps := ["expression"]) fun _ _ _ _ _ _ us hl => match us, hl with | [_], _ => rfl⟩
  have Dxdivided : Dn K mg "divided" s_divided ["vector"] fxdivided fdxdivided := ⟨Fxdivided, PySem.W.mg_of X G axdivided, Fxdivided.binds (ps := ["vector"]) fun _ _ _ _ _ _ us hl => match us, hl with | [_], _ => rfl⟩
  have Dxcheck_program : Dn K mg "check_program" s_check_program ["candidate"] fxcheck_program fdxcheck_program := ⟨Fxcheck_program, PySem.W.mg_of X G axcheck_program, Fxcheck_program.binds (ps := ["candidate"]) fun _ _ _ _ _ _ us hl => match us, hl with | [_], _ => rfl⟩
  have Dxis_state : Dn K mg "is_state" s_is_state ["candidate", "names"] fxis_state fdxis_state := ⟨Fxis_state, PySem.W.mg_of X G axis_state, Fxis_state.binds (ps := ["candidate", "names"]) fun _ _ _ _ _ _ us hl => match us, hl with | [_, _], _ => rfl⟩
  have Dxcheck_values : Dn K mg "check_values" s_check_values ["candidate", "names"] fxcheck_values fdxcheck_values := ⟨Fxcheck_values, PySem.W.mg_of X G axcheck_values, Fxcheck_values.binds (ps := ["candidate", "names"]) fun _ _ _ _ _ _ us hl => match us, hl with | [_, _], _ => rfl⟩
  have Dxfirst_wrong : Dn K mg "first_wrong" s_first_wrong ["candidate"] fxfirst_wrong fdxfirst_wrong := ⟨Fxfirst_wrong, PySem.W.mg_of X G axfirst_wrong, Fxfirst_wrong.binds (ps := ["candidate"]) fun _ _ _ _ _ _ us hl => match us, hl with | [_], _ => rfl⟩
  have Dxcheck_count : Dn K mg "check_count" s_check_count ["candidate"] fxcheck_count fdxcheck_count := ⟨Fxcheck_count, PySem.W.mg_of X G axcheck_count, Fxcheck_count.binds (ps := ["candidate"]) fun _ _ _ _ _ _ us hl => match us, hl with | [_], _ => rfl⟩
  have Dxcheck_choices : Dn K mg "check_choices" s_check_choices ["candidate"] fxcheck_choices fdxcheck_choices := ⟨Fxcheck_choices, PySem.W.mg_of X G axcheck_choices, Fxcheck_choices.binds (ps := ["candidate"]) fun _ _ _ _ _ _ us hl => match us, hl with | [_], _ => rfl⟩
  have Dxfree_run : Dn K mg "free_run" s_free_run ["program", "start", "choices", "steps"] fxfree_run fdxfree_run := ⟨Fxfree_run, PySem.W.mg_of X G axfree_run, Fxfree_run.binds (ps := ["program", "start", "choices", "steps"]) fun _ _ _ _ _ _ us hl => match us, hl with | [_, _, _, _], _ => rfl⟩
  have Dx_law_low : Dn K mg "_law_low" s_l_low ["_law_vector"] fx_law_low fdx_law_low := ⟨Fx_law_low, PySem.W.mg_of X G ax_law_low, Fx_law_low.binds (ps := ["_law_vector"]) fun _ _ _ _ _ _ us hl => match us, hl with | [_], _ => rfl⟩
  have Dx_law_worth : Dn K mg "_law_worth" s_l_worth ["_law_expression_here", "_law_names_here", "_law_vector"] fx_law_worth fdx_law_worth := ⟨Fx_law_worth, PySem.W.mg_of X G ax_law_worth, Fx_law_worth.binds (ps := ["_law_expression_here", "_law_names_here", "_law_vector"]) fun _ _ _ _ _ _ us hl => match us, hl with | [_, _, _], _ => rfl⟩
  have Dx_law_put : Dn K mg "_law_put" s_l_put ["_law_vector", "_law_place", "_law_worth_here", "_law_scale"] fx_law_put fdx_law_put := ⟨Fx_law_put, PySem.W.mg_of X G ax_law_put, Fx_law_put.binds (ps := ["_law_vector", "_law_place", "_law_worth_here", "_law_scale"]) fun _ _ _ _ _ _ us hl => match us, hl with | [_, _, _, _], _ => rfl⟩
  have Dx_law_need : Dn K mg "_law_need" s_l_need ["_law_instruction"] fx_law_need fdx_law_need := ⟨Fx_law_need, PySem.W.mg_of X G ax_law_need, Fx_law_need.binds (ps := ["_law_instruction"]) fun _ _ _ _ _ _ us hl => match us, hl with | [_], _ => rfl⟩
  have Dx_law_told : Dn K mg "_law_told" s_l_told ["_law_expression_here", "_law_names_here", "_law_vector", "_law_choice"] fx_law_told fdx_law_told := ⟨Fx_law_told, PySem.W.mg_of X G ax_law_told, Fx_law_told.binds (ps := ["_law_expression_here", "_law_names_here", "_law_vector", "_law_choice"]) fun _ _ _ _ _ _ us hl => match us, hl with | [_, _, _, _], _ => rfl⟩
  have Dx_law_jump : Dn K mg "_law_jump" s_l_jump ["_law_scheme", "_law_run", "_law_choice"] fx_law_jump fdx_law_jump := ⟨Fx_law_jump, PySem.W.mg_of X G ax_law_jump, Fx_law_jump.binds (ps := ["_law_scheme", "_law_run", "_law_choice"]) fun _ _ _ _ _ _ us hl => match us, hl with | [_, _, _], _ => rfl⟩
  have Dx_law_first : Dn K mg "_law_first" s_l_first ["_law_scheme", "_law_opening"] fx_law_first fdx_law_first := ⟨Fx_law_first, PySem.W.mg_of X G ax_law_first, Fx_law_first.binds (ps := ["_law_scheme", "_law_opening"]) fun _ _ _ _ _ _ us hl => match us, hl with | [_, _], _ => rfl⟩
  have Dx_law_start : Dn K mg "_law_start" s_l_start ["_law_pool_here", "_law_scheme"] fx_law_start fdx_law_start := ⟨Fx_law_start, PySem.W.mg_of X G ax_law_start, Fx_law_start.binds (ps := ["_law_pool_here", "_law_scheme"]) fun _ _ _ _ _ _ us hl => match us, hl with | [_, _], _ => rfl⟩
  have Dx_law_choices : Dn K mg "_law_choices" s_l_choices ["_law_pool_here", "_law_scheme", "_law_opening", "_law_length"] fx_law_choices fdx_law_choices := ⟨Fx_law_choices, PySem.W.mg_of X G ax_law_choices, Fx_law_choices.binds (ps := ["_law_pool_here", "_law_scheme", "_law_opening", "_law_length"]) fun _ _ _ _ _ _ us hl => match us, hl with | [_, _, _, _], _ => rfl⟩
  have Dx_law_due : Dn K mg "_law_due" s_l_due ["_law_scheme", "_law_opening", "_law_picks", "_law_length"] fx_law_due fdx_law_due := ⟨Fx_law_due, PySem.W.mg_of X G ax_law_due, Fx_law_due.binds (ps := ["_law_scheme", "_law_opening", "_law_picks", "_law_length"]) fun _ _ _ _ _ _ us hl => match us, hl with | [_, _, _, _], _ => rfl⟩
  have Dx_law_is_right : Dn K mg "_law_is_right" s_l_is_right ["_law_pool_here", "_law_scheme"] fx_law_is_right fdx_law_is_right := ⟨Fx_law_is_right, PySem.W.mg_of X G ax_law_is_right, Fx_law_is_right.binds (ps := ["_law_pool_here", "_law_scheme"]) fun _ _ _ _ _ _ us hl => match us, hl with | [_, _], _ => rfl⟩
  have FB : FunD K "is_block" "is_block" (defArgs s_is_block) (defBody s_is_block) (defScope s_is_block) [V.int 1] [] fB (PySem.W.fnOf "is_block" "is_block" (defArgs s_is_block) (defBody s_is_block) (defScope s_is_block) (.ref TD) kVB dcB pmB anB cdB ctB) := ⟨⟨ocB, odB, .ref TD, kVB, dcB, pmB, anB, cdB, ctB, slB, rfl, lB, cB, .inr ⟨by simp, TD, oT, [.int 1 t0], nT, rfl, lT, dT, .cons ⟨t0, rfl⟩ .nil⟩, .inl rfl⟩, kB⟩
  obtain ⟨dsB, v3B, b3B⟩ := FunD.binds1 (ps := ["candidate", "names", "procedures", "depth"]) FB 3 0 (by simp) rfl fun _ _ _ _ _ _ _ us its hl hi => match us, its, hl, hi with | [_, _, _], [_], _, _ => ⟨_, rfl, rfl⟩
  have b4B : Binds K (PySem.W.fnOf "is_block" "is_block" (defArgs s_is_block) (defBody s_is_block) (defScope s_is_block) (.ref TD) kVB dcB pmB anB cdB ctB) ["candidate", "names", "procedures", "depth"] [] := by
    obtain ⟨ds, rv, hb⟩ := FunD.binds1 (ps := ["candidate", "names", "procedures", "depth"]) FB 4 1 (by simp) rfl fun _ _ _ _ _ _ _ us its hl hi => match us, its, hl, hi with | [_, _, _, _], [_], _, _ => ⟨_, rfl, rfl⟩
    cases rv
    exact hb
  have bMi := FMi.binds (ps := ["self", "given", "variables", "procedures", "main"]) fun _ _ _ _ _ _ us hl => match us, hl with | [_, _, _, _, _], _ => rfl
  have bMe := FMe.binds (ps := ["self", "other"]) fun _ _ _ _ _ _ us hl => match us, hl with | [_, _], _ => rfl
  have bPgiven := FPgiven.binds (ps := ["self"]) fun _ _ _ _ _ _ us hl => match us, hl with | [_], _ => rfl
  have bPvariables := FPvariables.binds (ps := ["self"]) fun _ _ _ _ _ _ us hl => match us, hl with | [_], _ => rfl
  have bPprocedures := FPprocedures.binds (ps := ["self"]) fun _ _ _ _ _ _ us hl => match us, hl with | [_], _ => rfl
  have bPmain := FPmain.binds (ps := ["self"]) fun _ _ _ _ _ _ us hl => match us, hl with | [_], _ => rfl
  have bPnames := FPnames.binds (ps := ["self"]) fun _ _ _ _ _ _ us hl => match us, hl with | [_], _ => rfl
  have bPcode := FPcode.binds (ps := ["self"]) fun _ _ _ _ _ _ us hl => match us, hl with | [_], _ => rfl
  have bMn := FMn.binds (ps := ["self", "name"]) fun _ _ _ _ _ _ us hl => match us, hl with | [_, _], _ => rfl
  have bMvinit := FMvinit.binds (ps := ["self", "program"]) fun _ _ _ _ _ _ us hl => match us, hl with | [_, _], _ => rfl
  have bMvchoices := FMvchoices.binds (ps := ["self", "address"]) fun _ _ _ _ _ _ us hl => match us, hl with | [_, _], _ => rfl
  have bMvtarget := FMvtarget.binds (ps := ["self", "address", "choice"]) fun _ _ _ _ _ _ us hl => match us, hl with | [_, _, _], _ => rfl
  have bMvvalue_entries := FMvvalue_entries.binds (ps := ["self", "expression", "rows", "columns", "choice"]) fun _ _ _ _ _ _ us hl => match us, hl with | [_, _, _, _, _], _ => rfl
  have bMvresult := FMvresult.binds (ps := ["self", "address", "rows", "columns", "choice"]) fun _ _ _ _ _ _ us hl => match us, hl with | [_, _, _, _, _], _ => rfl
  have bMvafter_set := FMvafter_set.binds (ps := ["self", "instruction", "rows", "columns", "choice"]) fun _ _ _ _ _ _ us hl => match us, hl with | [_, _, _, _, _], _ => rfl
  have bMvafter_swap := FMvafter_swap.binds (ps := ["self", "instruction", "rows", "columns"]) fun _ _ _ _ _ _ us hl => match us, hl with | [_, _, _, _], _ => rfl
  have bFrinit := FFrinit.binds (ps := ["self", "program", "start", "choices"]) fun _ _ _ _ _ _ us hl => match us, hl with | [_, _, _, _], _ => rfl
  have bFrperform := FFrperform.binds (ps := ["self"]) fun _ _ _ _ _ _ us hl => match us, hl with | [_], _ => rfl
  have bFrnext_choice := FFrnext_choice.binds (ps := ["self", "word"]) fun _ _ _ _ _ _ us hl => match us, hl with | [_, _], _ => rfl
  have bFrmove := FFrmove.binds (ps := ["self", "instruction", "choice"]) fun _ _ _ _ _ _ us hl => match us, hl with | [_, _, _], _ => rfl
  have DL : Dn K mg "law" s_law ["_law_script"] fa fdxlaw := ⟨Fxlaw, PySem.W.mg_of X G axlaw, Fxlaw.binds (ps := ["_law_script"]) fun _ _ _ _ _ _ us hl => match us, hl with | [_], _ => rfl⟩
  let TP : PgF K mg := {
    m_isinstance := m_isinstance
    m_int := m_int
    m_bool := m_bool
    m_str := m_str
    m_tuple := m_tuple
    m_len := m_len
    m_all := m_all
    m_set := m_set
    m_sorted := m_sorted
    m_gcd := PySem.W.mg_of X G gGcd
    t_SHORT_BOUND := tSHORT_BOUND
    c_SHORT_BOUND := by rw [← eSHORT_BOUND]; exact PySem.W.mg_of X G cSHORT_BOUND
    t_MAX_LETTERS := tMAX_LETTERS
    c_MAX_LETTERS := by rw [← eMAX_LETTERS]; exact PySem.W.mg_of X G cMAX_LETTERS
    t_MAX_DEPTH := tMAX_DEPTH
    c_MAX_DEPTH := by rw [← eMAX_DEPTH]; exact PySem.W.mg_of X G cMAX_DEPTH
    t_MAX_PROCEDURES := tMAX_PROCEDURES
    c_MAX_PROCEDURES := by rw [← eMAX_PROCEDURES]; exact PySem.W.mg_of X G cMAX_PROCEDURES
    t_MAX_NAMES := tMAX_NAMES
    c_MAX_NAMES := by rw [← eMAX_NAMES]; exact PySem.W.mg_of X G cMAX_NAMES
    t_MAX_CODE := tMAX_CODE
    c_MAX_CODE := by rw [← eMAX_CODE]; exact PySem.W.mg_of X G cMAX_CODE
    t_MAX_CALLS := tMAX_CALLS
    c_MAX_CALLS := by rw [← eMAX_CALLS]; exact PySem.W.mg_of X G cMAX_CALLS
    a_WORDS := aWORDS
    g_WORDS := PySem.W.mg_of X G gWORDS
    w_WORDS := fun H => .inr ⟨oWORDS, itsWORDS, nWORDS, lWORDS, sWORDS, dWORDS, by rw [← Array.length_toList, ← vWORDS.length, List.length_map]; exact small (by decide), vWORDS⟩
    a_PAIRS := aPAIRS
    g_PAIRS := PySem.W.mg_of X G gPAIRS
    w_PAIRS := fun H => .inr ⟨oPAIRS, itsPAIRS, nPAIRS, lPAIRS, sPAIRS, dPAIRS, by rw [← Array.length_toList, ← vPAIRS.length, List.length_map]; exact small (by decide), vPAIRS⟩
    a_COMPOUND := aCOMPOUND
    g_COMPOUND := PySem.W.mg_of X G gCOMPOUND
    w_COMPOUND := fun H => .inr ⟨oCOMPOUND, itsCOMPOUND, nCOMPOUND, lCOMPOUND, sCOMPOUND, dCOMPOUND, by rw [← Array.length_toList, ← vCOMPOUND.length, List.length_map]; exact small (by decide), vCOMPOUND⟩
    f_is_integer := fxis_integer
    fd_is_integer := fdxis_integer
    D_is_integer := Dxis_integer
    f_is_short := fxis_short
    fd_is_short := fdxis_short
    D_is_short := Dxis_short
    f_common_divisor := fxcommon_divisor
    fd_common_divisor := fdxcommon_divisor
    D_common_divisor := Dxcommon_divisor
    f_is_name := fxis_name
    fd_is_name := fdxis_name
    D_is_name := Dxis_name
    f_are_names := fxare_names
    fd_are_names := fdxare_names
    D_are_names := Dxare_names
    f_is_term := fxis_term
    fd_is_term := fdxis_term
    D_is_term := Dxis_term
    f_are_terms := fxare_terms
    fd_are_terms := fdxare_terms
    D_are_terms := Dxare_terms
    f_sum_numbers := fxsum_numbers
    fd_sum_numbers := fdxsum_numbers
    D_sum_numbers := Dxsum_numbers
    f_is_long_sum := fxis_long_sum
    fd_is_long_sum := fdxis_long_sum
    D_is_long_sum := Dxis_long_sum
    f_is_sum := fxis_sum
    fd_is_sum := fdxis_sum
    D_is_sum := Dxis_sum
    f_is_expression := fxis_expression
    fd_is_expression := fdxis_expression
    D_is_expression := Dxis_expression
    f_is_statement := fxis_statement
    fd_is_statement := fdxis_statement
    D_is_statement := Dxis_statement
    f_is_writing := fxis_writing
    fd_is_writing := fdxis_writing
    D_is_writing := Dxis_writing
    f_is_compound := fxis_compound
    fd_is_compound := fdxis_compound
    D_is_compound := Dxis_compound
    f_are_procedures := fxare_procedures
    fd_are_procedures := fdxare_procedures
    D_are_procedures := Dxare_procedures
    f_block_code := fxblock_code
    fd_block_code := fdxblock_code
    D_block_code := Dxblock_code
    f_statement_code := fxstatement_code
    fd_statement_code := fdxstatement_code
    D_statement_code := Dxstatement_code
    f_if_code := fxif_code
    fd_if_code := fdxif_code
    D_if_code := Dxif_code
    f_while_code := fxwhile_code
    fd_while_code := fdxwhile_code
    D_while_code := Dxwhile_code
    f_repeat_code := fxrepeat_code
    fd_repeat_code := fdxrepeat_code
    D_repeat_code := Dxrepeat_code
    f_program_code := fxprogram_code
    fd_program_code := fdxprogram_code
    D_program_code := Dxprogram_code
    f_check_names := fxcheck_names
    fd_check_names := fdxcheck_names
    D_check_names := Dxcheck_names
    f_check_blocks := fxcheck_blocks
    fd_check_blocks := fdxcheck_blocks
    D_check_blocks := Dxcheck_blocks
    f_check_size := fxcheck_size
    fd_check_size := fdxcheck_size
    D_check_size := Dxcheck_size
    f_is_block := fB
    fd_is_block := (PySem.W.fnOf "is_block" "is_block" (defArgs s_is_block) (defBody s_is_block) (defScope s_is_block) (.ref TD) kVB dcB pmB anB cdB ctB)
    F_is_block := FB
    g_is_block := PySem.W.mg_of X G aB
    b4_is_block := b4B
    ds_is_block := dsB
    v3_is_block := v3B
    b3_is_block := b3B }
  let CC : PgC K mg := {
    C := C
    g := PySem.W.mg_of X G aC
    cl := ⟨pg, hd, po, sa⟩
    is := ⟨ha, hn, ht, hm⟩
    n_code := n_code
    n_entries := n_entries
    n_given := n_given
    n_variables := n_variables
    n_procedures := n_procedures
    n_main := n_main
    f_init := fMi
    fd_init := fdMi
    M := ⟨mk, atMi, isMi, kc⟩
    F_init := FMi
    b_init := bMi
    f_eq := fMe
    fd_eq := fdMe
    F_eq := FMe
    b_eq := bMe
    a_eq := atMe
    i_eq := isMe
    a_ne := aNe
    p_given := pPgiven
    f_given := fPgiven
    fd_given := fdPgiven
    P_given := ⟨aPgiven, gtPgiven, tkPgiven, rcPgiven⟩
    F_given := FPgiven
    b_given := bPgiven
    p_variables := pPvariables
    f_variables := fPvariables
    fd_variables := fdPvariables
    P_variables := ⟨aPvariables, gtPvariables, tkPvariables, rcPvariables⟩
    F_variables := FPvariables
    b_variables := bPvariables
    p_procedures := pPprocedures
    f_procedures := fPprocedures
    fd_procedures := fdPprocedures
    P_procedures := ⟨aPprocedures, gtPprocedures, tkPprocedures, rcPprocedures⟩
    F_procedures := FPprocedures
    b_procedures := bPprocedures
    p_main := pPmain
    f_main := fPmain
    fd_main := fdPmain
    P_main := ⟨aPmain, gtPmain, tkPmain, rcPmain⟩
    F_main := FPmain
    b_main := bPmain
    p_names := pPnames
    f_names := fPnames
    fd_names := fdPnames
    P_names := ⟨aPnames, gtPnames, tkPnames, rcPnames⟩
    F_names := FPnames
    b_names := bPnames
    p_code := pPcode
    f_code := fPcode
    fd_code := fdPcode
    P_code := ⟨aPcode, gtPcode, tkPcode, rcPcode⟩
    F_code := FPcode
    b_code := bPcode }
  let XMv : MvC K mg := {
    C := CMv
    g := PySem.W.mg_of X G aMv
    cl := ⟨pgMv, hdMv, poMv, saMv⟩
    n_instructions := nMvinstructions
    n_order := nMvorder
    n_size := nMvsize
    n_entries := nMventries
    n_returns := nMvreturns
    n_callers := nMvcallers
    n_depths := nMvdepths
    n__places := nMv_places
    f_init := fMvinit
    fd_init := fdMvinit
    M_init := ⟨mkMv, atMvinit, isMvinit, kcMv⟩
    F_init := FMvinit
    b_init := bMvinit
    f_choices := fMvchoices
    fd_choices := fdMvchoices
    M_choices := ⟨atMvchoices, isMvchoices, FMvchoices.kp⟩
    F_choices := FMvchoices
    b_choices := bMvchoices
    f_target := fMvtarget
    fd_target := fdMvtarget
    M_target := ⟨atMvtarget, isMvtarget, FMvtarget.kp⟩
    F_target := FMvtarget
    b_target := bMvtarget
    f_value_entries := fMvvalue_entries
    fd_value_entries := fdMvvalue_entries
    M_value_entries := ⟨atMvvalue_entries, isMvvalue_entries, FMvvalue_entries.kp⟩
    F_value_entries := FMvvalue_entries
    b_value_entries := bMvvalue_entries
    f_result := fMvresult
    fd_result := fdMvresult
    M_result := ⟨atMvresult, isMvresult, FMvresult.kp⟩
    F_result := FMvresult
    b_result := bMvresult
    f_after_set := fMvafter_set
    fd_after_set := fdMvafter_set
    M_after_set := ⟨atMvafter_set, isMvafter_set, FMvafter_set.kp⟩
    F_after_set := FMvafter_set
    b_after_set := bMvafter_set
    f_after_swap := fMvafter_swap
    fd_after_swap := fdMvafter_swap
    M_after_swap := ⟨atMvafter_swap, isMvafter_swap, FMvafter_swap.kp⟩
    F_after_swap := FMvafter_swap
    b_after_swap := bMvafter_swap }
  let XFr : FrC K mg := {
    C := CFr
    g := PySem.W.mg_of X G aFr
    cl := ⟨pgFr, hdFr, poFr, saFr⟩
    n_moves := nFrmoves
    n_address := nFraddress
    n_vector := nFrvector
    n_frames := nFrframes
    n_used := nFrused
    n__choices := nFr_choices
    f_init := fFrinit
    fd_init := fdFrinit
    M_init := ⟨mkFr, atFrinit, isFrinit, kcFr⟩
    F_init := FFrinit
    b_init := bFrinit
    f_perform := fFrperform
    fd_perform := fdFrperform
    M_perform := ⟨atFrperform, isFrperform, FFrperform.kp⟩
    F_perform := FFrperform
    b_perform := bFrperform
    f_next_choice := fFrnext_choice
    fd_next_choice := fdFrnext_choice
    M_next_choice := ⟨atFrnext_choice, isFrnext_choice, FFrnext_choice.kp⟩
    F_next_choice := FFrnext_choice
    b_next_choice := bFrnext_choice
    f_move := fFrmove
    fd_move := fdFrmove
    M_move := ⟨atFrmove, isFrmove, FFrmove.kp⟩
    F_move := FFrmove
    b_move := bFrmove }
  obtain ⟨oc, od, kV, doc, pm, an, cdv, ct, osl, rfl, _, _⟩ := id Fxlaw.ex
  refine ⟨PySem.W.fnOf "law" "law" (defArgs s_law) (defBody s_law) (defScope s_law) .none kV doc pm an cdv ct, fun s v => .of_eq rfl, fun base _ _ => ?_⟩
  let UE : PgE0 K mg CC.C := { f_entry := fMn, fd_entry := fdMn, M_entry := ⟨atMn, isMn, FMn.kp⟩, F_entry := FMn, b_entry := bMn }
  let PL : PlF K mg := { toPgF := TP, m_max := m_max, m_min := m_min, m_range := m_range, m_enumerate := m_enumerate, m_abs := m_abs, f__law_pool := fx_law_pool, fd__law_pool := fdx_law_pool, D__law_pool := Dx_law_pool, f__law_draw := fx_law_draw, fd__law_draw := fdx_law_draw, D__law_draw := Dx_law_draw, f__law_names := fx_law_names, fd__law_names := fdx_law_names, D__law_names := Dx_law_names, f__law_divisor := fx_law_divisor, fd__law_divisor := fdx_law_divisor, D__law_divisor := Dx_law_divisor, f__law_sum := fx_law_sum, fd__law_sum := fdx_law_sum, D__law_sum := Dx_law_sum, f__law_expression := fx_law_expression, fd__law_expression := fdx_law_expression, D__law_expression := Dx_law_expression, f__law_simple := fx_law_simple, fd__law_simple := fdx_law_simple, D__law_simple := Dx_law_simple, f__law_statement := fx_law_statement, fd__law_statement := fdx_law_statement, D__law_statement := Dx_law_statement, f__law_block := fx_law_block, fd__law_block := fdx_law_block, D__law_block := Dx_law_block, f__law_program := fx_law_program, fd__law_program := fdx_law_program, D__law_program := Dx_law_program }
  let TL : LwM K mg := { toPlF := PL, m_zip := m_zip, m_list := m_list, m_dict := m_dict, f_loop_depths := fxloop_depths, fd_loop_depths := fdxloop_depths, D_loop_depths := Dxloop_depths, f_is_free := fxis_free, fd_is_free := fdxis_free, D_is_free := Dxis_free, f_divided := fxdivided, fd_divided := fdxdivided, D_divided := Dxdivided, f_check_program := fxcheck_program, fd_check_program := fdxcheck_program, D_check_program := Dxcheck_program, f_is_state := fxis_state, fd_is_state := fdxis_state, D_is_state := Dxis_state, f_check_values := fxcheck_values, fd_check_values := fdxcheck_values, D_check_values := Dxcheck_values, f_first_wrong := fxfirst_wrong, fd_first_wrong := fdxfirst_wrong, D_first_wrong := Dxfirst_wrong, f_check_count := fxcheck_count, fd_check_count := fdxcheck_count, D_check_count := Dxcheck_count, f_check_choices := fxcheck_choices, fd_check_choices := fdxcheck_choices, D_check_choices := Dxcheck_choices, f_free_run := fxfree_run, fd_free_run := fdxfree_run, D_free_run := Dxfree_run, f__law_low := fx_law_low, fd__law_low := fdx_law_low, D__law_low := Dx_law_low, f__law_worth := fx_law_worth, fd__law_worth := fdx_law_worth, D__law_worth := Dx_law_worth, f__law_put := fx_law_put, fd__law_put := fdx_law_put, D__law_put := Dx_law_put, f__law_need := fx_law_need, fd__law_need := fdx_law_need, D__law_need := Dx_law_need, f__law_told := fx_law_told, fd__law_told := fdx_law_told, D__law_told := Dx_law_told, f__law_jump := fx_law_jump, fd__law_jump := fdx_law_jump, D__law_jump := Dx_law_jump, f__law_first := fx_law_first, fd__law_first := fdx_law_first, D__law_first := Dx_law_first, f__law_start := fx_law_start, fd__law_start := fdx_law_start, D__law_start := Dx_law_start, f__law_choices := fx_law_choices, fd__law_choices := fdx_law_choices, D__law_choices := Dx_law_choices, f__law_due := fx_law_due, fd__law_due := fdx_law_due, D__law_due := Dx_law_due, f__law_is_right := fx_law_is_right, fd__law_is_right := fdx_law_is_right, D__law_is_right := Dx_law_is_right }
  let TQ : LqM K mg := { toLwM := TL, m_repr := m_repr }
  exact ok_law DL TQ CC UE XMv XFr
end Sp1

set_option Elab.async false
set_option linter.all false
set_option maxRecDepth 100000
open PySem PySem.W PyProof.Rows in
set_option maxRecDepth 100000 in
set_option maxHeartbeats 0 in
theorem PySem.Challenge.cw_frugaltape_k25_free_runs_step_by_step_holds : PySem.Challenge.rw_frugaltape_k25_free_runs_step_by_step.Holds := by
  w_on; o_law; k_head; (case hw => w_witness2)
  k_fill
  refine Sp1.walk_ofG (l := PySem.Challenge.rw_frugaltape_k25_free_runs_step_by_step) (n := 63) (k := 37) (x := "_law_script") (CX := fun _ => L2.CX0) (sp := fun w => Sp1.sp_law _) rfl (by decide) rfl ⟨rfl, by decide, by decide⟩ (fun w h Y => PySem.W.kIn_of Y) ?F (fun _ _ a ns hl _ _ hS => ⟨a, ns, rfl, hS, hl, fun _ => rfl⟩) fun _ _ _ _ _ z => z
  case F =>
    intro w mg fa h KX G hmg
    refine' Sp1.all_mk KX G hmg ?axis_integer ?Fxis_integer ?axis_short ?Fxis_short ?axcommon_divisor ?Fxcommon_divisor ?axis_name ?Fxis_name ?axare_names ?Fxare_names ?axis_term ?Fxis_term ?axare_terms ?Fxare_terms ?axsum_numbers ?Fxsum_numbers ?axis_long_sum ?Fxis_long_sum ?axis_sum ?Fxis_sum ?axis_expression ?Fxis_expression ?axis_statement ?Fxis_statement ?axis_writing ?Fxis_writing ?axis_compound ?Fxis_compound ?axare_procedures ?Fxare_procedures ?axblock_code ?Fxblock_code ?axstatement_code ?Fxstatement_code ?axif_code ?Fxif_code ?axwhile_code ?Fxwhile_code ?axrepeat_code ?Fxrepeat_code ?axprogram_code ?Fxprogram_code ?axcheck_names ?Fxcheck_names ?axcheck_blocks ?Fxcheck_blocks ?axcheck_size ?Fxcheck_size ?ax_law_pool ?Fx_law_pool ?ax_law_draw ?Fx_law_draw ?ax_law_names ?Fx_law_names ?ax_law_divisor ?Fx_law_divisor ?ax_law_sum ?Fx_law_sum ?ax_law_expression ?Fx_law_expression ?ax_law_simple ?Fx_law_simple ?ax_law_statement ?Fx_law_statement ?ax_law_block ?Fx_law_block ?ax_law_program ?Fx_law_program ?axloop_depths ?Fxloop_depths ?axis_free ?Fxis_free ?axdivided ?Fxdivided ?axcheck_program ?Fxcheck_program ?axis_state ?Fxis_state ?axcheck_values ?Fxcheck_values ?axfirst_wrong ?Fxfirst_wrong ?axcheck_count ?Fxcheck_count ?axcheck_choices ?Fxcheck_choices ?axfree_run ?Fxfree_run ?ax_law_low ?Fx_law_low ?ax_law_worth ?Fx_law_worth ?ax_law_put ?Fx_law_put ?ax_law_need ?Fx_law_need ?ax_law_told ?Fx_law_told ?ax_law_jump ?Fx_law_jump ?ax_law_first ?Fx_law_first ?ax_law_start ?Fx_law_start ?ax_law_choices ?Fx_law_choices ?ax_law_due ?Fx_law_due ?ax_law_is_right ?Fx_law_is_right ?axlaw ?Fxlaw ?aB ?lB ?cB ?kB ?lT ?dT ?gGcd ?cSHORT_BOUND ?eSHORT_BOUND ?cMAX_LETTERS ?eMAX_LETTERS ?cMAX_DEPTH ?eMAX_DEPTH ?cMAX_PROCEDURES ?eMAX_PROCEDURES ?cMAX_NAMES ?eMAX_NAMES ?cMAX_CODE ?eMAX_CODE ?cMAX_CALLS ?eMAX_CALLS ?gWORDS ?lWORDS ?sWORDS ?dWORDS ?vWORDS ?gPAIRS ?lPAIRS ?sPAIRS ?dPAIRS ?vPAIRS ?gCOMPOUND ?lCOMPOUND ?sCOMPOUND ?dCOMPOUND ?vCOMPOUND ?aC ?pg ?hd ?po ?sa ?mk ?kc ?ha ?hn ?ht ?hm ?aNe ?n_code ?n_entries ?n_given ?n_variables ?n_procedures ?n_main ?atMi ?isMi ?FMi ?atMe ?isMe ?FMe ?aPgiven ?gtPgiven ?tkPgiven ?rcPgiven ?FPgiven ?aPvariables ?gtPvariables ?tkPvariables ?rcPvariables ?FPvariables ?aPprocedures ?gtPprocedures ?tkPprocedures ?rcPprocedures ?FPprocedures ?aPmain ?gtPmain ?tkPmain ?rcPmain ?FPmain ?aPnames ?gtPnames ?tkPnames ?rcPnames ?FPnames ?aPcode ?gtPcode ?tkPcode ?rcPcode ?FPcode ?atMn ?isMn ?FMn ?aMv ?pgMv ?hdMv ?poMv ?saMv ?mkMv ?kcMv ?nMvinstructions ?nMvorder ?nMvsize ?nMventries ?nMvreturns ?nMvcallers ?nMvdepths ?nMv_places ?atMvinit ?isMvinit ?FMvinit ?atMvchoices ?isMvchoices ?FMvchoices ?atMvtarget ?isMvtarget ?FMvtarget ?atMvvalue_entries ?isMvvalue_entries ?FMvvalue_entries ?atMvresult ?isMvresult ?FMvresult ?atMvafter_set ?isMvafter_set ?FMvafter_set ?atMvafter_swap ?isMvafter_swap ?FMvafter_swap ?aFr ?pgFr ?hdFr ?poFr ?saFr ?mkFr ?kcFr ?nFrmoves ?nFraddress ?nFrvector ?nFrframes ?nFrused ?nFr_choices ?atFrinit ?isFrinit ?FFrinit ?atFrperform ?isFrperform ?FFrperform ?atFrnext_choice ?isFrnext_choice ?FFrnext_choice ?atFrmove ?isFrmove ?FFrmove ?z_isinstance ?z_int ?z_bool ?z_str ?z_tuple ?z_len ?z_all ?z_set ?z_sorted ?z_max ?z_min ?z_range ?z_list ?z_enumerate ?z_abs ?z_zip ?z_dict ?z_repr
    (case axis_integer => k_is)
    (case Fxis_integer => exact L2.fun_mk (by k_is) (by k_is) (by k_is))
    (case axis_short => k_is)
    (case Fxis_short => exact L2.fun_mk (by k_is) (by k_is) (by k_is))
    (case axcommon_divisor => k_is)
    (case Fxcommon_divisor => exact L2.fun_mk (by k_is) (by k_is) (by k_is))
    (case axis_name => k_is)
    (case Fxis_name => exact L2.fun_mk (by k_is) (by k_is) (by k_is))
    (case axare_names => k_is)
    (case Fxare_names => exact L2.fun_mk (by k_is) (by k_is) (by k_is))
    (case axis_term => k_is)
    (case Fxis_term => exact L2.fun_mk (by k_is) (by k_is) (by k_is))
    (case axare_terms => k_is)
    (case Fxare_terms => exact L2.fun_mk (by k_is) (by k_is) (by k_is))
    (case axsum_numbers => k_is)
    (case Fxsum_numbers => exact L2.fun_mk (by k_is) (by k_is) (by k_is))
    (case axis_long_sum => k_is)
    (case Fxis_long_sum => exact L2.fun_mk (by k_is) (by k_is) (by k_is))
    (case axis_sum => k_is)
    (case Fxis_sum => exact L2.fun_mk (by k_is) (by k_is) (by k_is))
    (case axis_expression => k_is)
    (case Fxis_expression => exact L2.fun_mk (by k_is) (by k_is) (by k_is))
    (case axis_statement => k_is)
    (case Fxis_statement => exact L2.fun_mk (by k_is) (by k_is) (by k_is))
    (case axis_writing => k_is)
    (case Fxis_writing => exact L2.fun_mk (by k_is) (by k_is) (by k_is))
    (case axis_compound => k_is)
    (case Fxis_compound => exact L2.fun_mk (by k_is) (by k_is) (by k_is))
    (case axare_procedures => k_is)
    (case Fxare_procedures => exact L2.fun_mk (by k_is) (by k_is) (by k_is))
    (case axblock_code => k_is)
    (case Fxblock_code => exact L2.fun_mk (by k_is) (by k_is) (by k_is))
    (case axstatement_code => k_is)
    (case Fxstatement_code => exact L2.fun_mk (by k_is) (by k_is) (by k_is))
    (case axif_code => k_is)
    (case Fxif_code => exact L2.fun_mk (by k_is) (by k_is) (by k_is))
    (case axwhile_code => k_is)
    (case Fxwhile_code => exact L2.fun_mk (by k_is) (by k_is) (by k_is))
    (case axrepeat_code => k_is)
    (case Fxrepeat_code => exact L2.fun_mk (by k_is) (by k_is) (by k_is))
    (case axprogram_code => k_is)
    (case Fxprogram_code => exact L2.fun_mk (by k_is) (by k_is) (by k_is))
    (case axcheck_names => k_is)
    (case Fxcheck_names => exact L2.fun_mk (by k_is) (by k_is) (by k_is))
    (case axcheck_blocks => k_is)
    (case Fxcheck_blocks => exact L2.fun_mk (by k_is) (by k_is) (by k_is))
    (case axcheck_size => k_is)
    (case Fxcheck_size => exact L2.fun_mk (by k_is) (by k_is) (by k_is))
    (case ax_law_pool => k_is)
    (case Fx_law_pool => exact L2.fun_mk (by k_is) (by k_is) (by k_is))
    (case ax_law_draw => k_is)
    (case Fx_law_draw => exact L2.fun_mk (by k_is) (by k_is) (by k_is))
    (case ax_law_names => k_is)
    (case Fx_law_names => exact L2.fun_mk (by k_is) (by k_is) (by k_is))
    (case ax_law_divisor => k_is)
    (case Fx_law_divisor => exact L2.fun_mk (by k_is) (by k_is) (by k_is))
    (case ax_law_sum => k_is)
    (case Fx_law_sum => exact L2.fun_mk (by k_is) (by k_is) (by k_is))
    (case ax_law_expression => k_is)
    (case Fx_law_expression => exact L2.fun_mk (by k_is) (by k_is) (by k_is))
    (case ax_law_simple => k_is)
    (case Fx_law_simple => exact L2.fun_mk (by k_is) (by k_is) (by k_is))
    (case ax_law_statement => k_is)
    (case Fx_law_statement => exact L2.fun_mk (by k_is) (by k_is) (by k_is))
    (case ax_law_block => k_is)
    (case Fx_law_block => exact L2.fun_mk (by k_is) (by k_is) (by k_is))
    (case ax_law_program => k_is)
    (case Fx_law_program => exact L2.fun_mk (by k_is) (by k_is) (by k_is))
    (case axloop_depths => k_is)
    (case Fxloop_depths => exact L2.fun_mk (by k_is) (by k_is) (by k_is))
    (case axis_free => k_is)
    (case Fxis_free => exact L2.fun_mk (by k_is) (by k_is) (by k_is))
    (case axdivided => k_is)
    (case Fxdivided => exact L2.fun_mk (by k_is) (by k_is) (by k_is))
    (case axcheck_program => k_is)
    (case Fxcheck_program => exact L2.fun_mk (by k_is) (by k_is) (by k_is))
    (case axis_state => k_is)
    (case Fxis_state => exact L2.fun_mk (by k_is) (by k_is) (by k_is))
    (case axcheck_values => k_is)
    (case Fxcheck_values => exact L2.fun_mk (by k_is) (by k_is) (by k_is))
    (case axfirst_wrong => k_is)
    (case Fxfirst_wrong => exact L2.fun_mk (by k_is) (by k_is) (by k_is))
    (case axcheck_count => k_is)
    (case Fxcheck_count => exact L2.fun_mk (by k_is) (by k_is) (by k_is))
    (case axcheck_choices => k_is)
    (case Fxcheck_choices => exact L2.fun_mk (by k_is) (by k_is) (by k_is))
    (case axfree_run => k_is)
    (case Fxfree_run => exact L2.fun_mk (by k_is) (by k_is) (by k_is))
    (case ax_law_low => k_is)
    (case Fx_law_low => exact L2.fun_mk (by k_is) (by k_is) (by k_is))
    (case ax_law_worth => k_is)
    (case Fx_law_worth => exact L2.fun_mk (by k_is) (by k_is) (by k_is))
    (case ax_law_put => k_is)
    (case Fx_law_put => exact L2.fun_mk (by k_is) (by k_is) (by k_is))
    (case ax_law_need => k_is)
    (case Fx_law_need => exact L2.fun_mk (by k_is) (by k_is) (by k_is))
    (case ax_law_told => k_is)
    (case Fx_law_told => exact L2.fun_mk (by k_is) (by k_is) (by k_is))
    (case ax_law_jump => k_is)
    (case Fx_law_jump => exact L2.fun_mk (by k_is) (by k_is) (by k_is))
    (case ax_law_first => k_is)
    (case Fx_law_first => exact L2.fun_mk (by k_is) (by k_is) (by k_is))
    (case ax_law_start => k_is)
    (case Fx_law_start => exact L2.fun_mk (by k_is) (by k_is) (by k_is))
    (case ax_law_choices => k_is)
    (case Fx_law_choices => exact L2.fun_mk (by k_is) (by k_is) (by k_is))
    (case ax_law_due => k_is)
    (case Fx_law_due => exact L2.fun_mk (by k_is) (by k_is) (by k_is))
    (case ax_law_is_right => k_is)
    (case Fx_law_is_right => exact L2.fun_mk (by k_is) (by k_is) (by k_is))
    (case axlaw => k_is)
    (case Fxlaw => exact L2.fun_mk (by k_is) (by k_is) (by k_is))
    (case aB => k_is)
    (case lB => k_is)
    (case cB => k_is)
    (case kB => k_is)
    (case lT => k_is)
    (case dT => rfl)
    (case gGcd => k_is)
    (case cSHORT_BOUND => k_is)
    (case eSHORT_BOUND => (first | rfl | decide +kernel))
    (case cMAX_LETTERS => k_is)
    (case eMAX_LETTERS => (first | rfl | decide +kernel))
    (case cMAX_DEPTH => k_is)
    (case eMAX_DEPTH => (first | rfl | decide +kernel))
    (case cMAX_PROCEDURES => k_is)
    (case eMAX_PROCEDURES => (first | rfl | decide +kernel))
    (case cMAX_NAMES => k_is)
    (case eMAX_NAMES => (first | rfl | decide +kernel))
    (case cMAX_CODE => k_is)
    (case eMAX_CODE => (first | rfl | decide +kernel))
    (case cMAX_CALLS => k_is)
    (case eMAX_CALLS => (first | rfl | decide +kernel))
    (case gWORDS => k_is)
    (case lWORDS => k_is)
    (case sWORDS => rfl)
    (case dWORDS => rfl)
    (case vWORDS => (repeat (first | exact .nil | refine .cons ⟨_, rfl⟩ ?_)))
    (case gPAIRS => k_is)
    (case lPAIRS => k_is)
    (case sPAIRS => rfl)
    (case dPAIRS => rfl)
    (case vPAIRS => (repeat (first | exact .nil | refine .cons ⟨_, rfl⟩ ?_)))
    (case gCOMPOUND => k_is)
    (case lCOMPOUND => k_is)
    (case sCOMPOUND => rfl)
    (case dCOMPOUND => rfl)
    (case vCOMPOUND => (repeat (first | exact .nil | refine .cons ⟨_, rfl⟩ ?_)))
    (case aC => k_is)
    (case pg => k_is)
    (case hd => k_is)
    (case po => k_is)
    (case sa => k_is)
    (case mk => k_is)
    (case kc => k_is)
    (case ha => k_is)
    (case hn => k_is)
    (case ht => k_is)
    (case hm => k_is)
    (case aNe => k_is)
    (case n_code => k_is)
    (case n_entries => k_is)
    (case n_given => k_is)
    (case n_variables => k_is)
    (case n_procedures => k_is)
    (case n_main => k_is)
    (case atMi => k_is)
    (case isMi => k_is)
    (case FMi => exact L2.fun_mk (by k_is) (by k_is) (by k_is))
    (case atMe => k_is)
    (case isMe => k_is)
    (case FMe => exact L2.fun_mk (by k_is) (by k_is) (by k_is))
    (case aPgiven => k_is)
    (case gtPgiven => k_is)
    (case tkPgiven => k_is)
    (case rcPgiven => exact ⟨_, by k_is⟩)
    (case FPgiven => exact L2.fun_mk (by k_is) (by k_is) (by k_is))
    (case aPvariables => k_is)
    (case gtPvariables => k_is)
    (case tkPvariables => k_is)
    (case rcPvariables => exact ⟨_, by k_is⟩)
    (case FPvariables => exact L2.fun_mk (by k_is) (by k_is) (by k_is))
    (case aPprocedures => k_is)
    (case gtPprocedures => k_is)
    (case tkPprocedures => k_is)
    (case rcPprocedures => exact ⟨_, by k_is⟩)
    (case FPprocedures => exact L2.fun_mk (by k_is) (by k_is) (by k_is))
    (case aPmain => k_is)
    (case gtPmain => k_is)
    (case tkPmain => k_is)
    (case rcPmain => exact ⟨_, by k_is⟩)
    (case FPmain => exact L2.fun_mk (by k_is) (by k_is) (by k_is))
    (case aPnames => k_is)
    (case gtPnames => k_is)
    (case tkPnames => k_is)
    (case rcPnames => exact ⟨_, by k_is⟩)
    (case FPnames => exact L2.fun_mk (by k_is) (by k_is) (by k_is))
    (case aPcode => k_is)
    (case gtPcode => k_is)
    (case tkPcode => k_is)
    (case rcPcode => exact ⟨_, by k_is⟩)
    (case FPcode => exact L2.fun_mk (by k_is) (by k_is) (by k_is))
    (case atMn => k_is)
    (case isMn => k_is)
    (case FMn => exact L2.fun_mk (by k_is) (by k_is) (by k_is))
    (case aMv => k_is)
    (case pgMv => k_is)
    (case hdMv => k_is)
    (case poMv => k_is)
    (case saMv => k_is)
    (case mkMv => k_is)
    (case kcMv => k_is)
    (case nMvinstructions => k_is)
    (case nMvorder => k_is)
    (case nMvsize => k_is)
    (case nMventries => k_is)
    (case nMvreturns => k_is)
    (case nMvcallers => k_is)
    (case nMvdepths => k_is)
    (case nMv_places => k_is)
    (case atMvinit => k_is)
    (case isMvinit => k_is)
    (case FMvinit => exact L2.fun_mk (by k_is) (by k_is) (by k_is))
    (case atMvchoices => k_is)
    (case isMvchoices => k_is)
    (case FMvchoices => exact L2.fun_mk (by k_is) (by k_is) (by k_is))
    (case atMvtarget => k_is)
    (case isMvtarget => k_is)
    (case FMvtarget => exact L2.fun_mk (by k_is) (by k_is) (by k_is))
    (case atMvvalue_entries => k_is)
    (case isMvvalue_entries => k_is)
    (case FMvvalue_entries => exact L2.fun_mk (by k_is) (by k_is) (by k_is))
    (case atMvresult => k_is)
    (case isMvresult => k_is)
    (case FMvresult => exact L2.fun_mk (by k_is) (by k_is) (by k_is))
    (case atMvafter_set => k_is)
    (case isMvafter_set => k_is)
    (case FMvafter_set => exact L2.fun_mk (by k_is) (by k_is) (by k_is))
    (case atMvafter_swap => k_is)
    (case isMvafter_swap => k_is)
    (case FMvafter_swap => exact L2.fun_mk (by k_is) (by k_is) (by k_is))
    (case aFr => k_is)
    (case pgFr => k_is)
    (case hdFr => k_is)
    (case poFr => k_is)
    (case saFr => k_is)
    (case mkFr => k_is)
    (case kcFr => k_is)
    (case nFrmoves => k_is)
    (case nFraddress => k_is)
    (case nFrvector => k_is)
    (case nFrframes => k_is)
    (case nFrused => k_is)
    (case nFr_choices => k_is)
    (case atFrinit => k_is)
    (case isFrinit => k_is)
    (case FFrinit => exact L2.fun_mk (by k_is) (by k_is) (by k_is))
    (case atFrperform => k_is)
    (case isFrperform => k_is)
    (case FFrperform => exact L2.fun_mk (by k_is) (by k_is) (by k_is))
    (case atFrnext_choice => k_is)
    (case isFrnext_choice => k_is)
    (case FFrnext_choice => exact L2.fun_mk (by k_is) (by k_is) (by k_is))
    (case atFrmove => k_is)
    (case isFrmove => k_is)
    (case FFrmove => exact L2.fun_mk (by k_is) (by k_is) (by k_is))
    (case z_isinstance => k_is)
    (case z_int => k_is)
    (case z_bool => k_is)
    (case z_str => k_is)
    (case z_tuple => k_is)
    (case z_len => k_is)
    (case z_all => k_is)
    (case z_set => k_is)
    (case z_sorted => k_is)
    (case z_max => k_is)
    (case z_min => k_is)
    (case z_range => k_is)
    (case z_list => k_is)
    (case z_enumerate => k_is)
    (case z_abs => k_is)
    (case z_zip => k_is)
    (case z_dict => k_is)
    (case z_repr => k_is)

