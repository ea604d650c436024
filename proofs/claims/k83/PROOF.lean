import PyProof.Rows.All
import Wide.All
import OpenK.AllK
import Wide.FinOn
import HandS.ForMost
import HandS.Walk
import HandS.Zip
import HandS.Gcd
import HandS.Wide
import HandS.WideMore
import HandS.Defaults
import HandS.Property
import HandS.Style
import HandS.Star
import HandS.TupAny
import HandS.IsInst
import HandS.Flow
import HandS.EndBits
import HandS.SetFor
import HandS.Strs
import HandS.TryOnly
import HandS.ForExc
import HandS.ExcInit
import HandS.RaiseMore
import KE.SortKeyHeap
import KE.DatumOrd
import KE.DataMinMax
import HandS.OwnEq
import KE.KEqDeep
import PyProof.InstNe
import HandS.List
import PyProof.EqKinds
import PyProof.P3In
import PyProof.FactsAll.dict_1
import PyProof.Rows.SortStr
import PyProof.Rows.IntBool
import PyProof.StrOps2
import HandS.Text
import HandS.TupLe
import HandS.Deep
import PyProof.SeqIndex
import HandS.DictComp
import KE.GoesEnum
import HandS.Iter
import PyProof.Draws
import KE.GoesMore
import KE.DataCmp
import HandS.Sort
import PySem.Challenge.RW_frugaltape_k83_best_steps_to_keep
set_option Elab.async false
set_option linter.all false
set_option maxRecDepth 100000
namespace Sp1
open PySem PySem.Spec PyProof.Rows L2
/-- a def of the top: where it stands -/
structure Dn (K : PySem.W.Frag) (mg : Str → Option Value) (name : Str) (st : Stmt) (ps : List Str) (f : Addr) (fd : FuncData) : Prop where
  F : Fun K name name st f fd
  g : mg name = some (.ref f)
  b : Binds K fd ps []
theorem Dn.kp {K : PySem.W.Frag} {mg : Str → Option Value} {name : Str} {st : Stmt} {ps : List Str} {f : Addr} {fd : FuncData} (D : Dn K mg name st ps f fd) : PySem.W.keepIn K (.ref f) = true := D.F.kp
/-! heaps -/
theorem Same.sqt {K : PySem.W.Frag} {H H' : Hp} {a : Addr} {xs : List V} (e : Same H H') (h : SqT K H a xs) : SqT K H' a xs := by
  rcases h with (h | ⟨o, h⟩) | h
  · exact .inl (.inl (e _ _ h))
  · exact .inl (.inr ⟨o, e _ _ h⟩)
  · exact .inr h
theorem same_new {H : Hp} {p : Addr} {o : HO} (h : H p = none) : Same H (upd H p o) := fun b x e => by
  rw [upd_ne (ne_of_none e h)]
  exact e
theorem same_at {H0 H : Hp} {p : Addr} {o : HO} (h0 : H0 p = none) (s : Same H0 H) : Same H0 (upd H p o) := fun b x e => by
  rw [upd_ne (ne_of_none e h0)]
  exact s b x e
theorem pe_ty {X : Cx} {x : Str} {n : String} {pos : Pos} (hg : Gl X x) (hm : X.mg x = none) (hb : bootBuiltins x = some (.type n)) (hn : x ≠ "__name__" := by decide) (hd : (x == ("__debug__" : Str)) = false := by decide) : PE X (.Name x pos) (tC (.ty n)) := pe_bltn hg hm hb rfl hn hd
/-! tuples stay -/
def TK (H H' : Hp) : Prop := (∀ b xs, H b = some (.tup xs) → H' b = some (.tup xs)) ∧ ∀ b o u, H b = some (.frz o u) → H' b = some (.frz o u)
theorem TK.refl (H : Hp) : TK H H := ⟨fun _ _ h => h, fun _ _ _ h => h⟩
theorem TK.trans {H H1 H2 : Hp} (a : TK H H1) (b : TK H1 H2) : TK H H2 := ⟨fun c xs h => b.1 c xs (a.1 c xs h), fun c o u h => b.2 c o u (a.2 c o u h)⟩
theorem Same.tk {H H' : Hp} (s : Same H H') : TK H H' := ⟨fun b xs h => s b _ h, fun b o u h => s b _ h⟩
theorem tk_lst {H : Hp} {D : Addr} {xs : List V} {o : HO} (h : H D = some (.lst xs)) : TK H (upd H D o) := ⟨fun b ys e => by rw [upd_ne (ne_of e h (by intro z; cases z))]; exact e, fun b ob u e => by rw [upd_ne (ne_of e h (by intro z; cases z))]; exact e⟩
theorem TK.sqt {K : PySem.W.Frag} {H H' : Hp} {a : Addr} {xs : List V} (e : TK H H') (h : SqT K H a xs) : SqT K H' a xs := by
  rcases h with (h | ⟨o, h⟩) | h
  · exact .inl (.inl (e.1 _ _ h))
  · exact .inl (.inr ⟨o, e.2 _ _ _ h⟩)
  · exact .inr h
/-- all but p stands as it stood -/
def SX (p : Addr) (H H' : Hp) : Prop := ∀ b o, b ≠ p → H b = some o → H' b = some o
theorem SX.refl (p : Addr) (H : Hp) : SX p H H := fun _ _ _ h => h
theorem SX.trans {p : Addr} {H H1 H2 : Hp} (a : SX p H H1) (b : SX p H1 H2) : SX p H H2 := fun c o hc h => b c o hc (a c o hc h)
theorem Same.sx {p : Addr} {H H' : Hp} (s : Same H H') : SX p H H' := fun b o _ h => s b o h
theorem SX.new {p q : Addr} {H H' : Hp} {o : HO} (a : SX p H H') (n : H q = none) : SX p H (upd H' q o) := fun b u hb e => by
  rw [upd_ne (ne_of_none e n)]
  exact a b u hb e
theorem sx_put {r : Addr} {H : Hp} {o : HO} : SX r H (upd H r o) := fun b u hb e => by rw [upd_ne hb]; exact e
theorem Same.free {H H' : Hp} {p : Addr} (s : Same H H') (n : H' p = none) : H p = none := by
  cases e : H p with
  | none => rfl
  | some o =>
    rw [s _ _ e] at n
    cases n
theorem SX.free {p q : Addr} {H H' : Hp} (s : SX p H H') (hq : q ≠ p) (n : H' q = none) : H q = none := by
  cases e : H q with
  | none => rfl
  | some o =>
    rw [s _ _ hq e] at n
    cases n
/-- a place of two ints, the second below a bound -/
def PoolAt (H : Hp) (p : Addr) : Prop := ∃ a b : Int, H p = some (.lst [.int a, .int b]) ∧ 0 ≤ a ∧ 0 ≤ b ∧ b < 2147483647
theorem PoolAt.lst {H : Hp} {p : Addr} (h : PoolAt H p) : ∃ xs, H p = some (.lst xs) := by
  obtain ⟨a, b, h, _⟩ := h
  exact ⟨_, h⟩
theorem PoolAt.new {H : Hp} {p q : Addr} {o : HO} (h : PoolAt H p) (n : H q = none) : PoolAt (upd H q o) p := by
  obtain ⟨a, b, e, r⟩ := h
  exact ⟨a, b, by rw [upd_ne (ne_of_none e n)]; exact e, r⟩
theorem PoolAt.put {H : Hp} {p q : Addr} {o : HO} (h : PoolAt H p) (n : p ≠ q) : PoolAt (upd H q o) p := by
  obtain ⟨a, b, e, r⟩ := h
  exact ⟨a, b, by rw [upd_ne n]; exact e, r⟩
theorem PoolAt.ne {H : Hp} {p q : Addr} (h : PoolAt H p) (n : H q = none) : p ≠ q := by
  obtain ⟨xs, e⟩ := h.lst
  exact ne_of_none e n
theorem PoolAt.same {H H' : Hp} {p : Addr} (h : PoolAt H p) (s : Same H H') : PoolAt H' p := by
  obtain ⟨a, b, e, r⟩ := h
  exact ⟨a, b, s _ _ e, r⟩
theorem small1000 {n : Nat} (h : n ≤ 1000) : n < sizeLine := by rw [sizeLine_eq]; omega
/-! a comprehension's new list: its items known -/
def Acc (H1 : Hp) (D : Addr) (f : Nat → V) (i : Nat) (H : Hp) : Prop := Same H1 H ∧ H D = some (.lst ((List.range i).map f))
theorem Acc.start {H1 : Hp} {D : Addr} {f : Nat → V} (nD : H1 D = none) : Acc H1 D f 0 (upd H1 D (.lst [])) := ⟨same_new nD, upd_same⟩
theorem Acc.turn {H1 H H4 : Hp} {D : Addr} {f : Nat → V} {i : Nat} {y : V} (h : Acc H1 D f i H) (nD : H1 D = none) (s : Same H H4) (hi : i ≤ 1000) (hy : y = f i) :
    ∃ acc, H4 D = some (.lst acc) ∧ acc.length < sizeLine ∧ Acc H1 D f (i + 1) (upd H4 D (.lst (acc ++ [y]))) := by
  refine ⟨_, s _ _ h.2, ?_, same_at nD (h.1.trans s), ?_⟩
  · rw [List.length_map, List.length_range]
    exact small1000 hi
  · rw [upd_same, List.range_succ, List.map_append, hy]
    rfl
theorem int_at {u : List Int} {i : Nat} (h : i < u.length) : (u.map V.int)[i]? = some (.int u[i]) := by
  rw [List.getElem?_map, List.getElem?_eq_getElem h]
  rfl
theorem int_of {u : List Int} {i : Nat} {x : V} (h : (u.map V.int)[i]? = some x) : ∃ hi : i < u.length, x = .int u[i] := by
  have h1 := (List.getElem?_eq_some_iff.mp h).1
  rw [List.length_map] at h1
  rw [int_at h1] at h
  exact ⟨h1, (Option.some.inj h).symm⟩
theorem ixn {n j : Nat} (h : j < n) : ixN n (j : Int) = some j := by
  unfold ixN
  rw [if_pos (Int.natCast_nonneg j), if_pos (by omega)]
  rfl
abbrev rListOf (K : PySem.W.Frag) : List V → Hp → VK → Prop := fun xs H Q => ∃ p ys, xs = [V.ref p] ∧ (SqL K H p ys ∨ SqT K H p ys) ∧ ∀ l, H l = none → Q (V.ref l) (upd H l (.lst ys))
abbrev rLenSq (K : PySem.W.Frag) : List V → Hp → VK → Prop := fun xs H Q => ∃ p ys, xs = [V.ref p] ∧ (SqL K H p ys ∨ SqT K H p ys) ∧ Q (V.int ys.length) H
theorem dp_ints {K : PySem.W.Frag} {H : Hp} : ∀ u : List Int, DpAll K H (u.map V.int) (u.map PyData.int)
  | [] => .nil
  | x :: r => .cons (.int x) (dp_ints r)
theorem lay_ints : ∀ u : List Int, PyData.canLayAll0 (u.map PyData.int) = true ∧ PyData.depthAll (u.map PyData.int) = 0
  | [] => ⟨rfl, rfl⟩
  | x :: r => by
    obtain ⟨h1, h2⟩ := lay_ints r
    constructor
    · show (PyData.canLay0 (.int x) && PyData.canLayAll0 (r.map PyData.int)) = true
      rw [h1]
      rfl
    · show max (PyData.depth (.int x)) (PyData.depthAll (r.map PyData.int)) = 0
      rw [h2]
      rfl
theorem shaped_i (u : List Int) : SeqAt.shaped (.list (u.map PyData.int)) = true := by
  obtain ⟨h1, h2⟩ := lay_ints u
  exact Bool.and_eq_true_iff.mpr ⟨h1, decide_eq_true (by show PyData.depthAll _ + 1 ≤ 64; omega)⟩
theorem eqv_same {d : PyData} (h : SeqAt.shaped d = true) : PyData.eqv d d = true := PySem.SeqAt.eqv_refl _ (Bool.and_eq_true_iff.mp h).1
theorem ne_same {d : PyData} (h : SeqAt.shaped d = true) : (!PyData.eqv d d) = false := by rw [eqv_same h]; rfl
end Sp1

set_option Elab.async false
set_option linter.all false
set_option maxRecDepth 100000
set_option maxHeartbeats 4000000
namespace Sp1
open PySem PySem.Spec PyProof.Rows L2
theorem tyx_lst {K : PySem.W.Frag} {H : Hp} {l : Addr} {xs : List V} (h : H l = some (.lst xs)) : TyX K H (.ref l) (.type "list") := .base (.lst h)
theorem tyx_tup {K : PySem.W.Frag} {H : Hp} {a : Addr} {xs : List V} (h : H a = some (.tup xs)) : TyX K H (.ref a) (.type "tuple") := .base (.tup h)
/-! repr of data: how long its text is -/
mutual
theorem leaves_of_show : ∀ d : PyData, d.showable = true → d.canLay0 = true → d.hasDict = false → d.leavesShort 1921 = true
  | .none, _, _, _ => rfl
  | .bool _, _, _, _ => rfl
  | .int i, h, _, _ => by
    have h1 : i.natAbs.log2 < 1920 := by simpa only [PyData.showable, decide_eq_true_eq] using h
    have h2 := PyProof.Rows.int_text_len_1921 h1
    simp only [PyData.leavesShort, decide_eq_true_eq]
    exact h2
  | .str x, _, h, _ => PyData.leavesShort_of_canLay0 1921 (.str x) h (by simp [PyData.intsShort])
  | .list xs, h, h2, h3 => by
    simp only [PyData.leavesShort]
    exact leaves_all xs (by simpa only [PyData.showable] using h) (by simpa only [PyData.canLay0] using h2) (by simpa only [PyData.hasDict] using h3)
  | .tuple xs, h, h2, h3 => by
    simp only [PyData.leavesShort]
    exact leaves_all xs (by simpa only [PyData.showable] using h) (by simpa only [PyData.canLay0] using h2) (by simpa only [PyData.hasDict] using h3)
  | .dict kvs, _, _, h3 => by simp [PyData.hasDict] at h3
theorem leaves_all : ∀ ds : List PyData, PyData.showableAll ds = true → PyData.canLayAll0 ds = true → PyData.hasDictAll ds = false → PyData.leavesShortAll 1921 ds = true
  | [], _, _, _ => rfl
  | d :: ds, h, h2, h3 => by
    simp only [PyData.showableAll, Bool.and_eq_true] at h
    simp only [PyData.canLayAll0, Bool.and_eq_true] at h2
    simp only [PyData.hasDictAll, Bool.or_eq_false_iff] at h3
    simp only [PyData.leavesShortAll, Bool.and_eq_true]
    exact ⟨leaves_of_show d h.1 h2.1 h3.1, leaves_all ds h.2 h2.2 h3.2⟩
end
/-- what can be shown: its numbers below 2 ^ 1920, no dict, not too heavy -/
structure Shows (d : PyData) : Prop where
  sh : d.showable = true
  ly : d.canLay0 = true
  nd : d.hasDict = false
  dp : d.depth ≤ 60
  wt : d.weight ≤ 8000
theorem Shows.fits {d : PyData} (S : Shows d) : d.shown.length ≤ sizeLine := by
  have h := PyData.shown_le 1921 (by decide) d (leaves_of_show d S.sh S.ly S.nd)
  have h2 : (1921 + 2) * d.weight ≤ (1921 + 2) * 8000 := Nat.mul_le_mul_left _ S.wt
  rw [sizeLine_eq]
  omega
theorem Shows.shaped {d : PyData} (S : Shows d) : SeqAt.shaped d = true := Bool.and_eq_true_iff.mpr ⟨S.ly, decide_eq_true (by have := S.dp; omega)⟩
section
variable {X : Cx}
/-- repr(x) of a list or a tuple -/
def rRepr (K : PySem.W.Frag) : List V → Hp → VK → Prop := fun xs H Q => ∃ a d, xs = [V.ref a] ∧ Dp K H (.ref a) d ∧ Shows d ∧ Q (.str d.shown) H
theorem cr_repr (hg : X.A.guards = some []) (hu : X.A.units + 64 < cLine) : CallR X (.builtin "repr") (rRepr X.K) := by
  intro pins s σ H xs us Q I r h
  obtain ⟨a, d, rfl, hd, S, q⟩ := h
  rw [Vals.ref1 r]
  obtain ⟨as, rd⟩ := Dp.reads I d (.ref a) (.ref a) hd rfl
  have := S.dp
  refine repr_of_reads' rd S.sh (fun e => by rw [S.nd] at e; cases e) hg (by omega) (fun _ _ e => e) (fun h' u tk hk => ?_) S.fits
  exact ⟨.str d.shown, H, I.kept hk, ⟨u, rfl⟩, q⟩
end
end Sp1

set_option Elab.async false
set_option linter.all false
set_option maxRecDepth 100000
set_option maxHeartbeats 4000000
namespace Sp1
open PySem PySem.W PySem.Spec PyProof.Rows L2
section
variable {prog : Program} {w : World} {A : Around} {E : Value → Shared → Prop} {s : Shared}
/-- min(a, b) of two alike data -/
theorem min_pair_data {a b : Value} {d e : PyData} {as bs : List Addr} {Q : Value → Shared → Prop} (hh : A.handled = none) (ra : Reads s.heap a d as) (rb : Reads s.heap b e bs) (al : AlikeAll [d, e])
    (hu : A.units + 1 + PyData.depthAll [d, e] < cLine) (q : ∀ h' tk, (∀ c o, s.heap.get? c = some o → h'.get? c = some o) → Q (if dataLt e d = true then b else a) { s with heap := h', toks := tk }) :
    wpAny (model prog w) A (call (.builtin "min") [a, b]) Q E s := by
  have nm : (toString "min" ++ toString ".loop" : String) = "min.loop" := by decide
  refine call_function_tree PySem.F.kind_min PySem.F.plain_min PySem.F.entry_min (PySem.F.args_min2 _ _) (wpAny_bind (m := Builtin.Builtins.bindParams "min" ["key", "default"] 0 ⟨[], []⟩) (wpAny_of_eq (a := [none, none]) rfl ?_))
  refine wpAny_bind (m := newTuple [a, b]) (wpAny_newObj_type ?_)
  have hk1 : ∀ c o, s.heap.get? c = some o → (s.heap.push { cls := .type "tuple", data := .seq #[a, b] }).get? c = some o := fun c o x => Heap.get?_push_of_some _ x
  have hT : (s.heap.push { cls := .type "tuple", data := .seq #[a, b] }).IsTuple s.heap.objs.size #[a, b] := ⟨_, Heap.get?_push_size _ rfl, rfl, 0, rfl⟩
  have hr : ReadsAll (s.heap.push { cls := .type "tuple", data := .seq #[a, b] }) (#[a, b] : Array Value).toList [d, e] (as ++ (bs ++ [])) := .cons (Reads.keeps hk1 ra) (.cons (Reads.keeps hk1 rb) .nil)
  generalize s.heap.push { cls := .type "tuple", data := .seq #[a, b] } = h1 at hk1 hT hr ⊢
  refine wpAny_bind (iter_tupleW (A := A.in1) (s := { s with heap := h1, toks := s.toks }) hh hT fun s₂ e2 W st hfp hw hk => wpAny_bind (wpAny_newObj_type ?_))
  rw [nm]
  have nS : s₂.heap.objs.size ∉ [h1.objs.size, s.heap.objs.size] := fun hm => Nat.lt_irrefl _ (hfp _ hm)
  have W0 := W.frame 0 s₂ (s₂.heap.push { cls := .type "list", data := .seq #[] 0 }) s₂.toks st (Nat.le_refl _) fun c _ o x => Heap.get?_push_of_some _ x
  refine wpAny_pure ⟨plainId_quiet PySem.F.plain_min_loop _, codeAny_min_loop_firstH (n := (#[a, b] : Array Value).size) W h1 hw _ (cmpIn_lt (A := A.in1) (s := { s with heap := h1, toks := s.toks }) hr al (by show A.units + 1 + _ < _; exact hu)) s₂.heap.objs.size nS (fresh_in hk) _ (Nat.succ_pos 1)
    (fun c o x => Heap.get?_push_of_some _ (hk c o x)) W0 (Heap.get?_push_size _ rfl) fun v s' hP hm => ?_⟩
  obtain ⟨h', tk, rfl, hk'⟩ := moved_old (s := { s with heap := h1, toks := s.toks }) e2 rfl (Moved.drop_new (tk := s₂.toks) hm (Nat.le_refl _))
  have hv : v = if dataLt e d = true then b else a := by
    have hP' : (#[a, b] : Array Value)[argBest (fun i j => dataLt ([d, e].getD i PyData.none) ([d, e].getD j PyData.none)) 1]? = some v := hP
    have e1 : argBest (fun i j => dataLt ([d, e].getD i PyData.none) ([d, e].getD j PyData.none)) 1 = if dataLt e d = true then 1 else 0 := rfl
    rw [e1] at hP'
    cases hb : dataLt e d
    · rw [hb] at hP'
      exact (Option.some.inj hP').symm
    · rw [hb] at hP'
      exact (Option.some.inj hP').symm
  rw [hv]
  exact q h' tk fun c o x => hk' c o (hk1 c o x)
end
end Sp1

set_option Elab.async false
set_option linter.all false
set_option maxRecDepth 100000
set_option maxHeartbeats 4000000
namespace Sp1
open PySem PySem.W PySem.Spec PyProof.Rows L2
/-- a new, empty set -/
abbrev set0 (w : World) : Obj := { cls := .type "set", dict := none, data := .set #[] 0 (.fresh 0 0 (!w.params.followText "set-order")) }
section
variable {P : Program} {w : World} {A : Around} {E : Value → Shared → Prop} {s : Shared}
/-- filling a new set from a list of ints -/
theorem fill_list {l S : Addr} {vs : Array Value} {h : Heap} (ns : List Int) {R : Result → Shared → Prop} (hh : A.handled = none) (hl : h.IsList l vs) (hS : h.get? S = some (set0 w)) (hlS : l ≠ S) (hv : IntsAre vs.toList ns) (hb : ns.length + 1 < scanBound)
    (h1 : ∀ (h' : Heap) (tk c : Nat), SetR w h' S (fun j => decide (j ∈ ns)) c → c ≤ ns.length → (∀ b o, b ≠ S → h.get? b = some o → h'.get? b = some o) → R (.ok (.ret .none)) { s with heap := h', toks := tk }) :
    codeAny (model P w) A (.builtin "set.update.loop" ⟨[.ref S, .ref h.objs.size], []⟩) R { s with heap := h.push { cls := .type "list_iterator", data := .fields #[.ref l, .int 0 0] }, toks := s.toks } := by
  have lh : l < h.objs.size := by obtain ⟨_, e, _⟩ := hl; exact Heap.lt_size e
  have Sh : S < h.objs.size := Heap.lt_size hS
  have size : vs.size = ns.length := (Array.length_toList.symm).trans (IntsAre.length hv)
  have nS : S ∉ [h.objs.size, l] := fun z => by
    rcases List.mem_cons.mp z with z | z
    · exact absurd z (Nat.ne_of_lt Sh)
    · exact hlS (List.mem_singleton.mp z).symm
  refine set_update_ints (P := P) (A := A) (Walks.list (A := A.in1) hh h.objs.size l (Nat.ne_of_lt lh) vs).toS S nS ns size hb (fun i v e => ?_) vs.size 0 _ rfl (Nat.zero_le _)
    ⟨⟨_, Heap.get?_push_size _ rfl, rfl, rfl⟩, hl.push _⟩ ⟨0, Nat.le_refl 0, setR_new_at (Heap.get?_push_of_some _ hS)⟩ fun s' c m hc r => ?_
  · have hi : i < ns.length := by
      have := (Array.getElem?_eq_some_iff.mp e).1
      omega
    obtain ⟨t, x⟩ := IntsAre.int_at hv i v (by rw [Array.getElem?_toList]; exact e)
    rw [List.getD_eq_getElem?_getD, List.getElem?_eq_getElem hi] at x
    exact ⟨_, t, List.getElem?_eq_getElem hi, x⟩
  · obtain ⟨hp, g, d, tk, os⟩ := s'
    obtain ⟨mh, mg, md, mo, _⟩ := m
    dsimp only at mg md mo mh r
    subst mg md mo
    refine h1 hp tk c r (by omega) fun b o hb e => mh b o (fun z => ?_) (Heap.get?_push_of_some _ e)
    rcases List.mem_cons.mp z with z | z
    · exact hb z
    · exact absurd (List.mem_singleton.mp z) (Nat.ne_of_lt (Heap.lt_size e))
set_option maxHeartbeats 3200000 in
/-- set(l), however l is walked: Φ is what the filling of the new set leaves -/
theorem set_of_walk {l : Addr} {T : String} {od : Option Addr} {dt : Data} {sl : Array (Option Value)} {Φ : Heap → Prop} {Q : Value → Shared → Prop} (hh : A.handled = none) (e1 : s.heap.get? l = some ⟨.type T, od, dt, sl⟩)
    (f8 : isSubtype (.type T) (.type "set") = pure false) (f9 : isSubtype (.type T) (.type "frozenset") = pure false) (ne : (Value.type T == Value.type "dict") = false)
    (walk : ∀ (A' : Around) (R : Result → Shared → Prop) (E' : Value → Shared → Prop), A'.handled = none → (∀ (h' : Heap) (tk : Nat), Φ h' → (∀ b o, s.heap.get? b = some o → h'.get? b = some o) → R (.ok (.ret .none)) { s with heap := h', toks := tk }) →
      wpAny (model P w) A' (pyIter (.ref l)) (fun it z => codeAny (model P w) A' (.builtin "set.update.loop" ⟨[.ref s.heap.objs.size, it], []⟩) R z) E' { s with heap := s.heap.push (set0 w) })
    (q : ∀ (h' : Heap) (tk : Nat), Φ h' → (∀ b o, s.heap.get? b = some o → h'.get? b = some o) → Q (.ref s.heap.objs.size) { s with heap := h', toks := tk }) :
    wpAny (model P w) A (call (.type "set") [.ref l]) Q E s := by
  obtain ⟨c, tl, mro⟩ := PySem.F.called_set.mro
  have f1 := PySem.F.called_set.made
  have f2 := PySem.F.called_set.sub
  have f3 := PySem.F.called_set.notType
  have f4 := PySem.F.called_set.canCreate
  have f5 := PySem.F.typeCall_set_1 (.ref l)
  refine wpAny_call (codeAny_of_tree (wpAny_pure ⟨Code.quiet_builtin _ (by decide +kernel), codeAny_builtin PySem.F.entry_type_call ?_⟩))
  rw [Around.under_plain (weight_type_call_type "set" [.ref l] []) rfl]
  repeat (any_goals (first | assumption | wp_step))
  have hS : (s.heap.push (set0 w)).get? s.heap.objs.size = some (set0 w) := Heap.get?_push_size _ rfl
  have hk : ∀ b o, s.heap.get? b = some o → (s.heap.push (set0 w)).get? b = some o := fun b o e => Heap.get?_push_of_some _ e
  refine codeAny_mono (code_set_led1 (w := w) (.ref l) (E := E) (Q₁ := fun x z => x = .ref s.heap.objs.size ∧ z = { s with heap := s.heap.push (set0 w) }) ⟨rfl, rfl⟩) fun r z hr => ?_
  cases r with
  | error e => exact hr
  | ok fl =>
    cases fl with
    | next => exact hr.elim
    | brk => exact hr.elim
    | cont => exact hr.elim
    | ret x =>
      obtain ⟨rfl, rfl⟩ := hr
      have ty : Shared.TypeIs { s with heap := s.heap.push (set0 w) } (.ref s.heap.objs.size) "set" := ⟨_, hS, rfl⟩
      have f6 := PySem.F.called_set.init.lookup
      have f7 := PySem.F.called_set.init.bind (.ref s.heap.objs.size)
      repeat (any_goals (first | assumption | wp_step))
      refine codeAny_mono (codeAny_call_builtin (R := wants (fun r z => r = .none ∧ ∃ h' tk, z = { s with heap := h', toks := tk } ∧ Φ h' ∧ ∀ b o, s.heap.get? b = some o → h'.get? b = some o) E)
        PySem.F.called_set.init.plain PySem.F.entry_set_init (check_set_init_1 ty ?fill)) fun r z hr => ?back
      case back =>
        cases r with
        | error e => exact hr
        | ok fl =>
          cases fl with
          | next => exact hr.elim
          | brk => exact hr.elim
          | cont => exact hr.elim
          | ret x =>
            obtain ⟨rfl, h', tk, rfl, r1, r2⟩ := hr
            repeat (any_goals (first | assumption | wp_step))
            exact q h' tk r1 r2
      case fill =>
        have e4 := hk _ _ e1
        unfold Builtin.«set.__init__» noKeywords Builtin.Frozenset.updateFrom
        generalize hp : pyIter = PI
        wp_walk
        subst hp
        refine wpAny_mono (walk _ (fun r z => ∃ h' tk, r = .ok (.ret .none) ∧ z = { s with heap := h', toks := tk } ∧ Φ h' ∧ ∀ b o, s.heap.get? b = some o → h'.get? b = some o) _ (by simp [hh]) fun h' tk f k => ⟨h', tk, rfl, rfl, f, k⟩) (fun it z h => wpAny_bind (wpAny_runValue (codeAny_mono h fun r z hz => ?_))) fun _ _ e => e
        obtain ⟨h', tk, rfl, rfl, f, k⟩ := hz
        show wpAny _ _ _ _ _ _
        refine wpAny_pure ?_
        show wpAny _ _ (ret Value.none) _ _ _
        exact wpAny_pure ⟨rfl, h', tk, rfl, f, k⟩
end
end Sp1

set_option Elab.async false
set_option linter.all false
set_option maxRecDepth 100000
set_option maxHeartbeats 4000000
namespace Sp1
open PySem PySem.Spec PyProof.Rows L2
section
variable {X : Cx}
/-- set(l) of a list of ints -/
def rSetI (K : PySem.W.Frag) (w : World) : List V → Hp → VK → Prop := fun xs H Q => ∃ (l : Addr) (ns : List Int), xs = [V.ref l] ∧ SqL K H l (ns.map V.int) ∧ ns.length ≤ 1000 ∧
  ∀ (a : Addr) (n : Nat), H a = none → n ≤ ns.length → Q (.ref a) (upd H a (SetO w a (fun j => decide (j ∈ ns)) n))
theorem cr_setI (hc : X.calm = true) : CallR X (.type "set") (rSetI X.K X.w) := by
  intro pins s σ H xs us Q I r h
  obtain ⟨l, ns, rfl, hl, h1000, q⟩ := h
  rw [Vals.ref1 r]
  obtain ⟨its, rv, pl, hz⟩ := I.list hl
  obtain ⟨⟨oc, od, dt, os⟩, e1, e2, n, e3⟩ := id pl.isList
  dsimp only at e2 e3
  subst e2 e3
  have hlt : ∀ b o, s.heap.get? b = some o → b ≠ s.heap.objs.size := fun b o e => Nat.ne_of_lt (Heap.lt_size e)
  refine set_of_walk (Φ := fun h' => ∃ c, c ≤ ns.length ∧ SetR X.w h' s.heap.objs.size (fun j => decide (j ∈ ns)) c) (I.ok.hd hc) e1 PySem.F.sub_list_set PySem.F.sub_list_frozenset (by decide) (fun A' R E' hh hR => ?_) fun h' tk ⟨c, hcn, S⟩ k => ?_
  · have hl1 : (s.heap.push (set0 X.w)).IsList l its.toArray := ⟨_, Heap.get?_push_of_some _ e1, rfl, n, rfl⟩
    refine wpAny_pyIter_list hl1 ?_
    exact fill_list (s := { s with heap := s.heap.push (set0 X.w) }) (h := s.heap.push (set0 X.w)) ns hh hl1 (Heap.get?_push_size _ rfl) (hlt _ _ e1) (by simpa using RZ.intsAre_vals rv) (by unfold scanBound; omega) fun h' tk c r hc k =>
      hR h' tk ⟨c, hc, r⟩ fun b o e => k b o (hlt b o e) (Heap.get?_push_of_some _ e)
  · exact ⟨.ref _, upd H s.heap.objs.size (SetO X.w s.heap.objs.size (fun j => decide (j ∈ ns)) c), I.laid (t' := tk) k (Nat.le_refl _) (setO_new S), rfl, q _ _ (I.hok.fresh (Nat.le_refl _)) hcn⟩
/-- min(x, y) of two alike data -/
def rMin2D (K : PySem.W.Frag) : List V → Hp → VK → Prop := fun xs H Q => ∃ (x y : V) (d e : PyData), xs = [x, y] ∧ Dp K H x d ∧ Dp K H y e ∧ PySem.W.AlikeAll [d, e] ∧ PyData.depthAll [d, e] ≤ 60 ∧ Q (if PySem.W.dataLt e d = true then y else x) H
theorem cr_min2D (hc : X.calm = true) (hu : X.A.units + 64 < cLine) : CallR X (.builtin "min") (rMin2D X.K) := by
  intro pins s σ H xs us Q I r h
  obtain ⟨x, y, d, e, rfl, hx, hy, al, hd, q⟩ := h
  match us, r with
  | [u, v], .cons r1 (.cons r2 .nil) =>
    obtain ⟨as, ra⟩ := Dp.reads I d x u hx r1
    obtain ⟨bs, rb⟩ := Dp.reads I e y v hy r2
    refine min_pair_data (I.ok.hd hc) ra rb al (by omega) fun h' tk k => ?_
    refine ⟨_, H, I.kept k, ?_, q⟩
    split
    · exact r2
    · exact r1
end
end Sp1

set_option Elab.async false
set_option linter.all false
set_option maxRecDepth 100000
set_option maxHeartbeats 4000000
namespace Sp1
open PySem PySem.Spec PyProof.Rows L2
/-! a def that asks which lists and tuples are being shown: its promise where none is -/
structure FnOkG (P : Program) (w : World) (K : PySem.W.Frag) (mg : Str → Option Value) (base : Heap) (CX : CXT) (k : Nat) (f : Addr) (fd : FuncData) (ps : List Str) (sp : Sp) : Prop where
  len : ∀ vs H Q E, sp vs H Q E → vs.length = ps.length
  run : ∀ (A : Around) (outer : List Env) (s : Shared) (H : Hp) (args : Args) (us : List Value) (vs : List V) (Q : VK) (E : XK), A.guards = some [] → Room k A → Env0 P w K mg base A outer s H → BindsTo s fd args (ps.zip us) → Vals vs us →
    sp vs H Q E → codeAny (model P w) A (.call (.ref f) args) (CR CX outer P w H s Q E) s
theorem FnOk.toG {P : Program} {w : World} {K : PySem.W.Frag} {mg : Str → Option Value} {base : Heap} {CX : CXT} {k : Nat} {f : Addr} {fd : FuncData} {ps : List Str} {sp : Sp} (F : FnOk P w K mg base CX k f fd ps sp) : FnOkG P w K mg base CX k f fd ps sp :=
  ⟨F.len, fun A outer s H args us vs Q E _ => F.run A outer s H args us vs Q E⟩
theorem FnOkG.mono {P : Program} {w : World} {K : PySem.W.Frag} {mg : Str → Option Value} {base : Heap} {CX : CXT} {j k : Nat} {f : Addr} {fd : FuncData} {ps : List Str} {sp : Sp} (F : FnOkG P w K mg base CX j f fd ps sp) (h : j ≤ k) : FnOkG P w K mg base CX k f fd ps sp :=
  ⟨F.len, fun A outer s H args us vs Q E g hr => F.run A outer s H args us vs Q E g (hr.mono h)⟩
theorem fnG_of {CX : CXT} {P : Program} {w : World} {K : PySem.W.Frag} {mg : Str → Option Value} {base : Heap} {k : Nat} {f : Addr} {name qual : Str} {params : Arguments} {body : List Stmt} {scope : Scope} {dV kV doc pm cdv ct oc : Value} {an od : Option Addr} {osl : Array (Option Value)} {N ps : List Str} {sp : Sp}
    (lk : K.lookup f = some ⟨oc, od, .func (PySem.W.fnOf name qual params body scope dV kV doc pm an cdv ct), osl⟩) (hcd : PySem.W.codeIn K cdv qual = true) (S : FnScope N ps scope) (len : ∀ vs H Q E, sp vs H Q E → vs.length = ps.length)
    (hbody : ∀ (A : Around) (outer : List Env) (s : Shared) (H : Hp) (vs : List V) (Q : VK) (E : XK), A.guards = some [] → Room k (A.deeper (envOfC qual scope s.heap.objs.size f cdv)) → sp vs H Q E →
      ∃ t, PSs (cxOf CX P w K mg base N qual scope f cdv A outer s H E) body t ∧ t { nx := fun _ H' => Q .non H', rt := Q } (start N vs) H) :
    FnOkG P w K mg base CX (k + 1) f (PySem.W.fnOf name qual params body scope dV kV doc pm an cdv ct) ps sp := by
  refine ⟨len, fun A outer s H args us vs Q E hg hr e0 hb r hsp => ?_⟩
  have keep : ∀ b o, base.get? b = some o → s.heap.get? b = some o := fun b o e => (e0.bs b o e).1
  have hkind : ∀ y ∈ ps.zip us, scope.names.lookup y.1 = some .local ∨ (scope.names.lookup y.1 = some .cell ∧ ((cellsFrom (s.heap.objs.size + 1) scope.names []).lookup y.1).isSome = true) := fun y hy =>
    (S.par y.1 (List.of_mem_zip hy).1).imp id fun q => ⟨q, PySem.W.cellsFrom_some _ _ _ (.inl q)⟩
  refine codeAny_call_function hr.depth ((e0.mod.kin.keeps keep) _ _ lk) rfl S.co S.gen rfl (PySem.W.codeRec_of (e0.mod.kin.keeps keep) hcd) (hb _ _ _ _ (wpAny_newFunctionEnv_cells S.kind hkind fun env he s1 x => ?_))
  subst he
  refine ⟨(e0.mod.nolimit.keeps keep).keeps x.toInCall.keep, codeAny_func ?_⟩
  obtain ⟨t, ht, hq⟩ := hbody A outer s H vs Q E hg (hr.deeper _) hsp
  refine wpAny_mono (ht.run [] s1 (start N vs) H _ (inv_start S hr.hd e0 (len _ _ _ _ hsp) r x) hq) (fun fl s' hs => ?_) fun e s' hs => hs
  match fl, hs with
  | .ret u, ⟨v, σ', H', J, rv, q⟩ => exact ⟨v, H', J.os, J.bare, J.base, J.hok, rv, q⟩
  | .next, ⟨σ', H', J, q⟩ => exact ⟨V.non, H', J.os, J.bare, J.base, J.hok, rfl, q⟩
  | .brk, ⟨_, _, _, q⟩ => exact False.elim q
  | .cont, ⟨_, _, _, q⟩ => exact False.elim q
section
variable {P : Program} {w : World} {K : PySem.W.Frag} {mg : Str → Option Value} {base : Heap}
theorem Fun.okG {x qual : Str} {st : Stmt} {f : Addr} {fd : FuncData} {N ps : List Str} {k : Nat} {sp : Sp} (F : Fun K x qual st f fd) (S : FnScope N ps (defScope st)) (len : ∀ vs H Q E, sp vs H Q E → vs.length = ps.length)
    (hbody : ∀ (cdv : Value) (A : Around) (outer : List Env) (s : Shared) (H : Hp) (vs : List V) (Q : VK) (E : XK), A.guards = some [] → Room k (A.deeper (envOfC qual (defScope st) s.heap.objs.size f cdv)) → sp vs H Q E →
      ∃ t, PSs (cxOf CX0 P w K mg base N qual (defScope st) f cdv A outer s H E).nox (defBody st) t ∧ t { nx := fun _ H' => Q .non H', rt := Q } (start N vs) H) : FnOkG P w K mg base CX0 (k + 1) f fd ps sp := by
  obtain ⟨oc, od, kV, doc, pm, an, cdv, ct, osl, rfl, lk, hcd⟩ := F.ex
  exact fnG_of lk hcd S len fun A outer s H vs Q E hg hr hsp => (hbody cdv A outer s H vs Q E hg hr hsp).imp fun t h => ⟨h.1.nox, h.2⟩
end
section
variable {X : Cx} {CX : CXT} {k : Nat} {f C : Addr} {fd : FuncData} {ps : List Str} {sp : Sp} {dvs : List V} {ds : List Value} {E : XK} {x m : Str} {p pos apos : Pos} {e o : Expr} {es : List Expr} {ta : TE} {t : TA}
theorem run_fnG {pins : List (Addr × Obj)} {σ : L2.St} {H : Hp} {s : Shared} {Q : VK} {us : List Value} {vs : List V} (F : FnOkG X.prog X.w X.K X.mg X.base CX k f fd ps sp) (g : X.A.guards = some []) (hr : Room k X.A) (hb : Binds X.K fd ps ds) (hd : Vals dvs ds) (hx : Passes CX X E)
    (I : Inv X pins σ H s) (r : Vals vs us) (h : sp (vs ++ dvs) H Q E) : wpAny (model X.prog X.w) X.A (call (.ref f) us) (EP X pins σ Q) X.xe s := by
  have r2 := r.append hd
  refine wpAny_call (codeAny_mono (F.run X.A X.stack s H ⟨us, []⟩ (us ++ ds) (vs ++ dvs) Q E g hr I.env0 (hb s us I.kIn (by rw [← r2.length]; exact F.len _ _ _ _ h)) r2 h) fun r s' hq => ?_)
  match r, hq with
  | .error e, hq => exact hx pins σ H s e s' I hq
  | .ok (.ret u), hq => exact I.after hq
theorem pe_callG (F : FnOkG X.prog X.w X.K X.mg X.base CX k f fd ps sp) (g : X.A.guards = some []) (hr : Room k X.A) (hg : Gl X x) (hm : X.mg x = some (.ref f)) (hk : PySem.W.keepIn X.K (.ref f) = true) (hb : Binds X.K fd ps ds) (hd : Vals dvs ds) (hx : Passes CX X E)
    (ha : PA X (e :: es) t) (hdb : (x == ("__debug__" : Str)) = false := by decide) (he : starEach (e :: es) X.env = (false, eval e X.env) :: starEach es X.env := by rfl) (hpl : (backTo pos (starEach es X.env)).any (·.1) = false := by rfl) :
    PE X (.Call (.Name x p) (e :: es) [] pos) (tCall sp dvs E t) := ⟨fun pins s σ H Q I h => wpAny_Call_Name_kw (ld_glob I hg hm (PySem.W.callWith_K (h₀ := X.base) I.ok.mod.kin hk
    (thn (ha.run pos pins s σ H _ I h) fun us s1 ⟨vs, H1, I1, r, q⟩ => ⟨I1.kIn, run_fnG F g hr hb hd hx I1 r q⟩) he hpl) hdb)⟩
end
/-! the head -/
section
variable {P : Program} {w : World} {K : PySem.W.Frag} {mg mb : Str → Option Value}
/-- the state behind the top, the script alone told -/
theorem env_top {a : Addr} {vs : List Value} {z : Shared} {H : Hp} (KX : K.In z.heap) (hn : z.heap.Ns mainGlobals mg) (hb : z.heap.Ns builtinsNs mb) (hbb : ∀ x : Str, x ≠ "__name__" → mb x = bootBuiltins x) (hm : z.heap.NoLimit) (hg : z.gens = #[])
    (ha : z.heap.get? a = some { cls := .type "list", data := .seq vs.toArray }) (ok : HOk P w H z.heap) (hA : ∀ b, H b ≠ none → b = a) (hK : H a ≠ none → K.lookup a = none) : K.In (hidT z.heap H) ∧ (hidT z.heap H).Ns mainGlobals mg ∧ Env0 P w K mg (hidT z.heap H) callerA [] z H := by
  have off : ∀ {b : Addr} {o : Obj} {es : Array DictEntry} {n : Nat}, z.heap.get? b = some o → o.data = .dict es n → H b = none := fun {b o es n} e d => by
    rcases Option.eq_none_or_eq_some (H b) with q | ⟨u, q⟩
    · exact q
    · obtain rfl := hA b (by rw [q]; exact fun z => nomatch z)
      rw [ha] at e
      cases e
      cases d
  have ns : ∀ {b : Addr} {m : Str → Option Value}, z.heap.Ns b m → (hidT z.heap H).Ns b m := fun {b m} ⟨o, es, n, e, d, r⟩ => ⟨o, es, n, hidT_get e (off e d), d, r⟩
  have kin : K.In (hidT z.heap H) := fun b o e => by
    refine hidT_get (KX b o e) ?_
    rcases Option.eq_none_or_eq_some (H b) with q | ⟨u, q⟩
    · exact q
    · obtain rfl := hA b (by rw [q]; exact fun z => nomatch z)
      rw [hK (by rw [q]; exact fun z => nomatch z)] at e
      cases e
  obtain ⟨mc, l1, l2⟩ := hm
  exact ⟨kin, ns hn, rfl, ⟨kin, ns hn, ⟨mb, ns hb, hbb⟩, mc, ns l1, l2⟩, fun b o e => of_hidT e, Nat.le_of_eq (hidT_size _ _), trivial, (fun b hb => by cases hb), ok, .of_eq hg⟩
theorem law_callG {CX : CXT} {k : Nat} {fa a : Addr} {fd : FuncData} {x : Str} {sp : Sp} {z : Shared} {vs : List Value} {ns : List Int}
    (KX : K.In z.heap) (hn : z.heap.Ns mainGlobals mg) (hb : z.heap.Ns builtinsNs mb) (hbb : ∀ x : Str, x ≠ "__name__" → mb x = bootBuiltins x) (hm : z.heap.NoLimit) (hg : z.gens = #[])
    (ha : z.heap.get? a = some { cls := .type "list", data := .seq vs.toArray }) (hi : IntsAre vs ns) (hl : ns.length ≤ sizeLine) (hr : Room k callerA)
    (F : ∀ base : Heap, K.In base → base.Ns mainGlobals mg → FnOkG P w K mg base CX k fa fd [x] sp) (bind : ∀ (s : Shared) (u : Value), BindsTo s fd ⟨[u], []⟩ [(x, u)])
    (hsp : ∀ H : Hp, Only H → SqL K H a (ns.map V.int) → sp [.ref a] H (fun v _ => v = .bl true) fun _ _ _ => False) (hCX : ∀ H e s', CX [] H z (fun _ _ _ => False) e s' → False) :
    codeAny (model P w) callerA (.call (.ref fa) ⟨[.ref a], []⟩) (fun r s' => r = .ok (.ret (.bool true)) ∧ OldK z.heap s'.heap ∧ s'.os = z.os ∧ AllBare s'.gens) z := by
  have rv := vals_ints hi
  have from_ : ∀ H : Hp, Only H → SqL K H a (ns.map V.int) → HOk P w H z.heap → (∀ b, H b ≠ none → b = a) → (H a ≠ none → K.lookup a = none) →
      codeAny (model P w) callerA (.call (.ref fa) ⟨[.ref a], []⟩) (fun r s' => r = .ok (.ret (.bool true)) ∧ OldK z.heap s'.heap ∧ s'.os = z.os ∧ AllBare s'.gens) z := by
    intro H hO hS ok hA hK
    obtain ⟨k1, k2, e0⟩ := env_top KX hn hb hbb hm hg ha ok hA hK
    refine codeAny_mono ((F _ k1 k2).run callerA [] z H _ [.ref a] [.ref a] _ _ rfl hr e0 (bind z (.ref a)) (.cons rfl .nil) (hsp H hO hS)) fun r s' h => ?_
    match r, h with
    | .error e, h => exact (hCX H e s' h).elim
    | .ok (.ret u), ⟨v, H', os, bare, un, ok', r', (q : v = V.bl true)⟩ =>
      subst q
      refine ⟨congrArg (fun t => Except.ok (Flow.ret t)) (show u = Value.bool true from r'), OldK.of_keep fun b o e => ?_, os, bare⟩
      rcases hO b with q | ⟨ob, xs, q⟩
      · exact un.keep b o e q (fun y => nomatch y) (fun y => nomatch y)
      · obtain ⟨e1, _⟩ := ok b _ q
        obtain ⟨e2, _⟩ := ok' b _ (un.frzs b ob _ q)
        rw [← Option.some.inj (e.symm.trans e1)] at e2
        exact e2
  rcases Option.eq_none_or_eq_some (K.lookup a) with hk | ⟨o, hk⟩
  · refine from_ (fun b => if b = a then some (.frz { cls := .type "list", data := .seq vs.toArray } (.lst (ns.map V.int))) else none) (fun b => ?_) (.inl (.inr ⟨_, if_pos rfl⟩)) (fun b u y => ?_) (fun b y => ?_) fun _ => hk
    · rcases Decidable.em (b = a) with e | e
      · exact .inr ⟨_, _, if_pos e⟩
      · exact .inl (if_neg e)
    · rcases Decidable.em (b = a) with e | e
      · have y' := (if_pos e).symm.trans y
        cases y'
        subst e
        exact ⟨ha, by rw [List.length_map]; exact hl, vs, _, rv, ha⟩
      · have y' := (if_neg e).symm.trans y
        cases y'
    · rcases Decidable.em (b = a) with e | e
      · exact e
      · exact absurd (if_neg e) y
  · have e := Option.some.inj ((KX a o hk).symm.trans ha)
    subst e
    exact from_ (fun _ => none) (fun _ => .inl rfl) (.inr ⟨_, vs.toArray, _, hk, rfl, rfl, rfl, by rw [List.size_toArray, hi.length]; exact hl, by simpa using rv⟩) (fun b u y => by cases y) (fun b y => absurd rfl y) fun y => absurd rfl y
end
theorem walk_ofG {l : PySem.W.OpenLaw} {n k : Nat} {q : Program} {loose : List Str} {XP : (Str → Option Value) → Heap → Prop} {YP : World → Heap → Prop} {d : DefRec} {K : Params → PySem.W.Frag} {CX : World → CXT} {sp : World → Sp} {x : Str}
    (hn : l.most = some n) (hn2 : n ≤ sizeLine) (hdf : d.params.defaults = []) (hr : Room k callerA) (hY : ∀ (w : World) (h : Heap), YP w h → (K w.params).In h)
    (F : ∀ (w : World) (mg : Str → Option Value) (fa : Addr) (h : Heap), (K w.params).In h → h.Ns mainGlobals mg → mg d.name = some (.ref fa) →
      ∃ fd : FuncData, (∀ (s : Shared) (u : Value), BindsTo s fd ⟨[u], []⟩ [(x, u)]) ∧ ∀ base : Heap, (K w.params).In base → base.Ns mainGlobals mg → FnOkG l.prog w (K w.params) mg base (CX w) k fa fd [x] (sp w))
    (hsp : ∀ (w : World) (H : Hp) (a : Addr) (ns : List Int), ns.length ≤ n → (∀ z ∈ ns, Builtin.Int.intBits z ≤ 1048576) → Only H → SqL (K w.params) H a (ns.map V.int) → sp w [.ref a] H (fun v _ => v = .bl true) fun _ _ _ => False)
    (hCX : ∀ (w : World) (H : Hp) (s : Shared) (e : Value) (s' : Shared), CX w [] H s (fun _ _ _ => False) e s' → False) : PySem.W.WalkO q loose XP YP l.row.toRowW d [] (fun f vs => PySem.call f vs) :=
  Att.attach_callB hn hdf fun w s₀ s₁ mg mb fa o pm cd doc a vs ns G Y ho hd hcd hmg hobj hints hlen hbits hg =>
    have ⟨fd, hb, hF⟩ := F w mg fa _ (hY w _ Y) G.T.g hmg
    law_callG (hY w _ Y) G.T.g G.T.b G.T.builtins G.T.nolimit hg hobj hints (Nat.le_trans hlen hn2) hr hF hb (fun H hO hS => hsp w H a ns hlen hbits hO hS) fun H e s' => hCX w H s₁ e s'
end Sp1

set_option Elab.async false
set_option linter.all false
set_option maxRecDepth 100000
set_option maxHeartbeats 4000000
namespace Pg
open PySem
/-! sums, expressions, statements, as data -/
structure Sm where
  c : Int
  ts : List (Int × Str)
  d : Int
inductive Ex where
  | sum (s : Sm)
  | read
  | two (w : Str) (a b : Sm)
inductive St where
  | set (x : Str) (e : Ex)
  | swap (x y : Str)
  | print (e : Ex)
  | call (p : Str)
  | ite (e : Ex) (a b : List St)
  | whl (e : Ex) (b : List St)
  | rep (e : Ex) (b : List St)
abbrev sD (x : Str) : PyData := .str x
def tD (t : Int × Str) : PyData := .tuple [.int t.1, .str t.2]
def Sm.D (s : Sm) : PyData := .tuple [.str "sum", .int s.c, .tuple (s.ts.map tD), .int s.d]
def Ex.D : Ex → PyData
  | .sum s => s.D
  | .read => .tuple [.str "read"]
  | .two w a b => .tuple [.str w, a.D, b.D]
mutual
def St.D : St → PyData
  | .set x e => .tuple [.str "set", .str x, e.D]
  | .swap x y => .tuple [.str "swap", .str x, .str y]
  | .print e => .tuple [.str "print", e.D]
  | .call p => .tuple [.str "call", .str p]
  | .ite e a b => .tuple [.str "if", e.D, .tuple (blD a), .tuple (blD b)]
  | .whl e b => .tuple [.str "while", e.D, .tuple (blD b)]
  | .rep e b => .tuple [.str "repeat", e.D, .tuple (blD b)]
def blD : List St → List PyData
  | [] => []
  | s :: r => s.D :: blD r
end
theorem blD_map : ∀ b : List St, blD b = b.map St.D
  | [] => rfl
  | s :: r => by rw [blD, blD_map r]; rfl
def bD (b : List St) : PyData := .tuple (b.map St.D)
/-! data of tuples, texts, numbers and None alone -/
mutual
def tupD : PyData → Bool
  | .none | .bool _ | .int _ => true
  | .str x => PyData.canLay0 (.str x)
  | .list _ | .dict _ => false
  | .tuple ds => tupAll ds
def tupAll : List PyData → Bool
  | [] => true
  | d :: ds => tupD d && tupAll ds
end
theorem tupAll_iff {ds : List PyData} : tupAll ds = true ↔ ∀ d ∈ ds, tupD d = true := by
  induction ds with
  | nil => simp [tupAll]
  | cons d r ih => simp [tupAll, ih]
mutual
theorem tupD_lay : ∀ d : PyData, tupD d = true → d.canLay0 = true
  | .none, _ => rfl
  | .bool _, _ => rfl
  | .int _, _ => rfl
  | .str x, h => by simpa [tupD] using h
  | .list _, h => by simp [tupD] at h
  | .dict _, h => by simp [tupD] at h
  | .tuple ds, h => by
    simp only [PyData.canLay0]
    exact tupAll_lay ds (by simpa [tupD] using h)
theorem tupAll_lay : ∀ ds : List PyData, tupAll ds = true → PyData.canLayAll0 ds = true
  | [], _ => rfl
  | d :: r, h => by
    simp only [tupAll, Bool.and_eq_true] at h
    simp only [PyData.canLayAll0, Bool.and_eq_true]
    exact ⟨tupD_lay d h.1, tupAll_lay r h.2⟩
end
theorem depthAll_le {ds : List PyData} {n : Nat} (h : ∀ d ∈ ds, d.depth ≤ n) : PyData.depthAll ds ≤ n := by
  induction ds with
  | nil => exact Nat.zero_le _
  | cons d r ih =>
    simp only [PyData.depthAll]
    exact Nat.max_le.mpr ⟨h d List.mem_cons_self, ih fun x hx => h x (List.mem_cons_of_mem _ hx)⟩
theorem depthAll_mem {ds : List PyData} {d : PyData} (h : d ∈ ds) : d.depth ≤ PyData.depthAll ds := by
  induction ds with
  | nil => cases h
  | cons x r ih =>
    simp only [PyData.depthAll]
    rcases List.mem_cons.mp h with rfl | h
    · exact Nat.le_max_left _ _
    · exact Nat.le_trans (ih h) (Nat.le_max_right _ _)
theorem shaped_of {d : PyData} (h : tupD d = true) (n : d.depth ≤ 64) : SeqAt.shaped d = true := Bool.and_eq_true_iff.mpr ⟨tupD_lay d h, decide_eq_true n⟩
theorem shaped_list {ds : List PyData} (h : ∀ d ∈ ds, tupD d = true) (n : ∀ d ∈ ds, d.depth ≤ 63) : SeqAt.shaped (.list ds) = true := by
  have h1 : PyData.canLayAll0 ds = true := tupAll_lay ds (tupAll_iff.mpr h)
  have h2 := depthAll_le n
  exact Bool.and_eq_true_iff.mpr ⟨by simp only [PyData.canLay0]; exact h1, decide_eq_true (by simp only [PyData.depth]; omega)⟩
/-! names -/
/-- one to eight letters, no word of the language -/
def words : List Str := ["given", "var", "proc", "main", "end", "set", "swap", "print", "if", "else", "while", "repeat", "call", "read", "product", "quotient", "remainder", "less", "same"]
def pairWords : List Str := ["product", "quotient", "remainder", "less", "same"]
structure Nm (x : Str) : Prop where
  l1 : 1 ≤ x.length
  l8 : x.length ≤ 8
  ch : ∀ c ∈ x.cps.toList, 97 ≤ c ∧ c ≤ 122
  nw : x ∉ words
theorem str_lay {x : Str} (h : ∀ c ∈ x.cps.toList, c < 0x110000) : tupD (.str x) = true := by
  simp only [tupD, PyData.canLay0, PyData.strOk]
  rw [Array.all_eq_true_iff_forall_mem]
  intro c hc
  exact decide_eq_true (h c (Array.mem_toList_iff.mpr hc))
theorem Nm.tup {x : Str} (h : Nm x) : tupD (.str x) = true := str_lay fun c hc => by have := h.ch c hc; omega
def sLt (a b : Str) : Prop := a.cps.toList < b.cps.toList
/-! what a program may hold -/
def great : Int := 10 ^ 300
structure Sm.Ok (names : List Str) (s : Sm) : Prop where
  nz : ∀ t ∈ s.ts, t.1 ≠ 0 ∧ t.2 ∈ names
  asc : (s.ts.map (·.2)).Pairwise sLt
  dp : 1 ≤ s.d
  len : s.ts.length ≤ 60
  gcd : ((s.ts.map (·.1)).foldl (fun (a : Nat) x => Nat.gcd a x.natAbs) (Nat.gcd (Nat.gcd 0 s.c.natAbs) s.d.natAbs)) = 1
  sh : ∀ x ∈ s.c :: s.d :: s.ts.map (·.1), -great < x ∧ x < great
def Ex.Ok (names : List Str) : Ex → Prop
  | .sum s => s.Ok names
  | .read => True
  | .two w a b => w ∈ pairWords ∧ a.Ok names ∧ b.Ok names
mutual
/-- a statement in at most n further blocks -/
def St.Ok (names procs : List Str) : Nat → St → Prop
  | _, .set x e => x ∈ names ∧ e.Ok names
  | _, .swap x y => x ∈ names ∧ y ∈ names ∧ y ≠ x
  | _, .print e => e.Ok names
  | _, .call p => p ∈ procs
  | n, .ite e a b => e.Ok names ∧ ∃ m, n = m + 1 ∧ blOk names procs m a ∧ blOk names procs m b
  | n, .whl e b => e.Ok names ∧ ∃ m, n = m + 1 ∧ blOk names procs m b
  | n, .rep e b => e.Ok names ∧ ∃ m, n = m + 1 ∧ blOk names procs m b
def blOk (names procs : List Str) : Nat → List St → Prop
  | _, [] => True
  | n, s :: r => St.Ok names procs n s ∧ blOk names procs n r
end
theorem blOk_iff {names procs : List Str} {n : Nat} : ∀ {b : List St}, blOk names procs n b ↔ ∀ s ∈ b, St.Ok names procs n s
  | [] => by simp [blOk]
  | s :: r => by simp [blOk, blOk_iff (b := r)]
/-! code -/
def goD (n w : Int) : PyData := .tuple [.str "go", .int n, .int w]
mutual
def St.code : St → Int → List PyData
  | .ite e a b, n => .tuple [.str "test", e.D, .int (n + 1 + (blCode a (n + 1)).length + 1)] :: (blCode a (n + 1) ++ (goD (n + 1 + (blCode a (n + 1)).length + 1 + (blCode b (n + 1 + (blCode a (n + 1)).length + 1)).length + 1) 1 :: (blCode b (n + 1 + (blCode a (n + 1)).length + 1) ++ [goD (n + 1 + (blCode a (n + 1)).length + 1 + (blCode b (n + 1 + (blCode a (n + 1)).length + 1)).length + 1) 0])))
  | .whl e b, n => goD (n + 1) 0 :: .tuple [.str "test", e.D, .int (n + 1 + 1 + (blCode b (n + 1 + 1)).length + 1)] :: (blCode b (n + 1 + 1) ++ [goD (n + 1) 1])
  | .rep e b, n => .tuple [.str "begin", e.D] :: .tuple [.str "turn", .int (n + 1 + 1 + (blCode b (n + 1 + 1)).length + 1)] :: (blCode b (n + 1 + 1) ++ [.tuple [.str "again", .int (n + 1)]])
  | .set x e, _ => [St.D (.set x e)]
  | .swap x y, _ => [St.D (.swap x y)]
  | .print e, _ => [St.D (.print e)]
  | .call p, _ => [St.D (.call p)]
def blCode : List St → Int → List PyData
  | [], _ => []
  | s :: r, n => s.code n ++ blCode r (n + (s.code n).length)
end
end Pg

set_option Elab.async false
set_option linter.all false
set_option maxRecDepth 100000
set_option maxHeartbeats 4000000
namespace Sp1
open PySem PySem.W PySem.Spec PyProof.Rows L2
/-! sets of texts: made from texts that differ, counted, sorted -/
def skey (e : Int × Value) : Str := match e.2 with
  | .str x _ => x
  | _ => Str.empty
def GoodT (w : World) (e : Int × Value) : Prop := ∃ x tk, e.2 = Value.str x tk ∧ e.1 = hashStr w x
/-- the set of the texts xs (in some order) at a -/
structure SetS (w : World) (h : Heap) (a : Addr) (xs : List Str) : Prop where
  nd : xs.Nodup
  at_ : ∃ o es ep t, h.get? a = some o ∧ o.ExactSet ∧ o.data = .set es ep t ∧ (∀ e ∈ es.toList, GoodT w e) ∧ (es.toList.map skey).Perm xs ∧ es.size < scanBound ∧ t.fits es.size = true ∧ Ris t.place.toList ∧ (w.params.followText "set-order" = true ∨ t.led = true)
theorem SetS.keeps {w : World} {h h' : Heap} {a : Addr} {xs : List Str} (S : SetS w h a xs) (k : ∀ o, h.get? a = some o → h'.get? a = some o) : SetS w h' a xs := by
  obtain ⟨nd, o, es, ep, t, ho, r⟩ := S
  exact ⟨nd, o, es, ep, t, k o ho, r⟩
section
variable {P : Program} {w : World} {A : Around} {E : Value → Shared → Prop} {s : Shared}
theorem good_elemsT {l : List (Int × Value)} (g : ∀ e ∈ l, GoodT w e) : ElemsOf (strKind P w) l := fun e he => by
  obtain ⟨x, tk, h1, h2⟩ := g e he
  refine ⟨⟨x, ?_, h2⟩, ?_⟩
  · rw [h1]
    exact strKind_is P w x tk
  · rw [h1]
    rfl
theorem isStr_iff {x k : Str} {tk : Tok} : (strKind P w).is k (.str x tk) = true ↔ x = k := by
  constructor
  · intro h
    obtain ⟨u, hu⟩ := Value.isStrOf_shape (show Value.isStrOf k (.str x tk) = true from h)
    injection hu
  · rintro rfl
    exact strKind_is P w _ tk
/-- the tail of an add: stored, the table laid anew where it is too full -/
theorem addT_tail {a : Addr} {g : Bool → Sem Unit} (hg : ∀ (b : Bool) (s₁ : Shared) (Q' : Unit → Shared → Prop), Q' () s₁ → wpAny (model P w) A (g b) Q' E s₁) {o : Obj} {es : Array (Int × Value)} {ep : Nat} {t : SetTable} (ho : s.heap.get? a = some o) (hex : o.ExactSet) (hd : o.data = .set es ep t)
    {es1 : Array (Int × Value)} {t2 : SetTable} {xs : List Str} (nd : xs.Nodup) (g1 : ∀ e ∈ es1.toList, GoodT w e) (p1 : (es1.toList.map skey).Perm xs) (hb : es1.size < scanBound) (hf : t2.fits es1.size = true) (hr : Ris t2.place.toList) (hl : w.params.followText "set-order" = true ∨ t2.led = true) {b0 : Bool} {R : Option Bool → Shared → Prop}
    (hR : ∀ h', Heap.SameBut a s.heap h' → SetS w h' a xs → R (some true) { s with heap := h' }) :
    wpAny (model P w) A (do storeSet a es1 t2; if (!b0 && t2.tooFull) = true then do g (relayAll t2 es1 (SetTable.grown es1.size)).2.2; storeSet a (relayAll t2 es1 (SetTable.grown es1.size)).1 (relayAll t2 es1 (SetTable.grown es1.size)).2.1; pure (some true) else pure (some true)) R E s := by
  refine wpAny_bind (wpAny_storeSet_of ho hd ?_ (fits_of_scanBound hb))
  have o1 := store_at (es' := es1) (t' := t2) ho hd
  have b1 := Heap.SameBut.update s.heap a (Obj.putSet es1 t2)
  rcases Bool.eq_false_or_eq_true (!b0 && t2.tooFull) with c | c
  · rw [if_pos c]
    have q1 := relayAll_perm t2 es1 (SetTable.grown es1.size)
    have q2 := relayAll_fits t2 es1 (SetTable.grown es1.size)
    have q3 := relayAll_ris t2 es1 (SetTable.grown es1.size)
    have q4 := relayAll_led t2 es1 (SetTable.grown es1.size)
    generalize relayAll t2 es1 (SetTable.grown es1.size) = Z at q1 q2 q3 q4 ⊢
    obtain ⟨es2, t3, gave⟩ := Z
    have sz : es2.size = es1.size := (Array.length_toList.symm.trans q1.length_eq).trans Array.length_toList
    refine wpAny_bind (hg _ _ _ (wpAny_bind (wpAny_storeSet_of o1 rfl ?_ (fits_of_scanBound (by rw [sz]; exact hb)))))
    exact wpAny_pure (hR _ (b1.trans (Heap.SameBut.update _ a _)) ⟨nd, _, es2, _, t3, store_at (es' := es2) (t' := t3) o1 rfl, hex, rfl, fun e he => g1 e (q1.mem_iff.mp he), (q1.map skey).trans p1, by rw [sz]; exact hb, q2, q3, hl.imp id fun z => by rw [q4]; exact z⟩)
  · rw [if_neg (by rw [c]; exact Bool.false_ne_true)]
    exact wpAny_pure (hR _ b1 ⟨nd, _, es1, _, t2, o1, hex, rfl, g1, p1, hb, hf, hr, hl⟩)
/-- a text that is not in it is added -/
theorem addT_new {a : Addr} {k : Str} {tk : Tok} {xs : List Str} {Q : Bool → Shared → Prop} (S : SetS w s.heap a xs) (new : k ∉ xs) (room : xs.length + 1 < scanBound) (q : ∀ h', Heap.SameBut a s.heap h' → SetS w h' a (k :: xs) → Q true { s with heap := h' }) :
    wpAny (model P w) A (setAddHashed a (.str k tk) ((strKind P w).hash k)) Q E s := by
  obtain ⟨nd, o, es, ep, t, ho, hex, hd, g, hp, hb, hf, hr, hl⟩ := S
  have sc : (Value.str k tk).scannable = true := rfl
  have el : ElemsOf (strKind P w) es.toList := good_elemsT g
  have no : List.findIdx? (fun e => (strKind P w).is k e.2) es.toList = none := by
    refine List.findIdx?_eq_none_iff.mpr fun e he => ?_
    obtain ⟨x, tk', h1, _⟩ := g e he
    rw [h1]
    refine Bool.eq_false_iff.mpr fun z => new ?_
    have hx : skey e = k := by
      unfold skey
      rw [h1]
      exact isStr_iff.mp z
    exact hp.mem_iff.mp (List.mem_map.mpr ⟨e, he, hx⟩)
  unfold setAddHashed setAddHashedIn
  refine wpAny_holding (wpAny_bind (wpAny_setState_of ho hd hf ?_))
  dsimp only
  rw [byScan_of sc hb el]
  simp only [↓reduceIte]
  unfold setAddByScan
  refine wpAny_bind (wpAny_bind (wpAny_rule (wpAny_bind (wpAny_setScan_of (strKind_is P w k tk) ho hd hf el ?_))))
  rw [no]
  dsimp only
  have q1 := layNew_perm t es ((strKind P w).hash k) (.str k tk)
  have q2 := layNew_fits t es ((strKind P w).hash k) (.str k tk)
  have q3 := layNew_ris t es ((strKind P w).hash k) (.str k tk) hr
  have q4 := layNew_led t es ((strKind P w).hash k) (.str k tk)
  generalize layNew t es ((strKind P w).hash k) (.str k tk) = Z at q1 q2 q3 q4 ⊢
  obtain ⟨es1, t1, b0, gave⟩ := Z
  dsimp only at q1 q2 q3 q4 ⊢
  rw [Array.toList_push] at q1
  have pc := q1.trans (List.perm_append_singleton _ _)
  have pk : (es1.toList.map skey).Perm (k :: xs) := (pc.map skey).trans (hp.cons k)
  have g1 : ∀ e ∈ es1.toList, GoodT w e := fun e he => (List.mem_cons.mp (pc.mem_iff.mp he)).elim (fun z => ⟨k, tk, by rw [z], by rw [z]; rfl⟩) (g e)
  have nd1 : (k :: xs).Nodup := List.nodup_cons.mpr ⟨new, nd⟩
  have sz : es1.size = xs.length + 1 := by
    have := pk.length_eq
    rw [List.length_map, Array.length_toList] at this
    exact this
  have hb1 : es1.size < scanBound := by rw [sz]; exact room
  have hl1 : w.params.followText "set-order" = true ∨ t1.led = true := hl.imp id fun z => by rw [q4]; exact z
  have free : ∀ (b : Bool) (s₁ : Shared) (Q' : Unit → Shared → Prop), Q' () s₁ → wpAny (model P w) A (match b with | true => rule "set.scan.the-table-gave-way" | false => pure ()) Q' E s₁ := fun b s₁ Q' z => by
    cases b
    · exact wpAny_pure z
    · exact wpAny_rule z
  refine wpAny_bind (free _ _ _ ?_)
  split
  · refine wpAny_bind ?_
    rw [hashByValue_scannable 8 sc]
    refine wpAny_pure ?_
    refine addT_tail (xs := k :: xs) ?_ ho hex hd nd1 g1 pk hb1 ?_ ?_ ?_ ?_
    · intro b s₁ Q' z
      cases b <;> first | exact wpAny_pure z | exact wpAny_rule z
    · first | (split <;> first | exact q2 | exact SetTable.fits_plain_off q2) | exact q2
    · first | (split <;> exact q3) | exact q3
    · first | (split <;> exact hl1) | exact hl1
    · intro h' sb r
      exact wpAny_pure (q h' sb r)
  · refine wpAny_bind (wpAny_pure ?_)
    simp only [↓reduceIte]
    refine addT_tail (xs := k :: xs) ?_ ho hex hd nd1 g1 pk hb1 q2 q3 hl1 ?_
    · intro b s₁ Q' z
      cases b <;> first | exact wpAny_pure z | exact wpAny_rule z
    · intro h' sb r
      exact wpAny_pure (q h' sb r)
/-- one after another -/
theorem updT {I : Addr} {fp wr : List Addr} {G : Array GenState → Array GenState → Prop} {n : Nat} {Pv : Nat → Value → Prop} {St : Nat → Shared → Prop} {R : Result → Shared → Prop} (W : WalksS P w A.in1 I fp wr G n Pv St) (S : Addr) (hS : S ∉ fp) (xs : List Str) (nd : xs.Nodup) (hn : n = xs.length)
    (hb : xs.length + 1 < scanBound) (val : ∀ i v, Pv i v → ∃ k t, xs[i]? = some k ∧ v = .str k t) : ∀ (m i : Nat) (z : Shared) (ys : List Str), n - i = m → i ≤ n → St i z → SetS w z.heap S ys → ys.Perm (xs.take i) →
      (∀ z' ys, Moved (S :: wr) G z z' → SetS w z'.heap S ys → ys.Perm xs → R (.ok (.ret .none)) z') → codeAny (model P w) A (.builtin "set.update.loop" ⟨[.ref S, .ref I], []⟩) R z := by
  have hSw : S ∉ wr := fun h => hS (W.sub _ h)
  have sub : ∀ b ∈ wr, b ∈ S :: wr := fun b => List.mem_cons_of_mem _
  intro m
  induction m with
  | zero =>
    intro i z ys hm hi hst hSet hp hR
    obtain rfl : i = n := by omega
    refine codeAny_builtin PyProof.Rows.F.entry_set_update_loop ?_
    rw [Around.under_plainId PyProof.Rows.F.plain_set_update_loop _]
    refine wpAny_bind (m := pyNext (.ref I)) (W.done z _ _ hst fun z' hm => ?_)
    rw [List.take_of_length_le (by omega)] at hp
    exact wpAny_pure (hR z' ys (hm.mono sub) (hSet.keeps fun o e => hm.heap S o hSw e) hp)
  | succ m ih =>
    intro i z ys hm hi hst hSet hp hR
    have lt : i < n := by omega
    refine codeAny_builtin PyProof.Rows.F.entry_set_update_loop ?_
    rw [Around.under_plainId PyProof.Rows.F.plain_set_update_loop _]
    refine wpAny_bind (m := pyNext (.ref I)) (W.item i z _ _ lt hst fun v z' hv hst' hm => ?_)
    obtain ⟨k, t, hk, rfl⟩ := val i v hv
    have S' := hSet.keeps (h' := z'.heap) fun o e => hm.heap S o hSw e
    have new : k ∉ ys := fun c => by
      obtain ⟨j, hj, e⟩ := List.mem_iff_getElem.mp (hp.mem_iff.mp c)
      rw [List.length_take] at hj
      rw [List.getElem_take] at e
      obtain ⟨hi', e2⟩ := List.getElem?_eq_some_iff.mp hk
      exact absurd (e.trans e2.symm) (List.pairwise_iff_getElem.mp nd j i (by omega) hi' (by omega))
    have yl : ys.length ≤ i := by rw [hp.length_eq, List.length_take]; omega
    refine wpAny_bind (m := holding [Value.str k t] (setAdd S (.str k t))) (wpAny_holding ?_)
    unfold setAdd
    refine wpAny_holding (wpAny_bind ((strKind P w).pyHash (strKind_is P w k t) ?_))
    refine addT_new (s := { z' with toks := z'.toks + 1 }) S' new (by omega) fun h' sb r => ?_
    refine wpAny_pure ⟨plainId_quiet PyProof.Rows.F.plain_set_update_loop _, ih (i + 1) _ (k :: ys) (by omega) lt (W.frame _ z' _ _ hst' (Nat.le_succ _) fun b hb o e => ?_) r ?_ fun z'' ys' hm'' r' p' => ?_⟩
    · rw [sb.2 b (fun h : b = S => hS (by rw [← h]; exact hb))]
      exact e
    · rw [List.take_add_one, hk]
      exact (hp.cons k).trans (List.perm_append_singleton _ _).symm
    · refine hR z'' ys' (Moved.trans W.gtrans ((hm.mono sub).then_heap (Nat.le_succ _) fun b o hb e => ?_) hm'') r' p'
      rw [sb.2 b (fun h : b = S => hb (by rw [h]; exact List.mem_cons_self))]
      exact e
end
end Sp1

set_option Elab.async false
set_option linter.all false
set_option maxRecDepth 100000
set_option maxHeartbeats 4000000
namespace Sp1
open PySem PySem.W PySem.Spec PyProof.Rows L2
def SetSO (w : World) (a : Addr) (xs : List Str) : HO := .ext fun h => SetS w h a xs
section
variable {P : Program} {w : World} {A : Around} {s : Shared}
/-- filling a new set from texts that differ, by any walk over them -/
theorem fillT {S I : Addr} {h0 : Heap} {vs : Array Value} {xs : List Str} {it : Obj} {St : Nat → Shared → Prop} {R : Result → Shared → Prop} (hS : h0.get? S = some (set0 w)) (hI : I = h0.objs.size) {l : Addr} (W : WalksS P w A.in1 I [I, l] [I] (fun a b => b = a) vs.size (fun i v => vs[i]? = some v) St) (hl : l < h0.objs.size) (hlS : l ≠ S)
    (hv : StrsAre vs.toList xs) (nd : xs.Nodup) (hb : xs.length + 1 < scanBound) (st : St 0 { s with heap := h0.push it })
    (h1 : ∀ (h' : Heap) (tk : Nat) ys, SetS w h' S ys → ys.Perm xs → (∀ b o, b ≠ S → h0.get? b = some o → h'.get? b = some o) → R (.ok (.ret .none)) { s with heap := h', toks := tk }) :
    codeAny (model P w) A (.builtin "set.update.loop" ⟨[.ref S, .ref I], []⟩) R { s with heap := h0.push it } := by
  have Sh : S < h0.objs.size := Heap.lt_size hS
  have size : vs.size = xs.length := (Array.length_toList.symm).trans hv.length
  have nS : S ∉ [I, l] := fun z => by
    rcases List.mem_cons.mp z with z | z
    · rw [hI] at z
      exact absurd z (Nat.ne_of_lt Sh)
    · exact hlS (List.mem_singleton.mp z).symm
  have empty : SetS w (h0.push it) S [] := ⟨List.nodup_nil, _, #[], 0, _, Heap.get?_push_of_some _ hS, ⟨rfl, rfl, rfl⟩, rfl, (fun e he => by simp at he), (List.Perm.refl _), by decide, rfl, List.Pairwise.nil, by
    cases h : w.params.followText "set-order"
    · exact .inr rfl
    · exact .inl rfl⟩
  refine updT (P := P) (A := A) W S nS xs nd size hb (fun i v e => ?_) vs.size 0 _ [] rfl (Nat.zero_le _) st empty (List.Perm.refl _) fun s' ys m r p => ?_
  · have hi : i < xs.length := by
      have := (Array.getElem?_eq_some_iff.mp e).1
      omega
    obtain ⟨y, t, x, z⟩ := hv.item i v (by rw [Array.getElem?_toList]; exact e)
    exact ⟨y, t, z, x⟩
  · obtain ⟨hp, g, d, tk, os⟩ := s'
    obtain ⟨mh, mg, md, mo, _⟩ := m
    dsimp only at mg md mo mh r
    subst mg md mo
    refine h1 hp tk ys r p fun b o hb e => mh b o (fun z => ?_) (Heap.get?_push_of_some _ e)
    rcases List.mem_cons.mp z with z | z
    · exact hb z
    · have z := List.mem_singleton.mp z
      rw [hI] at z
      exact absurd z (Nat.ne_of_lt (Heap.lt_size e))
end
section
variable {X : Cx}
theorem setSO_new {w : World} {P : Program} {H : Hp} {h : Heap} {a : Addr} {xs : List Str} (R : SetS w h a xs) : ObjOk P w H h a (SetSO w a xs) := by
  have ⟨_, o, _, _, _, ho, _⟩ := R
  exact ⟨R, ⟨o, ho⟩, fun h1 h2 p k => SetS.keeps p k⟩
theorem setSO_get {pins : List (Addr × Obj)} {σ : L2.St} {H : Hp} {s : Shared} {a : Addr} {xs : List Str} (I : Inv X pins σ H s) (ha : H a = some (SetSO X.w a xs)) : SetS X.w s.heap a xs := (I.hok a _ ha).1
/-- set(l) of a list or a tuple of texts that differ -/
def rSetT (K : PySem.W.Frag) (w : World) : List V → Hp → VK → Prop := fun vs H Q => ∃ (l : Addr) (xs : List Str), vs = [V.ref l] ∧ (SqL K H l (xs.map V.str) ∨ SqT K H l (xs.map V.str)) ∧ xs.Nodup ∧ xs.length ≤ 1000 ∧
  ∀ (a : Addr) (ys : List Str), H a = none → ys.Perm xs → Q (.ref a) (upd H a (SetSO w a ys))
theorem cr_setT (hc : X.calm = true) : CallR X (.type "set") (rSetT X.K X.w) := by
  intro pins s σ H vs us Q I r h
  obtain ⟨l, xs, rfl, hq, nd, h1000, q⟩ := h
  rw [Vals.ref1 r]
  have hlt : ∀ b o, s.heap.get? b = some o → b ≠ s.heap.objs.size := fun b o e => Nat.ne_of_lt (Heap.lt_size e)
  have fin : ∀ (h' : Heap) (tk : Nat), (∃ ys, SetS X.w h' s.heap.objs.size ys ∧ ys.Perm xs) → (∀ b o, s.heap.get? b = some o → h'.get? b = some o) → EP X pins σ Q (.ref s.heap.objs.size) { s with heap := h', toks := tk } :=
    fun h' tk ⟨ys, S, p⟩ k => ⟨.ref _, upd H s.heap.objs.size (SetSO X.w s.heap.objs.size ys), I.laid (t' := tk) k (Nat.le_refl _) (setSO_new S), rfl, q _ _ (I.hok.fresh (Nat.le_refl _)) p⟩
  have push : ∀ b o, s.heap.get? b = some o → (s.heap.push (set0 X.w)).get? b = some o := fun b o e => Heap.get?_push_of_some _ e
  rcases hq with hl | hl
  · obtain ⟨its, rv, pl, hz⟩ := I.list hl
    obtain ⟨⟨oc, od, dt, os⟩, e1, e2, n, e3⟩ := id pl.isList
    dsimp only at e2 e3
    subst e2 e3
    refine set_of_walk (Φ := fun h' => ∃ ys, SetS X.w h' s.heap.objs.size ys ∧ ys.Perm xs) (I.ok.hd hc) e1 PySem.F.sub_list_set PySem.F.sub_list_frozenset (by decide) (fun A' R E' hh hR => ?_) fin
    have hl1 : (s.heap.push (set0 X.w)).IsList l its.toArray := ⟨_, push _ _ e1, rfl, n, rfl⟩
    have lt1 := Heap.lt_size (push _ _ e1)
    refine wpAny_pyIter_list hl1 ?_
    exact fillT (s := s) (h0 := s.heap.push (set0 X.w)) (Heap.get?_push_size _ rfl) rfl (Walks.list (A := A'.in1) hh _ l (Nat.ne_of_lt lt1) its.toArray).toS lt1 (hlt _ _ e1) (by simpa using rv.strs) nd (by unfold scanBound; omega)
      ⟨⟨_, Heap.get?_push_size _ rfl, rfl, rfl⟩, hl1.push _⟩ fun h' tk ys S p k => hR h' tk ⟨ys, S, p⟩ fun b o e => k b o (hlt b o e) (push b o e)
  · obtain ⟨its, rv, pl, hz⟩ := I.tuple hl
    obtain ⟨⟨oc, od, dt, os⟩, e1, e2, n, e3⟩ := id pl
    dsimp only at e2 e3
    subst e2 e3
    refine set_of_walk (Φ := fun h' => ∃ ys, SetS X.w h' s.heap.objs.size ys ∧ ys.Perm xs) (I.ok.hd hc) e1 PySem.F.sub_tuple_set PySem.F.sub_tuple_frozenset (by decide) (fun A' R E' hh hR => ?_) fin
    have hl1 : (s.heap.push (set0 X.w)).IsTuple l its.toArray := ⟨_, push _ _ e1, rfl, n, rfl⟩
    have lt1 := Heap.lt_size (push _ _ e1)
    refine wpAny_pyIter_tuple hl1 ?_
    exact fillT (s := s) (h0 := s.heap.push (set0 X.w)) (Heap.get?_push_size _ rfl) rfl (Walks.tuple (A := A'.in1) hh _ l (Nat.ne_of_lt lt1) its.toArray).toS lt1 (hlt _ _ e1) (by simpa using rv.strs) nd (by unfold scanBound; omega)
      ⟨⟨_, Heap.get?_push_size _ rfl, rfl, rfl⟩, hl1.push _⟩ fun h' tk ys S p k => hR h' tk ⟨ys, S, p⟩ fun b o e => k b o (hlt b o e) (push b o e)
/-- len of such a set -/
theorem cr_lenT : CallR X (.builtin "len") (fun vs H Q => ∃ a xs, vs = [V.ref a] ∧ H a = some (SetSO X.w a xs) ∧ Q (.int (xs.length : Nat)) H) := by
  intro pins s σ H vs us Q I r h
  obtain ⟨a, xs, rfl, ha, q⟩ := h
  rw [Vals.ref1 r]
  obtain ⟨nd, o, es, ep, t, ho, hex, hd, g, hp, hb, hf, _⟩ := setSO_get I ha
  have sz : es.size = xs.length := by
    have := hp.length_eq
    rw [List.length_map, Array.length_toList] at this
    exact this
  exact call_len_set ho hex hd hf (by have : scanBound = 4096 := rfl; omega) ⟨.int (xs.length : Nat), H, I.tok _, ⟨_, by rw [sz]⟩, q⟩
/-- sorted of such a set, fewer than 64 texts -/
theorem cr_sortedT2 (hc : X.calm = true) : CallR X (.builtin "sorted") (fun vs H Q => ∃ a xs, vs = [V.ref a] ∧ H a = some (SetSO X.w a xs) ∧ xs.length < 64 ∧ ∀ ys p, ys.Perm xs → sortedS ys = true → H p = none → Q (.ref p) (upd H p (.lst (ys.map V.str)))) := by
  intro pins s σ H vs us Q I r h
  obtain ⟨a, xs, rfl, ha, h64, q⟩ := h
  rw [Vals.ref1 r]
  obtain ⟨nd, o, es, ep, t, ho, hex, hd, g, hp, hb, hf, hr, hl⟩ := setSO_get I ha
  refine Calls.call_function_entry kind_sorted plain_sorted entry_sorted (args_sorted1 _) ?_
  unfold Builtin.«sorted»
  refine wpAny_bind (m := checkCount "sorted" 1 1 _) (wpAny_pure ?_)
  refine wpAny_bind (collect_set (A := X.A.in1) (I.ok.hd hc) ⟨o, ho, hex.1, hd⟩ hf hb hr hl fun s1 vs k1 hz g1 o1 pm => ?_)
  have vl : vs.length = xs.length := by rw [pm.length_eq, List.length_map, ← hp.length_eq, List.length_map]
  have hS : StrsAre vs (vs.map PyProof.Rows.strOf) := by
    have q1 := strsAre_map vs fun v hv => by
      obtain ⟨e, he, rfl⟩ := List.mem_map.mp (pm.mem_iff.mp hv)
      obtain ⟨x, tk, h1, _⟩ := g e he
      exact ⟨x, tk, h1⟩
    exact q1
  have pv : (vs.map PyProof.Rows.strOf).Perm xs := by
    refine (pm.map PyProof.Rows.strOf).trans ?_
    rw [List.map_map]
    have e1 : es.toList.map (PyProof.Rows.strOf ∘ (·.2)) = es.toList.map skey := List.map_congr_left fun e he => by
      obtain ⟨x, tk, h1, _⟩ := g e he
      show PyProof.Rows.strOf e.2 = skey e
      unfold skey
      rw [h1]
      rfl
    rw [e1]
    exact hp
  refine wpAny_bind (wpAny_newList ?_ (by rw [vl, sizeLine_eq]; omega))
  have hL : (s1.heap.push (seqObj "list" vs.toArray 0)).get? s1.heap.objs.size = some (seqObj "list" vs.toArray 0) := Heap.get?_push_size _ rfl
  refine wpAny_bind (wpAny_holding (wpAny_call_entry PyProof.Rows.slot_list_sort ⟨_, hL, rfl⟩ PyProof.Rows.entry_list_sort (PyProof.Rows.list_sort_treeK PyProof.Rows.strKind_oneLt hL hS.keysOf (fun v₁ v₂ rest e => PyProof.Rows.keyKind_strs (by rw [← e]; exact hS)) (by rw [vl]; exact h64) fun st' hp' hs' => ⟨_, rfl, ?_⟩) (PyProof.Rows.args_list_sort _)))
  obtain ⟨ys, y1, y2, y3⟩ := PyProof.Rows.sorted_out_str hS hp' hs'
  obtain ⟨c, hc'⟩ := PyProof.Rows.sortedHeap_at (vs := vs) (out := (arrOf st').map (·.2)) hL
  have yl : (ys.map V.str).length ≤ sizeLine := by rw [List.length_map, y2.length_eq, pv.length_eq, sizeLine_eq]; omega
  have old : ∀ b u, s.heap.get? b = some u → (sortedHeap (s1.heap.push (seqObj "list" vs.toArray 0)) s1.heap.objs.size vs ((arrOf st').map (·.2))).get? b = some u := fun b u e => by
    have e1 := k1 b u e
    have lt := Heap.lt_size e1
    rw [PyProof.Rows.sortedHeap_old (Nat.ne_of_lt lt) (by rw [size_push']; exact Nat.lt_succ_of_lt lt)]
    exact Heap.get?_push_of_some _ e1
  have hn : H s1.heap.objs.size = none := I.hok.fresh hz
  generalize hU : sortedHeap (s1.heap.push (seqObj "list" vs.toArray 0)) s1.heap.objs.size vs ((arrOf st').map (·.2)) = h2 at hc' old
  have J : Inv X pins σ (upd H s1.heap.objs.size (.lst (ys.map V.str))) { s with heap := h2, gens := s1.gens, drawn := s1.drawn, toks := s1.toks } :=
    I.call (ch := []) (Un.laid old hz hn) (I.hok.laid old hz ⟨yl, _, c, vals_of_strs y1, hc'⟩) (by rw [g1]; exact I.bare) (fun _ z => nomatch z)
  refine wpAny_pure ⟨.ref s1.heap.objs.size, rfl, .ref _, upd H s1.heap.objs.size (.lst (ys.map V.str)), ?_, rfl, q ys _ (y2.trans pv) y3 hn⟩
  cases s1
  cases s
  cases o1
  exact J
end
end Sp1

set_option Elab.async false
set_option linter.all false
set_option maxRecDepth 100000
set_option maxHeartbeats 4000000
namespace Sp1
open PySem PySem.Spec PyProof.Rows L2 Pg
section
variable {K : PySem.W.Frag} {H H' : Hp}
mutual
theorem dp_keep (s : TK H H') : ∀ {d : PyData} {v : V}, Dp K H v d → tupD d = true → Dp K H' v d
  | .none, _, h, _ => by cases h; exact .non
  | .bool b, _, h, _ => by cases h; exact .bl b
  | .int i, _, h, _ => by cases h; exact .int i
  | .str x, _, h, _ => by cases h; exact .str x
  | .list _, _, _, t => by simp [tupD] at t
  | .dict _, _, _, t => by simp [tupD] at t
  | .tuple ds, _, h, t => by
    cases h with
    | tup hs ha => exact .tup (s.sqt hs) (dpAll_keep s ha (by simpa [tupD] using t))
theorem dpAll_keep (s : TK H H') : ∀ {ds : List PyData} {vs : List V}, DpAll K H vs ds → tupAll ds = true → DpAll K H' vs ds
  | [], _, h, _ => by cases h; exact .nil
  | d :: ds, _, h, t => by
    simp only [tupAll, Bool.and_eq_true] at t
    cases h with
    | cons h1 h2 => exact .cons (dp_keep s h1 t.1) (dpAll_keep s h2 t.2)
end
theorem dp_tup {v : V} {ds : List PyData} (h : Dp K H v (.tuple ds)) : ∃ a xs, v = .ref a ∧ SqT K H a xs ∧ DpAll K H xs ds := by
  cases h with
  | tup hs ha => exact ⟨_, _, rfl, hs, ha⟩
theorem dp_str {v : V} {x : Str} (h : Dp K H v (.str x)) : v = .str x := by cases h; rfl
theorem dp_int {v : V} {i : Int} (h : Dp K H v (.int i)) : v = .int i := by cases h; rfl
theorem dpAll_len : ∀ {ds : List PyData} {vs : List V}, DpAll K H vs ds → vs.length = ds.length
  | [], _, h => by cases h; rfl
  | d :: ds, _, h => by
    cases h with
    | cons _ h2 => rw [List.length_cons, List.length_cons, dpAll_len h2]
theorem dpAll_at : ∀ {ds : List PyData} {vs : List V}, DpAll K H vs ds → ∀ {i : Nat} {v : V}, vs[i]? = some v → ∃ d, ds[i]? = some d ∧ Dp K H v d
  | [], _, h, i, v, e => by cases h; simp at e
  | d :: ds, _, h, i, v, e => by
    cases h with
    | cons h1 h2 =>
      cases i with
      | zero => cases e; exact ⟨d, rfl, h1⟩
      | succ i => exact dpAll_at h2 e
theorem dpAll_get {ds : List PyData} {vs : List V} (h : DpAll K H vs ds) {i : Nat} {d : PyData} (e : ds[i]? = some d) : ∃ v, vs[i]? = some v ∧ Dp K H v d := by
  have hi := (List.getElem?_eq_some_iff.mp e).1
  have hv : i < vs.length := by rw [dpAll_len h]; exact hi
  obtain ⟨d', e', q⟩ := dpAll_at h (List.getElem?_eq_getElem hv)
  rw [e] at e'
  cases e'
  exact ⟨_, List.getElem?_eq_getElem hv, q⟩
theorem dpAll_app {ds es : List PyData} {vs ws : List V} (h : DpAll K H vs ds) (h' : DpAll K H ws es) : DpAll K H (vs ++ ws) (ds ++ es) := by
  induction h using DpAll.rec (motive_1 := fun _ _ _ => True) with
  | nil => exact h'
  | cons h1 _ _ ih => exact .cons h1 ih
  | _ => trivial
theorem dpAll_snoc {ds : List PyData} {vs : List V} {d : PyData} {v : V} (h : DpAll K H vs ds) (h' : Dp K H v d) : DpAll K H (vs ++ [v]) (ds ++ [d]) := dpAll_app h (.cons h' .nil)
theorem dpAll_strs : ∀ xs : List Str, DpAll K H (xs.map V.str) (xs.map sD)
  | [] => .nil
  | x :: r => .cons (.str x) (dpAll_strs r)
theorem dpAll_strs_inv : ∀ {xs : List Str} {vs : List V}, DpAll K H vs (xs.map sD) → vs = xs.map V.str
  | [], _, h => by cases h; rfl
  | x :: r, _, h => by
    cases h with
    | cons h1 h2 =>
      rw [dp_str h1, dpAll_strs_inv h2]
      rfl
/-- a tuple of texts -/
def Ts (K : PySem.W.Frag) (H : Hp) (v : V) (xs : List Str) : Prop := ∃ a, v = .ref a ∧ SqT K H a (xs.map V.str)
theorem Ts.tk {v : V} {xs : List Str} (h : Ts K H v xs) (s : TK H H') : Ts K H' v xs := by
  obtain ⟨a, e, h⟩ := h
  exact ⟨a, e, s.sqt h⟩
theorem Ts.dp {v : V} {xs : List Str} (h : Ts K H v xs) : Dp K H v (.tuple (xs.map sD)) := by
  obtain ⟨a, rfl, h⟩ := h
  exact .tup h (dpAll_strs xs)
theorem ts_of_dp {v : V} {xs : List Str} (h : Dp K H v (.tuple (xs.map sD))) : Ts K H v xs := by
  obtain ⟨a, vs, rfl, hs, ha⟩ := dp_tup h
  rw [dpAll_strs_inv ha] at hs
  exact ⟨a, rfl, hs⟩
/-- a list or a tuple of texts -/
def Tl (K : PySem.W.Frag) (H : Hp) (v : V) (xs : List Str) : Prop := ∃ a, v = .ref a ∧ (SqL K H a (xs.map V.str) ∨ SqT K H a (xs.map V.str))
theorem Ts.tl {v : V} {xs : List Str} (h : Ts K H v xs) : Tl K H v xs := by
  obtain ⟨a, e, h⟩ := h
  exact ⟨a, e, .inr h⟩
theorem Tl.same {v : V} {xs : List Str} (h : Tl K H v xs) (s : Same H H') : Tl K H' v xs := by
  obtain ⟨a, e, h⟩ := h
  exact ⟨a, e, h.imp (fun h => s.seq h) fun h => Same.sqt s h⟩
theorem flat_strs (xs : List Str) : (xs.map V.str).all flatV = true := by
  rw [List.all_eq_true]
  intro x hx
  obtain ⟨_, _, rfl⟩ := List.mem_map.mp hx
  rfl
theorem inV_strs (x : Str) (xs : List Str) : inV (.str x) (xs.map V.str) = decide (x ∈ xs) := by
  unfold inV
  rw [Bool.eq_iff_iff, List.any_eq_true, decide_eq_true_eq]
  constructor
  · rintro ⟨v, hv, e⟩
    obtain ⟨y, hy, rfl⟩ := List.mem_map.mp hv
    have : y = x := beq_iff_eq.mp e
    rw [← this]
    exact hy
  · intro h
    exact ⟨.str x, List.mem_map.mpr ⟨x, h, rfl⟩, beq_self_eq_true x⟩
theorem tyx_tupS {a : Addr} {xs : List V} (h : SqT K H a xs) : TyX K H (.ref a) (.type "tuple") := by
  rcases h with (h | ⟨o, h⟩) | ⟨o, its, n, e, c, _⟩
  · exact .base (.tup h)
  · exact .fTuple h
  · exact .kTuple e c
theorem tyx_dp {v : V} {ds : List PyData} (h : Dp K H v (.tuple ds)) : TyX K H v (.type "tuple") := by
  obtain ⟨a, xs, rfl, hs, _⟩ := dp_tup h
  exact tyx_tupS hs
/-! all(..) of a list of truths -/
theorem all_true (n : Nat) : ((List.range n).map fun _ => true).all id = true := by
  rw [List.all_eq_true]
  intro x hx
  obtain ⟨_, _, rfl⟩ := List.mem_map.mp hx
  rfl
theorem acc_true {D : Addr} {n : Nat} (h : Acc H D (fun _ => V.bl true) n H') : H' D = some (.lst (((List.range n).map fun _ => true).map V.bl)) := by
  rw [h.2, List.map_map]
  rfl
end
end Sp1

set_option Elab.async false
set_option linter.all false
set_option maxRecDepth 100000
set_option maxHeartbeats 4000000
/-! which queries are kept best: the least sum of distances -/
namespace Kp
/-- the least distance to one of a list -/
def near (x : Int) : List Int → Int
  | [] => 0
  | [s] => ((x - s).natAbs : Int)
  | s :: t :: r => min (((x - s).natAbs : Int)) (near x (t :: r))
theorem near_le {x : Int} : ∀ {S : List Int} {s : Int}, s ∈ S → near x S ≤ ((x - s).natAbs : Int)
  | [t], s, h => by
    cases List.mem_singleton.mp h
    exact Int.le_refl _
  | t :: u :: r, s, h => by
    show min _ _ ≤ _
    rcases List.mem_cons.mp h with rfl | h
    · exact Int.min_le_left _ _
    · exact Int.le_trans (Int.min_le_right _ _) (near_le h)
theorem near_mem {x : Int} : ∀ {S : List Int}, S ≠ [] → ∃ s ∈ S, near x S = ((x - s).natAbs : Int)
  | [], h => absurd rfl h
  | [t], _ => ⟨t, List.mem_singleton.mpr rfl, rfl⟩
  | t :: u :: r, _ => by
    obtain ⟨s, hs, e⟩ := near_mem (x := x) (S := u :: r) (by simp)
    by_cases h : ((x - t).natAbs : Int) ≤ near x (u :: r)
    · exact ⟨t, List.mem_cons_self, Int.min_eq_left h⟩
    · exact ⟨s, List.mem_cons_of_mem _ hs, (Int.min_eq_right (Int.le_of_not_le h)).trans e⟩
theorem near_eq {x m : Int} {S : List Int} (h1 : ∃ s ∈ S, m = ((x - s).natAbs : Int)) (h2 : ∀ s ∈ S, m ≤ ((x - s).natAbs : Int)) : near x S = m := by
  obtain ⟨s, hs, e⟩ := h1
  obtain ⟨t, ht, e2⟩ := near_mem (x := x) (S := S) (List.ne_nil_of_mem hs)
  have h3 := near_le (x := x) hs
  have h4 := h2 t ht
  omega
theorem near_nn {x : Int} {S : List Int} (h : S ≠ []) : 0 ≤ near x S := by
  obtain ⟨s, _, e⟩ := near_mem (x := x) h
  omega
theorem near_snoc {x s : Int} {T : List Int} (h : T ≠ []) : near x (T ++ [s]) = min (near x T) (((x - s).natAbs : Int)) := by
  obtain ⟨t, ht, e⟩ := near_mem (x := x) h
  refine near_eq ?_ fun u hu => ?_
  · by_cases q : near x T ≤ ((x - s).natAbs : Int)
    · rw [Int.min_eq_left q]
      exact ⟨t, List.mem_append_left _ ht, e⟩
    · rw [Int.min_eq_right (Int.le_of_not_le q)]
      exact ⟨s, List.mem_append_right _ (List.mem_singleton.mpr rfl), rfl⟩
  · rcases List.mem_append.mp hu with hu | hu
    · exact Int.le_trans (Int.min_le_left _ _) (near_le hu)
    · cases List.mem_singleton.mp hu
      exact Int.min_le_right _ _
theorem near_sub {x : Int} {S T : List Int} (hS : S ≠ []) (h : ∀ s ∈ S, s ∈ T) : near x T ≤ near x S := by
  obtain ⟨s, hs, e⟩ := near_mem (x := x) hS
  rw [e]
  exact near_le (h s hs)
theorem near_self {x : Int} {S : List Int} (h : x ∈ S) : near x S = 0 := near_eq ⟨x, h, by omega⟩ fun s _ => by omega
theorem near_pos {x : Int} {S : List Int} (hS : S ≠ []) (h : x ∉ S) : 0 < near x S := by
  obtain ⟨s, hs, e⟩ := near_mem (x := x) hS
  have : x ≠ s := fun z => h (z ▸ hs)
  omega
/-- behind all of them the last is the next -/
theorem near_last {x l : Int} {S : List Int} (hl : l ∈ S) (h : ∀ s ∈ S, s ≤ l) (hx : l ≤ x) : near x S = x - l :=
  near_eq ⟨l, hl, by omega⟩ fun s hs => by
    have := h s hs
    omega
def cost (qs S : List Int) : Int := (qs.map fun x => near x S).sum
/-! sums -/
theorem sum_app {f : Int → Int} {a b : List Int} : ((a ++ b).map f).sum = (a.map f).sum + (b.map f).sum := by
  rw [List.map_append]
  induction a.map f with
  | nil => simp
  | cons x r ih => simp [ih]; omega
theorem sum_le {f g : Int → Int} : ∀ {l : List Int}, (∀ x ∈ l, f x ≤ g x) → (l.map f).sum ≤ (l.map g).sum
  | [], _ => Int.le_refl _
  | x :: l, h => by
    have h1 := h x List.mem_cons_self
    have h2 := sum_le (f := f) (g := g) (l := l) fun y hy => h y (List.mem_cons_of_mem _ hy)
    simp only [List.map_cons, List.sum_cons]
    omega
theorem sum_eq {f g : Int → Int} {l : List Int} (h : ∀ x ∈ l, f x = g x) : (l.map f).sum = (l.map g).sum := by
  rw [List.map_congr_left h]
theorem sum_lt {f g : Int → Int} : ∀ {l : List Int}, (∀ x ∈ l, f x ≤ g x) → (∃ x ∈ l, f x < g x) → (l.map f).sum < (l.map g).sum
  | [], _, ⟨x, h, _⟩ => by cases h
  | x :: l, h, ⟨y, hy, e⟩ => by
    have h1 := h x List.mem_cons_self
    have h2 : ∀ z ∈ l, f z ≤ g z := fun z hz => h z (List.mem_cons_of_mem _ hz)
    simp only [List.map_cons, List.sum_cons]
    rcases List.mem_cons.mp hy with rfl | hy
    · have := sum_le h2
      omega
    · have := sum_lt h2 ⟨y, hy, e⟩
      omega
/-! ascending lists by place -/
abbrev at_ (qs : List Int) (i : Nat) : Int := qs.getD i 0
theorem at_get {qs : List Int} {i : Nat} (h : i < qs.length) : at_ qs i = qs[i] := by
  unfold at_
  rw [List.getD_eq_getElem?_getD, List.getElem?_eq_getElem h]
  rfl
theorem take_succ {qs : List Int} {i : Nat} (h : i < qs.length) : qs.take (i + 1) = qs.take i ++ [at_ qs i] := by
  rw [at_get h, List.take_add_one, List.getElem?_eq_getElem h]
  rfl
section
variable {qs : List Int} (asc : qs.Pairwise (· < ·))
include asc
theorem at_lt {i j : Nat} (hij : i < j) (hj : j < qs.length) : at_ qs i < at_ qs j := by
  rw [at_get hj, at_get (by omega)]
  exact List.pairwise_iff_getElem.mp asc i j (by omega) hj hij
theorem mem_take {i : Nat} (hi : i < qs.length) {x : Int} (h : x ∈ qs.take i) : x < at_ qs i := by
  obtain ⟨j, hj, e⟩ := List.mem_iff_getElem.mp h
  rw [List.length_take] at hj
  rw [List.getElem_take] at e
  rw [← e, ← at_get (by omega)]
  exact at_lt asc (by omega) hi
theorem mem_take' {i : Nat} (hi : i < qs.length) {x : Int} (h : x ∈ qs.take (i + 1)) : x ≤ at_ qs i := by
  rw [take_succ hi] at h
  rcases List.mem_append.mp h with h | h
  · exact Int.le_of_lt (mem_take asc hi h)
  · cases List.mem_singleton.mp h
    exact Int.le_refl _
theorem mem_drop {i : Nat} {x : Int} (h : x ∈ qs.drop i) : at_ qs i ≤ x := by
  obtain ⟨j, hj, e⟩ := List.mem_iff_getElem.mp h
  rw [List.length_drop] at hj
  rw [List.getElem_drop] at e
  rw [← e, ← at_get (by omega)]
  rcases Nat.eq_zero_or_pos j with rfl | hp
  · exact Int.le_refl _
  · exact Int.le_of_lt (at_lt asc (by omega) (by omega))
end
/-! kept lists whose last is the i-th query -/
structure Cand (qs : List Int) (k i : Nat) (S : List Int) : Prop where
  sub : S.Sublist (qs.take (i + 1))
  len : S.length = k
  last : S.getLast? = some (at_ qs i)
/-- what the queries ahead of the last kept one cost -/
def part (qs : List Int) (i : Nat) (S : List Int) : Int := ((qs.take i).map fun x => near x S).sum
theorem sub_snoc {T A : List Int} {x : Int} (h : T.Sublist (A ++ [x])) : T.Sublist A ∨ ∃ T', T = T' ++ [x] ∧ T'.Sublist A := by
  obtain ⟨l1, l2, rfl, h1, h2⟩ := List.sublist_append_iff.mp h
  cases l2 with
  | nil => exact .inl (by rw [List.append_nil]; exact h1)
  | cons y r =>
    have h3 := h2.length_le
    have : r = [] := List.eq_nil_of_length_eq_zero (by simp only [List.length_cons, List.length_nil] at h3; omega)
    subst this
    have h4 : y ∈ [x] := h2.subset List.mem_cons_self
    cases List.mem_singleton.mp h4
    exact .inr ⟨l1, rfl, h1⟩
theorem last_of {qs : List Int} : ∀ {i : Nat} {T : List Int}, i ≤ qs.length → T.Sublist (qs.take i) → T ≠ [] → ∃ j, j < i ∧ T.getLast? = some (at_ qs j) ∧ T.Sublist (qs.take (j + 1))
  | 0, T, _, h, hT => by
    rw [List.take_zero] at h
    exact absurd (List.sublist_nil.mp h) hT
  | i + 1, T, hi, h, hT => by
    have h0 := h
    rw [take_succ (by omega)] at h
    rcases sub_snoc h with h | ⟨T', rfl, h⟩
    · obtain ⟨j, h1, h2, h3⟩ := last_of (by omega) h hT
      exact ⟨j, by omega, h2, h3⟩
    · exact ⟨i, by omega, List.getLast?_concat, h0⟩
section
variable {qs : List Int} (asc : qs.Pairwise (· < ·))
include asc
theorem cand_snoc {k i : Nat} {S : List Int} (hi : i < qs.length) (h : Cand qs k i S) : ∃ T, S = T ++ [at_ qs i] ∧ T.Sublist (qs.take i) := by
  have hs := h.sub
  rw [take_succ hi] at hs
  rcases sub_snoc hs with hs | h2
  · have hm : at_ qs i ∈ S := List.mem_of_getLast? h.last
    have := mem_take asc hi (hs.subset hm)
    omega
  · exact h2
theorem cand_le {k i : Nat} {S : List Int} (hi : i < qs.length) (h : Cand qs k i S) : (∀ s ∈ S, s ≤ at_ qs i) ∧ at_ qs i ∈ S := ⟨fun s hs => mem_take' asc hi (h.sub.subset hs), List.mem_of_getLast? h.last⟩
theorem cand_len {k i : Nat} {S : List Int} (hi : i < qs.length) (h : Cand qs k i S) : k ≤ i + 1 := by
  have := h.sub.length_le
  rw [h.len, List.length_take] at this
  omega
/-- the cost of a plan -/
theorem part_step {k i j : Nat} {T : List Int} (hj : j < i) (hi : i < qs.length) (h : Cand qs k j T) :
    part qs i (T ++ [at_ qs i]) = part qs j T + (((qs.take i).drop j).map fun x => min (x - at_ qs j) (at_ qs i - x)).sum := by
  obtain ⟨hle, hm⟩ := cand_le asc (by omega) h
  have hT : T ≠ [] := List.ne_nil_of_mem hm
  have e : qs.take i = qs.take j ++ (qs.take i).drop j := by
    have := (List.take_append_drop j (qs.take i)).symm
    rw [List.take_take, Nat.min_eq_left (by omega)] at this
    exact this
  unfold part
  rw [e, sum_app, ← e]
  congr 1
  · refine sum_eq fun x hx => ?_
    rw [near_snoc hT]
    have h1 := mem_take asc (by omega) hx
    have h2 := at_lt asc hj hi
    have h3 := near_le (x := x) hm
    exact Int.min_eq_left (by omega)
  · refine sum_eq fun x hx => ?_
    have hx1 : x ∈ qs.drop j := by
      rw [List.drop_take] at hx
      exact List.mem_of_mem_take hx
    have hx2 : x ∈ qs.take i := List.mem_of_mem_drop hx
    have h1 := mem_drop asc hx1
    have h2 := mem_take asc hi hx2
    rw [near_snoc hT, near_last hm hle h1]
    congr 1
    omega
theorem cost_last {k i : Nat} {S : List Int} (hi : i < qs.length) (h : Cand qs k i S) : cost qs S = part qs i S + ((qs.drop i).map fun x => x - at_ qs i).sum := by
  obtain ⟨hle, hm⟩ := cand_le asc hi h
  unfold cost part
  conv => lhs; rw [← List.take_append_drop i qs]
  rw [sum_app]
  congr 1
  exact sum_eq fun x hx => near_last hm hle (mem_drop asc hx)
theorem part_one {i : Nat} (hi : i < qs.length) : Cand qs 1 i [at_ qs i] ∧ part qs i [at_ qs i] = ((qs.take i).map fun x => at_ qs i - x).sum := by
  refine ⟨⟨?_, rfl, rfl⟩, ?_⟩
  · rw [take_succ hi]
    exact List.sublist_append_right _ _
  · refine sum_eq fun x hx => ?_
    have := mem_take asc hi hx
    show ((x - _).natAbs : Int) = _
    omega
theorem cand_one {i : Nat} {S : List Int} (h : Cand qs 1 i S) : S = [at_ qs i] := by
  have hl := h.last
  have h1 := h.len
  match S, h1 with
  | [s], _ => rw [List.getLast?_singleton] at hl; cases hl; rfl
end
end Kp

set_option Elab.async false
set_option linter.all false
set_option maxRecDepth 100000
set_option maxHeartbeats 4000000
/-! the order of pairs (cost, list), and the best plans -/
namespace Kp
open PySem.W
abbrev LL (a b : List Int) : Bool := listLt a b
theorem ll_cons (x y : Int) (a b : List Int) : LL (x :: a) (y :: b) = if x = y then LL a b else decide (x < y) := rfl
theorem ll_irr : ∀ a : List Int, LL a a = false
  | [] => rfl
  | x :: a => by
    rw [ll_cons, if_pos rfl]
    exact ll_irr a
theorem ll_trans : ∀ {a b c : List Int}, LL a b = true → LL b c = true → LL a c = true
  | [], [], _, h, _ => by cases h
  | [], _ :: _, [], _, h => by cases h
  | [], _ :: _, _ :: _, _, _ => rfl
  | _ :: _, [], _, h, _ => by cases h
  | _ :: _, _ :: _, [], _, h => by cases h
  | x :: a, y :: b, z :: c, h1, h2 => by
    rw [ll_cons] at h1 h2 ⊢
    by_cases e1 : x = y
    · subst e1
      rw [if_pos rfl] at h1
      by_cases e2 : x = z
      · subst e2
        rw [if_pos rfl] at h2 ⊢
        exact ll_trans h1 h2
      · rw [if_neg e2] at h2 ⊢
        exact h2
    · rw [if_neg e1] at h1
      have h1 := of_decide_eq_true h1
      by_cases e2 : y = z
      · subst e2
        rw [if_neg e1]
        exact decide_eq_true h1
      · rw [if_neg e2] at h2
        have h2 := of_decide_eq_true h2
        rw [if_neg (by omega)]
        exact decide_eq_true (by omega)
theorem ll_tri : ∀ a b : List Int, LL a b = true ∨ a = b ∨ LL b a = true
  | [], [] => .inr (.inl rfl)
  | [], _ :: _ => .inl rfl
  | _ :: _, [] => .inr (.inr rfl)
  | x :: a, y :: b => by
    rw [ll_cons, ll_cons]
    by_cases e : x = y
    · subst e
      rw [if_pos rfl, if_pos rfl]
      rcases ll_tri a b with h | h | h
      · exact .inl h
      · exact .inr (.inl (by rw [h]))
      · exact .inr (.inr h)
    · rw [if_neg e, if_neg (fun z => e z.symm)]
      by_cases h : x < y
      · exact .inl (decide_eq_true h)
      · exact .inr (.inr (decide_eq_true (by omega)))
theorem ll_snoc {x : Int} : ∀ {a b : List Int}, a.length = b.length → LL (a ++ [x]) (b ++ [x]) = LL a b
  | [], [], _ => by
    show LL [x] [x] = LL [] []
    rw [ll_irr, ll_irr]
  | [], _ :: _, h => by cases h
  | _ :: _, [], h => by cases h
  | y :: a, z :: b, h => by
    show LL (y :: (a ++ [x])) (z :: (b ++ [x])) = _
    rw [ll_cons, ll_cons, ll_snoc (by simpa using h)]
abbrev Pr := Int × List Int
abbrev ltP (a b : Pr) : Bool := DatumOrd.lt a b
theorem ltP_iff {a b : Pr} : ltP a b = true ↔ a.1 < b.1 ∨ (a.1 = b.1 ∧ LL a.2 b.2 = true) := by
  show (if a.1 = b.1 then LL a.2 b.2 else decide (a.1 < b.1)) = true ↔ _
  by_cases e : a.1 = b.1
  · rw [if_pos e]
    constructor
    · exact fun h => .inr ⟨e, h⟩
    · rintro (h | ⟨_, h⟩)
      · omega
      · exact h
  · rw [if_neg e]
    constructor
    · exact fun h => .inl (of_decide_eq_true h)
    · rintro (h | ⟨h, _⟩)
      · exact decide_eq_true h
      · exact absurd h e
/-- at most, in the order of pairs -/
def Ple (a b : Pr) : Prop := a.1 < b.1 ∨ (a.1 = b.1 ∧ LL b.2 a.2 = false)
theorem not_ltP {a b : Pr} (h : ¬ ltP b a = true) : Ple a b := by
  rw [ltP_iff] at h
  by_cases e : a.1 < b.1
  · exact .inl e
  · have e2 : a.1 = b.1 := by
      by_cases q : b.1 < a.1
      · exact absurd (.inl q) h
      · omega
    refine .inr ⟨e2, ?_⟩
    cases q : LL b.2 a.2 with
    | false => rfl
    | true => exact absurd (.inr ⟨e2.symm, q⟩) h
theorem Ple.refl (a : Pr) : Ple a a := .inr ⟨rfl, ll_irr _⟩
theorem ll_le_trans {a b c : List Int} (h1 : LL b a = false) (h2 : LL c b = false) : LL c a = false := by
  cases q : LL c a with
  | false => rfl
  | true =>
    rcases ll_tri b c with h | h | h
    · have := ll_trans h q
      rw [h1] at this
      cases this
    · subst h
      rw [h1] at q
      cases q
    · rw [h2] at h
      cases h
theorem Ple.trans {a b c : Pr} (h1 : Ple a b) (h2 : Ple b c) : Ple a c := by
  rcases h1 with h1 | ⟨e1, h1⟩
  · rcases h2 with h2 | ⟨e2, _⟩
    · exact .inl (by omega)
    · exact .inl (by omega)
  · rcases h2 with h2 | ⟨e2, h2⟩
    · exact .inl (by omega)
    · exact .inr ⟨by omega, ll_le_trans h1 h2⟩
theorem Ple.le {a b : Pr} (h : Ple a b) : a.1 ≤ b.1 := by
  rcases h with h | ⟨h, _⟩ <;> omega
theorem ll_anti {a b : List Int} (h1 : LL b a = false) (h2 : LL a b = false) : a = b := by
  rcases ll_tri a b with h | h | h
  · rw [h2] at h; cases h
  · exact h
  · rw [h1] at h; cases h
theorem Ple.anti {a b : Pr} (h1 : Ple a b) (h2 : Ple b a) : a = b := by
  have e : a.1 = b.1 := by
    have := h1.le
    have := h2.le
    omega
  obtain ⟨a1, a2⟩ := a
  obtain ⟨b1, b2⟩ := b
  have e : a1 = b1 := e
  subst e
  rcases h1 with h1 | ⟨_, h1⟩
  · have h1 : a1 < a1 := h1
    omega
  rcases h2 with h2 | ⟨_, h2⟩
  · have h2 : a1 < a1 := h2
    omega
  have h3 : a2 = b2 := ll_anti h1 h2
  rw [h3]
theorem minOf_spec : ∀ (xs : List Pr) (x : Pr), minOf x xs ∈ x :: xs ∧ ∀ y ∈ x :: xs, Ple (minOf x xs) y
  | [], x => ⟨List.mem_singleton.mpr rfl, fun y hy => by
      cases List.mem_singleton.mp hy
      exact Ple.refl _⟩
  | z :: xs, x => by
    have e : minOf x (z :: xs) = minOf (if ltP z x = true then z else x) xs := rfl
    rw [e]
    by_cases h : ltP z x = true
    · rw [if_pos h]
      obtain ⟨h1, h2⟩ := minOf_spec xs z
      refine ⟨List.mem_cons_of_mem _ h1, fun y hy => ?_⟩
      rcases List.mem_cons.mp hy with rfl | hy
      · have hz := h2 z List.mem_cons_self
        refine hz.trans ?_
        rcases ltP_iff.mp h with q | ⟨q1, q2⟩
        · exact .inl q
        · refine .inr ⟨q1, ?_⟩
          cases q3 : LL y.2 z.2 with
          | false => rfl
          | true =>
            have := ll_trans q2 q3
            rw [ll_irr] at this
            cases this
      · exact h2 y hy
    · rw [if_neg h]
      obtain ⟨h1, h2⟩ := minOf_spec xs x
      refine ⟨?_, fun y hy => ?_⟩
      · rcases List.mem_cons.mp h1 with h1 | h1
        · rw [h1]
          exact List.mem_cons_self
        · exact List.mem_cons_of_mem _ (List.mem_cons_of_mem _ h1)
      · rcases List.mem_cons.mp hy with rfl | hy
        · exact h2 y List.mem_cons_self
        · rcases List.mem_cons.mp hy with rfl | hy
          · exact (h2 x List.mem_cons_self).trans (not_ltP h)
          · exact h2 y (List.mem_cons_of_mem _ hy)
/-! plans -/
structure PlanOk (qs : List Int) (k i : Nat) (p : Pr) : Prop where
  cand : Cand qs k i p.2
  eq : p.1 = part qs i p.2
  least : ∀ T, Cand qs k i T → Ple p (part qs i T, T)
def btw (qs : List Int) (j i : Nat) : Int := (((qs.take i).drop j).map fun x => min (x - at_ qs j) (at_ qs i - x)).sum
def bef (qs : List Int) (i : Nat) : Int := ((qs.take i).map fun x => at_ qs i - x).sum
def beh (qs : List Int) (i : Nat) : Int := ((qs.drop i).map fun x => x - at_ qs i).sum
def others (qs : List Int) (f : Nat → Pr) (m i : Nat) : List Pr := (List.range' m (i - m)).map fun j => ((f j).1 + btw qs j i, (f j).2)
def finals (qs : List Int) (f : Nat → Pr) (m : Nat) : List Pr := (List.range' m (qs.length - m)).map fun i => ((f i).1 + beh qs i, (f i).2)
section
variable {qs : List Int} (asc : qs.Pairwise (· < ·))
include asc
theorem plan_one {i : Nat} (hi : i < qs.length) : PlanOk qs 1 i (bef qs i, [at_ qs i]) := by
  obtain ⟨h1, h2⟩ := part_one asc hi
  refine ⟨h1, h2.symm, fun T hT => ?_⟩
  rw [cand_one asc hT]
  exact .inr ⟨h2.symm, ll_irr _⟩
theorem plan_step {f : Nat → Pr} {m i : Nat} (hf : ∀ j, m ≤ j → j < i → PlanOk qs (m + 1) j (f j)) (hi : i < qs.length) {x : Pr} {r : List Pr} (e : others qs f m i = x :: r) :
    PlanOk qs (m + 2) i ((minOf x r).1, (minOf x r).2 ++ [at_ qs i]) := by
  obtain ⟨h1, h2⟩ := minOf_spec r x
  rw [← e] at h1 h2
  generalize minOf x r = p at h1 h2
  obtain ⟨j, hj, rfl⟩ := List.mem_map.mp h1
  obtain ⟨hj1, hj2⟩ := List.mem_range'_1.mp hj
  have hji : j < i := by omega
  obtain ⟨c1, c2, c3⟩ := hf j hj1 hji
  have ps := part_step asc hji hi c1
  have hsub : ∀ {U : List Int} {a : Nat}, a < i → U.Sublist (qs.take (a + 1)) → U.Sublist (qs.take i) := fun {U a} ha hU => hU.trans (by
    have : qs.take (a + 1) = (qs.take i).take (a + 1) := by rw [List.take_take, Nat.min_eq_left ha]
    rw [this]
    exact List.take_sublist _ _)
  refine ⟨⟨?_, ?_, List.getLast?_concat⟩, ?_, fun T hT => ?_⟩
  · rw [take_succ hi]
    exact List.Sublist.append (hsub hji c1.sub) (List.Sublist.refl _)
  · show (_ ++ [_]).length = _
    rw [List.length_append, c1.len]
    rfl
  · show (f j).1 + btw qs j i = _
    rw [ps, c2]
    rfl
  · obtain ⟨U, rfl, hU⟩ := cand_snoc asc hi hT
    have ul : U.length = m + 1 := by
      have := hT.len
      rw [List.length_append] at this
      exact Nat.succ.inj this
    have une : U ≠ [] := fun z => by rw [z] at ul; cases ul
    obtain ⟨j', j1, j2, j3⟩ := last_of (Nat.le_of_lt hi) hU une
    have cU : Cand qs (m + 1) j' U := ⟨j3, ul, j2⟩
    have hm : m ≤ j' := by
      have := cand_len asc (by omega) cU
      omega
    have o1 := h2 _ (List.mem_map.mpr ⟨j', List.mem_range'_1.mpr ⟨hm, by omega⟩, rfl⟩)
    have o2 := (hf j' hm j1).least U cU
    have ps' := part_step asc j1 hi cU
    have o3 : Ple ((f j').1 + btw qs j' i, (f j').2) (part qs i (U ++ [at_ qs i]), U) := by
      rcases o2 with o2 | ⟨o2, o4⟩
      · have o2 : (f j').1 < part qs j' U := o2
        refine .inl ?_
        show _ + _ < _
        rw [ps']
        unfold btw
        omega
      · have o2 : (f j').1 = part qs j' U := o2
        refine .inr ⟨?_, o4⟩
        show _ + _ = _
        rw [ps', o2]
        rfl
    have o5 := o1.trans o3
    rcases o5 with o5 | ⟨o5, o6⟩
    · exact .inl o5
    · refine .inr ⟨o5, ?_⟩
      show LL (U ++ [_]) (_ ++ [_]) = false
      rw [ll_snoc (by rw [ul, c1.len])]
      exact o6
/-- the best of all lists with so many steps -/
structure BestOf (qs : List Int) (k : Nat) (p : Pr) : Prop where
  sub : p.2.Sublist qs
  len : p.2.length = k
  eq : p.1 = cost qs p.2
  least : ∀ T : List Int, T.Sublist qs → T.length = k → Ple p (cost qs T, T)
theorem plan_final {f : Nat → Pr} {m : Nat} (hf : ∀ j, m ≤ j → j < qs.length → PlanOk qs (m + 1) j (f j)) {x : Pr} {r : List Pr} (e : finals qs f m = x :: r) : BestOf qs (m + 1) (minOf x r) := by
  obtain ⟨h1, h2⟩ := minOf_spec r x
  rw [← e] at h1 h2
  generalize minOf x r = p at h1 h2
  obtain ⟨j, hj, rfl⟩ := List.mem_map.mp h1
  obtain ⟨hj1, hj2⟩ := List.mem_range'_1.mp hj
  have hjn : j < qs.length := by omega
  obtain ⟨c1, c2, c3⟩ := hf j hj1 hjn
  refine ⟨c1.sub.trans (List.take_sublist _ _), c1.len, ?_, fun T hT hl => ?_⟩
  · show (f j).1 + beh qs j = _
    rw [cost_last asc hjn c1, c2]
    rfl
  · have une : T ≠ [] := fun z => by rw [z] at hl; cases hl
    obtain ⟨j', j1, j2, j3⟩ := last_of (qs := qs) (i := qs.length) (Nat.le_refl _) (by rw [List.take_length]; exact hT) une
    have cT : Cand qs (m + 1) j' T := ⟨j3, hl, j2⟩
    have hm : m ≤ j' := by
      have := cand_len asc j1 cT
      omega
    have o1 := h2 _ (List.mem_map.mpr ⟨j', List.mem_range'_1.mpr ⟨hm, by omega⟩, rfl⟩)
    have o2 := (hf j' hm j1).least T cT
    refine o1.trans ?_
    rcases o2 with o2 | ⟨o2, o4⟩
    · have o2 : (f j').1 < part qs j' T := o2
      refine .inl ?_
      show _ + _ < cost qs T
      rw [cost_last asc j1 cT]
      unfold beh
      omega
    · have o2 : (f j').1 = part qs j' T := o2
      refine .inr ⟨?_, o4⟩
      show _ + _ = cost qs T
      rw [cost_last asc j1 cT, o2]
      rfl
end
end Kp

set_option Elab.async false
set_option linter.all false
set_option maxRecDepth 100000
set_option maxHeartbeats 4000000
/-! one step more is better; all lists by their numbers -/
namespace Kp
theorem ins_one : ∀ {T qs : List Int}, T.Sublist qs → qs.Nodup → T.length < qs.length → ∃ (T' : List Int) (x : Int), T.Sublist T' ∧ T'.Sublist qs ∧ T'.length = T.length + 1 ∧ x ∈ T' ∧ x ∉ T
  | _, _, .slnil, _, h => by simp at h
  | T, _, .cons (l₂ := l) a h, nd, _ => by
    have ha := (List.nodup_cons.mp nd).1
    exact ⟨a :: T, a, List.sublist_cons_self a T, h.cons₂ a, rfl, List.mem_cons_self, fun z => ha (h.subset z)⟩
  | _, _, .cons₂ (l₁ := t) (l₂ := l) a h, nd, hl => by
    obtain ⟨ha, nd'⟩ := List.nodup_cons.mp nd
    obtain ⟨T', x, h1, h2, h3, h4, h5⟩ := ins_one h nd' (by simpa using hl)
    refine ⟨a :: T', x, h1.cons₂ a, h2.cons₂ a, by rw [List.length_cons, h3]; rfl, List.mem_cons_of_mem _ h4, fun z => ?_⟩
    rcases List.mem_cons.mp z with rfl | z
    · exact ha (h2.subset h4)
    · exact h5 z
theorem cost_mono {qs T T' : List Int} (hT : T ≠ []) (h : ∀ s ∈ T, s ∈ T') : cost qs T' ≤ cost qs T := sum_le fun x _ => near_sub hT h
theorem nodup_of {qs : List Int} (asc : qs.Pairwise (· < ·)) : qs.Nodup := asc.imp fun h => Int.ne_of_lt h
theorem one_more {T qs : List Int} (asc : qs.Pairwise (· < ·)) (h : T.Sublist qs) (hT : T ≠ []) (hl : T.length < qs.length) : ∃ T' : List Int, T'.Sublist qs ∧ T' ≠ [] ∧ T'.length = T.length + 1 ∧ cost qs T' < cost qs T := by
  obtain ⟨T', x, h1, h2, h3, h4, h5⟩ := ins_one h (nodup_of asc) hl
  refine ⟨T', h2, List.ne_nil_of_mem h4, h3, sum_lt (fun y _ => near_sub hT h1.subset) ⟨x, h2.subset h4, ?_⟩⟩
  rw [near_self h4]
  exact near_pos hT h5
theorem fewer {qs : List Int} (asc : qs.Pairwise (· < ·)) {k : Nat} {p : List Int → Prop} {c : Int} (hk : k ≤ qs.length) (hp : ∀ T : List Int, T.Sublist qs → T.length = k → c ≤ cost qs T) :
    ∀ (d : Nat) (T : List Int), T.Sublist qs → T ≠ [] → T.length + d = k → c ≤ cost qs T ∧ (0 < d → c < cost qs T)
  | 0, T, h, _, hl => ⟨hp T h hl, fun z => absurd z (Nat.lt_irrefl 0)⟩
  | d + 1, T, h, hT, hl => by
    obtain ⟨T', h1, h2, h3, h4⟩ := one_more asc h hT (by omega)
    have := (fewer asc (p := p) hk hp d T' h1 h2 (by omega)).1
    exact ⟨by omega, fun _ => by omega⟩
/-- the best one is best among all with at most so many steps -/
theorem BestOf.all {qs : List Int} (asc : qs.Pairwise (· < ·)) {k : Nat} {p : Pr} (b : BestOf qs k p) (hk : k ≤ qs.length) {T : List Int} (h : T.Sublist qs) (hT : T ≠ []) (hl : T.length ≤ k) : p.1 ≤ cost qs T ∧ (T.length < k → p.1 < cost qs T) := by
  obtain ⟨h1, h2⟩ := fewer asc (p := fun _ => True) (c := p.1) hk (fun T h hl => (b.least T h hl).le) (k - T.length) T h hT (by omega)
  exact ⟨h1, fun z => h2 (by omega)⟩
/-! numbers and lists -/
def pick : List Int → Nat → List Int
  | [], _ => []
  | x :: r, n => (if n % 2 = 1 then [x] else []) ++ pick r (n / 2)
theorem pick_sub : ∀ (qs : List Int) (n : Nat), (pick qs n).Sublist qs
  | [], _ => .slnil
  | x :: r, n => by
    show ((if n % 2 = 1 then [x] else []) ++ pick r (n / 2)).Sublist (x :: r)
    split
    · exact (pick_sub r (n / 2)).cons₂ x
    · exact (pick_sub r (n / 2)).cons x
theorem pick_ne : ∀ (qs : List Int) (n : Nat), 1 ≤ n → n < 2 ^ qs.length → pick qs n ≠ []
  | [], n, h1, h2 => by
    simp at h2
    omega
  | x :: r, n, h1, h2 => by
    show (if n % 2 = 1 then [x] else []) ++ pick r (n / 2) ≠ []
    split
    · simp
    · have h2 : n < 2 ^ (r.length + 1) := h2
      rw [Nat.pow_succ] at h2
      exact pick_ne r (n / 2) (by omega) (by omega)
theorem pick_all : ∀ {T qs : List Int}, T.Sublist qs → ∃ n, n < 2 ^ qs.length ∧ pick qs n = T
  | _, _, .slnil => ⟨0, by decide, rfl⟩
  | T, _, .cons (l₂ := l) a h => by
    obtain ⟨n, h1, h2⟩ := pick_all h
    refine ⟨2 * n, ?_, ?_⟩
    · show 2 * n < 2 ^ (l.length + 1)
      rw [Nat.pow_succ]
      omega
    · show (if (2 * n) % 2 = 1 then [a] else []) ++ pick l (2 * n / 2) = T
      rw [if_neg (by omega), show 2 * n / 2 = n by omega, h2]
      rfl
  | _, _, .cons₂ (l₁ := t) (l₂ := l) a h => by
    obtain ⟨n, h1, h2⟩ := pick_all h
    refine ⟨2 * n + 1, ?_, ?_⟩
    · show 2 * n + 1 < 2 ^ (l.length + 1)
      rw [Nat.pow_succ]
      omega
    · show (if (2 * n + 1) % 2 = 1 then [a] else []) ++ pick l ((2 * n + 1) / 2) = a :: t
      rw [if_pos (by omega), show (2 * n + 1) / 2 = n by omega, h2]
      rfl
/-- by its places -/
theorem pick_snoc : ∀ (qs : List Int) (i n : Nat), i < qs.length → pick (qs.take (i + 1)) n = pick (qs.take i) n ++ (if n / 2 ^ i % 2 = 1 then [at_ qs i] else [])
  | x :: r, 0, n, _ => by
    show (if n % 2 = 1 then [x] else []) ++ pick [] (n / 2) = [] ++ (if n / 2 ^ 0 % 2 = 1 then [at_ (x :: r) 0] else [])
    rw [Nat.pow_zero, Nat.div_one]
    show _ ++ [] = _
    rw [List.append_nil]
    rfl
  | x :: r, i + 1, n, h => by
    have ih := pick_snoc r i (n / 2) (by simpa using h)
    show (if n % 2 = 1 then [x] else []) ++ pick (r.take (i + 1)) (n / 2) = ((if n % 2 = 1 then [x] else []) ++ pick (r.take i) (n / 2)) ++ _
    rw [ih, List.append_assoc, Nat.div_div_eq_div_mul, Nat.pow_succ, Nat.mul_comm 2]
    rfl
/-! the triples that the law compares -/
abbrev Tr := Int × Int × List Int
def lt3 (a b : Tr) : Bool := if a.1 = b.1 then (if a.2.1 = b.2.1 then LL a.2.2 b.2.2 else decide (a.2.1 < b.2.1)) else decide (a.1 < b.1)
def tri (qs S : List Int) : Tr := (cost qs S, (S.length : Int), S)
theorem lt3_irr (a : Tr) : lt3 a a = false := by
  unfold lt3
  rw [if_pos rfl, if_pos rfl]
  exact ll_irr _
/-- a fold that keeps the least -/
theorem lt3_le_trans {a b c : Tr} (h1 : lt3 b a = false) (h2 : lt3 c b = false) : lt3 c a = false := by
  unfold lt3 at h1 h2 ⊢
  split at h1
  · rename_i e1
    split at h1
    · rename_i e2
      split at h2
      · rename_i e3
        split at h2
        · rename_i e4
          rw [if_pos (by omega), if_pos (by omega)]
          exact ll_le_trans h1 h2
        · have := of_decide_eq_false h2
          rw [if_pos (by omega), if_neg (by omega)]
          exact decide_eq_false (by omega)
      · have := of_decide_eq_false h2
        rw [if_neg (by omega)]
        exact decide_eq_false (by omega)
    · have h1 := of_decide_eq_false h1
      split at h2
      · rename_i e3
        split at h2
        · rename_i e4
          rw [if_pos (by omega), if_neg (by omega)]
          exact decide_eq_false (by omega)
        · have := of_decide_eq_false h2
          rw [if_pos (by omega), if_neg (by omega)]
          exact decide_eq_false (by omega)
      · have := of_decide_eq_false h2
        rw [if_neg (by omega)]
        exact decide_eq_false (by omega)
  · have h1 := of_decide_eq_false h1
    have h3 : b.1 ≤ c.1 := by
      split at h2
      · omega
      · have := of_decide_eq_false h2
        omega
    rw [if_neg (by omega)]
    exact decide_eq_false (by omega)
theorem lt3_anti {a b : Tr} (h : lt3 a b = true) : lt3 b a = false := by
  unfold lt3 at h ⊢
  split at h
  · rename_i e1
    rw [if_pos e1.symm]
    split at h
    · rename_i e2
      rw [if_pos e2.symm]
      cases q : LL b.2.2 a.2.2 with
      | false => rfl
      | true =>
        have := ll_trans h q
        rw [ll_irr] at this
        cases this
    · rename_i e2
      have := of_decide_eq_true h
      rw [if_neg (fun z => e2 z.symm)]
      exact decide_eq_false (by omega)
  · rename_i e1
    have := of_decide_eq_true h
    rw [if_neg (fun z => e1 z.symm)]
    exact decide_eq_false (by omega)
/-- what the law finds is the best one -/
theorem law_best {qs : List Int} (asc : qs.Pairwise (· < ·)) {k cnt : Nat} {p : Pr} (b : BestOf qs k p) (hk : k = min cnt qs.length) (k1 : 1 ≤ k) {n : Nat} (n1 : 1 ≤ n) (n2 : n < 2 ^ qs.length) (hl : (pick qs n).length ≤ cnt)
    (least : ∀ j, 1 ≤ j → j < 2 ^ qs.length → (pick qs j).length ≤ cnt → lt3 (tri qs (pick qs j)) (tri qs (pick qs n)) = false) : cost qs (pick qs n) = p.1 ∧ pick qs n = p.2 := by
  have hne := pick_ne qs n n1 n2
  have hsub := pick_sub qs n
  have hlen := hsub.length_le
  obtain ⟨a1, a2⟩ := b.all asc (by omega) hsub hne (by omega)
  obtain ⟨m, m1, m2⟩ := pick_all b.sub
  have hpl := b.len
  have m0 : 1 ≤ m := by
    rcases Nat.eq_zero_or_pos m with rfl | h
    · exfalso
      have : ∀ l : List Int, pick l 0 = [] := fun l => by
        induction l with
        | nil => rfl
        | cons x r ih =>
          show [] ++ pick r (0 / 2) = []
          exact ih
      rw [this] at m2
      rw [← m2] at hpl
      simp at hpl
      omega
    · exact h
  have h3 := least m m0 m1 (by rw [m2]; omega)
  rw [m2] at h3
  generalize hS : pick qs n = S at *
  have hpe := b.eq
  have hc : cost qs S = p.1 := by
    unfold lt3 at h3
    by_cases e : (tri qs p.2).1 = (tri qs S).1
    · have e : cost qs p.2 = cost qs S := e
      omega
    · rw [if_neg e] at h3
      have h3 := of_decide_eq_false h3
      have h3 : ¬ cost qs p.2 < cost qs S := h3
      have e : ¬ cost qs p.2 = cost qs S := e
      omega
  have hSl : S.length = k := by
    by_cases q : S.length < k
    · have := a2 q
      omega
    · omega
  refine ⟨hc, ?_⟩
  have h4 := b.least S hsub hSl
  have e1 : (tri qs p.2).1 = (tri qs S).1 := by
    show cost qs p.2 = cost qs S
    omega
  have e2 : (tri qs p.2).2.1 = (tri qs S).2.1 := by
    show (p.2.length : Int) = (S.length : Int)
    rw [hpl, hSl]
  unfold lt3 at h3
  rw [if_pos e1, if_pos e2] at h3
  have h3 : LL p.2 S = false := h3
  rcases h4 with h4 | ⟨_, h4⟩
  · have h4 : p.1 < cost qs S := h4
    omega
  · have h4 : LL S p.2 = false := h4
    exact ll_anti h3 h4
end Kp

set_option Elab.async false
set_option linter.all false
set_option maxRecDepth 100000
set_option maxHeartbeats 4000000
/-! neighbouring queries around their middle one -/
namespace Kp
/-- the sum over n places from a on -/
def sm (f : Int → Int) (qs : List Int) : Nat → Nat → Int
  | _, 0 => 0
  | a, n + 1 => f (at_ qs a) + sm f qs (a + 1) n
theorem sm_snoc (f : Int → Int) (qs : List Int) : ∀ (n a : Nat), sm f qs a (n + 1) = sm f qs a n + f (at_ qs (a + n))
  | 0, a => by
    show f _ + 0 = 0 + f _
    rw [Nat.add_zero]
    omega
  | n + 1, a => by
    show f (at_ qs a) + sm f qs (a + 1) (n + 1) = (f (at_ qs a) + sm f qs (a + 1) n) + _
    rw [sm_snoc f qs n (a + 1), show a + 1 + n = a + (n + 1) by omega]
    omega
theorem sm_app (f : Int → Int) (qs : List Int) : ∀ (n m a : Nat), sm f qs a (n + m) = sm f qs a n + sm f qs (a + n) m
  | 0, m, a => by
    rw [Nat.zero_add, Nat.add_zero]
    show _ = 0 + _
    omega
  | n + 1, m, a => by
    rw [show n + 1 + m = (n + m) + 1 by omega]
    show f _ + sm f qs (a + 1) (n + m) = f _ + sm f qs (a + 1) n + _
    rw [sm_app f qs n m (a + 1), show a + 1 + n = a + (n + 1) by omega]
    omega
theorem sm_le {f g : Int → Int} {qs : List Int} : ∀ {n a : Nat}, (∀ i, a ≤ i → i < a + n → f (at_ qs i) ≤ g (at_ qs i)) → sm f qs a n ≤ sm g qs a n
  | 0, _, _ => Int.le_refl _
  | n + 1, a, h => by
    have h1 := h a (Nat.le_refl _) (by omega)
    have h2 := sm_le (f := f) (g := g) (qs := qs) (n := n) (a := a + 1) fun i h3 h4 => h i (by omega) (by omega)
    show f _ + sm f qs (a + 1) n ≤ g _ + sm g qs (a + 1) n
    omega
theorem sm_take (f : Int → Int) {qs : List Int} : ∀ {i : Nat}, i ≤ qs.length → ((qs.take i).map f).sum = sm f qs 0 i
  | 0, _ => by
    rw [List.take_zero]
    rfl
  | i + 1, h => by
    rw [take_succ (by omega), sum_app, sm_take f (by omega), sm_snoc, Nat.zero_add]
    simp
theorem sm_seg (f : Int → Int) {qs : List Int} {a b : Nat} (hab : a ≤ b) (hb : b ≤ qs.length) : (((qs.take b).drop a).map f).sum = sm f qs a (b - a) := by
  have e : qs.take b = qs.take a ++ (qs.take b).drop a := by
    have := (List.take_append_drop a (qs.take b)).symm
    rw [List.take_take, Nat.min_eq_left hab] at this
    exact this
  have h1 := sm_take f hb
  rw [e, sum_app, sm_take f (by omega)] at h1
  have h2 := sm_app f qs a (b - a) 0
  rw [show a + (b - a) = b by omega, Nat.zero_add] at h2
  omega
/-- the part around its middle -/
def pt (qs : List Int) (a b : Nat) : Int := sm (fun x => ((x - at_ qs ((a + b) / 2)).natAbs : Int)) qs a (b + 1 - a)
section
variable {qs : List Int} (asc : qs.Pairwise (· < ·))
include asc
theorem med : ∀ (n a : Nat), a + n < qs.length → ∀ y : Int, sm (fun x => ((x - at_ qs (a + n / 2)).natAbs : Int)) qs a (n + 1) ≤ sm (fun x => ((x - y).natAbs : Int)) qs a (n + 1)
  | 0, a, h, y => by
    show ((_ : Nat) : Int) + 0 ≤ ((_ : Nat) : Int) + 0
    rw [Nat.zero_div, Nat.add_zero]
    omega
  | 1, a, h, y => by
    have h1 := at_lt asc (Nat.lt_succ_self a) h
    show ((_ : Nat) : Int) + (((_ : Nat) : Int) + 0) ≤ ((_ : Nat) : Int) + (((_ : Nat) : Int) + 0)
    have e : a + 1 / 2 = a := by omega
    rw [e]
    omega
  | n + 2, a, h, y => by
    have ih := med n (a + 1) (by omega) y
    have e : a + (n + 2) / 2 = a + 1 + n / 2 := by omega
    rw [e]
    have e1 : ∀ f : Int → Int, sm f qs a (n + 2 + 1) = f (at_ qs a) + (sm f qs (a + 1) (n + 1) + f (at_ qs (a + 1 + (n + 1)))) := fun f => by
      show f _ + sm f qs (a + 1) (n + 1 + 1) = _
      rw [sm_snoc]
    rw [e1, e1]
    have h1 : at_ qs a ≤ at_ qs (a + 1 + n / 2) := Int.le_of_lt (at_lt asc (by omega) (by omega))
    have h2 : at_ qs (a + 1 + n / 2) ≤ at_ qs (a + 1 + (n + 1)) := Int.le_of_lt (at_lt asc (by omega) (by omega))
    omega
theorem pt_le {a b : Nat} (hab : a ≤ b) (hb : b < qs.length) (y : Int) : pt qs a b ≤ sm (fun x => ((x - y).natAbs : Int)) qs a (b + 1 - a) := by
  have := med asc (b - a) a (by omega) y
  unfold pt
  rw [show (a + b) / 2 = a + (b - a) / 2 by omega, show b + 1 - a = b - a + 1 by omega]
  exact this
end
/-- what keeping S costs up to a place -/
def upto (qs S : List Int) (b : Nat) : Int := sm (fun x => near x S) qs 0 (b + 1)
structure Tbl (qs : List Int) (t : Nat) (B : Nat → Int) : Prop where
  low : ∀ b, b < qs.length → ∃ S : List Int, S ≠ [] ∧ S.length ≤ t + 1 ∧ S.Sublist (qs.take (b + 1)) ∧ upto qs S b ≤ B b
  up : ∀ b, b < qs.length → ∀ S : List Int, S ≠ [] → S.length ≤ t + 1 → S.Pairwise (· < ·) → B b ≤ upto qs S b
  top : ∀ b, b < qs.length → B b ≤ pt qs 0 b
theorem sub_single {qs : List Int} {a b m : Nat} (h1 : a ≤ m) (h2 : m < b) (hb : b ≤ qs.length) : ∀ {S : List Int}, S.Sublist (qs.take a) → (S ++ [at_ qs m]).Sublist (qs.take b) := fun {S} hS => by
  have e : qs.take b = qs.take a ++ (qs.take b).drop a := by
    have := (List.take_append_drop a (qs.take b)).symm
    rw [List.take_take, Nat.min_eq_left (by omega)] at this
    exact this
  rw [e]
  refine List.Sublist.append hS (List.singleton_sublist.mpr ?_)
  refine List.mem_iff_getElem.mpr ⟨m - a, by rw [List.length_drop, List.length_take]; omega, ?_⟩
  rw [List.getElem_drop, List.getElem_take, at_get (by omega)]
  congr 1
  omega
section
variable {qs : List Int} (asc : qs.Pairwise (· < ·))
include asc
theorem tbl_zero : Tbl qs 0 (pt qs 0) := by
  refine ⟨fun b hb => ?_, fun b hb S hS hl hp => ?_, fun b _ => Int.le_refl _⟩
  · refine ⟨[at_ qs ((0 + b) / 2)], by simp, Nat.le_refl _, ?_, ?_⟩
    · have := sub_single (qs := qs) (a := 0) (b := b + 1) (m := (0 + b) / 2) (by omega) (by omega) (by omega) (S := []) (by rw [List.take_zero]; exact .slnil)
      exact this
    · show sm _ qs 0 (b + 1) ≤ sm _ qs 0 (b + 1 - 0)
      exact Int.le_refl _
  · obtain ⟨s, rfl⟩ : ∃ s, S = [s] := by
      match S, hS, hl with
      | [s], _, _ => exact ⟨s, rfl⟩
    exact pt_le asc (Nat.zero_le b) hb s
/-- where the last kept step begins to be the next -/
theorem cut_at {S0 : List Int} {s : Int} (hs : ∀ z ∈ S0, z ≤ s) (h0 : S0 ≠ []) : ∀ m, m ≤ qs.length → ∃ c, c ≤ m ∧ (∀ i, i < c → near (at_ qs i) S0 < ((at_ qs i - s).natAbs : Int)) ∧ (∀ i, c ≤ i → i < m → ((at_ qs i - s).natAbs : Int) ≤ near (at_ qs i) S0)
  | 0, _ => ⟨0, Nat.le_refl _, fun i h => by omega, fun i h1 h2 => by omega⟩
  | m + 1, hm => by
    obtain ⟨c, h1, h2, h3⟩ := cut_at hs h0 m (by omega)
    by_cases hc : c < m
    · refine ⟨c, by omega, h2, fun i hi1 hi2 => ?_⟩
      by_cases e : i < m
      · exact h3 i hi1 e
      · have h4 := h3 c (Nat.le_refl _) hc
        have h5 : at_ qs c < at_ qs i := at_lt asc (by omega) (by omega)
        obtain ⟨z, hz, ez⟩ := near_mem (x := at_ qs i) h0
        rw [ez]
        have h6 := near_le (x := at_ qs c) hz
        have h7 := hs z hz
        omega
    · have hcm : c = m := by omega
      subst hcm
      by_cases q : near (at_ qs c) S0 < ((at_ qs c - s).natAbs : Int)
      · refine ⟨c + 1, Nat.le_refl _, fun i hi => ?_, fun i hi1 hi2 => by omega⟩
        by_cases e : i < c
        · exact h2 i e
        · have : i = c := by omega
          subst this
          exact q
      · refine ⟨c, by omega, h2, fun i hi1 hi2 => ?_⟩
        have : i = c := by omega
        subst this
        omega
theorem tbl_step {t : Nat} {B B' : Nat → Int} (h : Tbl qs t B) (h0 : B' 0 = B 0)
    (h1 : ∀ b, 1 ≤ b → b < qs.length → B' b ≤ B b ∧ (∀ c, c < b → B' b ≤ B c + pt qs (c + 1) b) ∧ (B' b = B b ∨ ∃ c, c < b ∧ B' b = B c + pt qs (c + 1) b)) : Tbl qs (t + 1) B' := by
  have le : ∀ b, b < qs.length → B' b ≤ B b := fun b hb => by
    rcases Nat.eq_zero_or_pos b with rfl | hp
    · omega
    · exact (h1 b hp hb).1
  refine ⟨fun b hb => ?_, fun b hb S hS hl hp => ?_, fun b hb => Int.le_trans (le b hb) (h.top b hb)⟩
  · have same : B' b = B b → ∃ S : List Int, S ≠ [] ∧ S.length ≤ t + 1 + 1 ∧ S.Sublist (qs.take (b + 1)) ∧ upto qs S b ≤ B' b := fun e => by
      obtain ⟨S, s1, s2, s3, s4⟩ := h.low b hb
      exact ⟨S, s1, by omega, s3, by omega⟩
    rcases Nat.eq_zero_or_pos b with rfl | hp
    · exact same h0
    · rcases (h1 b hp hb).2.2 with e | ⟨c, hc, e⟩
      · exact same e
      · obtain ⟨S, s1, s2, s3, s4⟩ := h.low c (by omega)
        refine ⟨S ++ [at_ qs ((c + 1 + b) / 2)], by simp, by rw [List.length_append]; show _ + 1 ≤ _; omega, sub_single (by omega) (by omega) (by omega) s3, ?_⟩
        rw [e]
        unfold upto at s4 ⊢
        have e2 : b + 1 = (c + 1) + (b + 1 - (c + 1)) := by omega
        rw [e2, sm_app]
        have a1 : sm (fun x => near x (S ++ [at_ qs ((c + 1 + b) / 2)])) qs 0 (c + 1) ≤ sm (fun x => near x S) qs 0 (c + 1) := sm_le fun i _ _ => near_sub s1 fun z hz => List.mem_append_left _ hz
        have a2 : sm (fun x => near x (S ++ [at_ qs ((c + 1 + b) / 2)])) qs (0 + (c + 1)) (b + 1 - (c + 1)) ≤ pt qs (c + 1) b := by
          rw [Nat.zero_add]
          exact sm_le fun i _ _ => near_le (List.mem_append_right _ (List.mem_singleton.mpr rfl))
        omega
  · by_cases q : S.length ≤ t + 1
    · exact Int.le_trans (le b hb) (h.up b hb S hS q hp)
    · -- the last kept step apart
      have hrev : ∃ (S0 : List Int) (s : Int), S = S0 ++ [s] := by
        refine ⟨S.dropLast, S.getLast hS, (List.dropLast_concat_getLast hS).symm⟩
      obtain ⟨S0, s, rfl⟩ := hrev
      rw [List.length_append] at q hl
      have q : ¬ S0.length + 1 ≤ t + 1 := q
      have hl : S0.length + 1 ≤ t + 1 + 1 := hl
      have ne0 : S0 ≠ [] := fun z => by rw [z] at q; simp at q
      obtain ⟨p1, _, p3⟩ := List.pairwise_append.mp hp
      have hle : ∀ z ∈ S0, z ≤ s := fun z hz => Int.le_of_lt (p3 z hz s (List.mem_singleton.mpr rfl))
      obtain ⟨c, c1, c2, c3⟩ := cut_at asc hle ne0 (b + 1) (by omega)
      unfold upto
      have e2 : b + 1 = c + (b + 1 - c) := by omega
      rw [e2, sm_app]
      have a1 : sm (fun x => near x S0) qs 0 c ≤ sm (fun x => near x (S0 ++ [s])) qs 0 c := sm_le fun i _ hi => by
        rw [near_snoc ne0]
        have := c2 i (by omega)
        exact Int.le_min.mpr ⟨Int.le_refl _, Int.le_of_lt this⟩
      have a2 : sm (fun x => ((x - s).natAbs : Int)) qs (0 + c) (b + 1 - c) ≤ sm (fun x => near x (S0 ++ [s])) qs (0 + c) (b + 1 - c) := sm_le fun i hi1 hi2 => by
        rw [near_snoc ne0]
        have := c3 i (by omega) (by omega)
        exact Int.le_min.mpr ⟨this, Int.le_refl _⟩
      have up0 : ∀ b', b' < qs.length → B b' ≤ sm (fun x => near x S0) qs 0 (b' + 1) := fun b' hb' => h.up b' hb' S0 ne0 (by omega) p1
      rcases Nat.eq_zero_or_pos c with rfl | cp
      · have h3 := pt_le asc (Nat.zero_le b) hb s
        have h4 := h.top b hb
        have h5 := le b hb
        have e0 : sm (fun x => near x (S0 ++ [s])) qs 0 0 = 0 := rfl
        rw [Nat.zero_add] at a2
        rw [Nat.zero_add]
        omega
      · by_cases cb : c = b + 1
        · subst cb
          have h3 := up0 b hb
          have h5 := le b hb
          have e0 : ∀ f, sm f qs (0 + (b + 1)) (b + 1 - (b + 1)) = 0 := fun f => by rw [Nat.sub_self]; rfl
          rw [e0]
          omega
        · have h3 := up0 (c - 1) (by omega)
          rw [show c - 1 + 1 = c by omega] at h3
          have h4 := (h1 b (by omega) hb).2.1 (c - 1) (by omega)
          rw [show c - 1 + 1 = c by omega] at h4
          have h5 := pt_le asc (a := c) (b := b) (by omega) hb s
          rw [Nat.zero_add] at a2 ⊢
          omega
theorem upto_all {S : List Int} (hn : 0 < qs.length) : upto qs S (qs.length - 1) = cost qs S := by
  unfold upto cost
  rw [show qs.length - 1 + 1 = qs.length by omega, ← sm_take _ (Nat.le_refl _), List.take_length]
/-- the law's table tells the least cost -/
theorem tbl_best {t k cnt : Nat} {B : Nat → Int} {p : Pr} (h : Tbl qs t B) (b : BestOf qs k p) (hn : 0 < qs.length) (hk : k = min cnt qs.length) (k1 : 1 ≤ cnt) (ht : t + 1 ≤ cnt) :
    p.1 ≤ B (qs.length - 1) ∧ (t + 1 = cnt → p.1 = B (qs.length - 1)) := by
  have lo : p.1 ≤ B (qs.length - 1) := by
    obtain ⟨S, s1, s2, s3, s4⟩ := h.low (qs.length - 1) (by omega)
    rw [upto_all asc hn] at s4
    rw [show qs.length - 1 + 1 = qs.length by omega, List.take_length] at s3
    have := s3.length_le
    have := (b.all asc (by omega) s3 s1 (by omega)).1
    omega
  refine ⟨lo, fun e => ?_⟩
  have hl := b.len
  have ne : p.2 ≠ [] := fun z => by rw [z] at hl; simp at hl; omega
  have := h.up (qs.length - 1) (by omega) p.2 ne (by omega) (List.Pairwise.sublist b.sub asc)
  rw [upto_all asc hn, ← b.eq] at this
  omega
end
end Kp

set_option Elab.async false
set_option linter.all false
set_option maxRecDepth 100000
set_option maxHeartbeats 4000000
namespace PySem.W
open PySem PySem.Calls PyProof.Rows Builtin
section
variable {prog : Program} {w : World} {A : Around} {E : Value → Shared → Prop} {s : Shared} {K : Frag} {x C L f : Addr} {h₀ : Heap} {m : Str → Option Value} {ox : Obj} {od : Option Obj} {b tb : Value}
theorem own_ne_K {Q : Value → Shared → Prop} (hu : A.units < cLine) (hu1 : A.in1.units < cLine) (FF : Fr h₀ L s.heap m) (X₀ : K.In h₀) (I : InstAt s.heap x ox C od) (hb : Looks (model prog w) s.heap (typeOf b) tb) (hn : notFirst K C tb = true)
    (hs : findIn K (.ref C) "__eq__" = some (some (.ref f))) (hf : isFn K (.ref f) = true) (hne : findIn K (.ref C) "__ne__" = some (some (.builtin "object.__ne__"))) (hm : mroIn K C (.type "object") = some true)
    (h : wpAny (model prog w) A.in1 (call (.ref f) [.ref x, b]) (fun v s' => ∃ c, v = .bool c ∧ Q (.bool (!c)) s') E s) : wpAny (model prog w) A (richCompare .NotEq (.ref x) b) Q E s := by
  have X := X₀.keeps FF.keep
  have hi : Looks (model prog w) s.heap (isInstance (.ref x) (.type "object")) true := I.type.andThen (looks_mroIn X hm)
  have body : ∀ R : Result → Shared → Prop, (∀ c s', Q (.bool c) s' → R (.ok (.ret (.bool c))) s') → (∀ e s', E e s' → R (.error e) s') →
      wpAny (model prog w) A.in1 (Builtin.«object.__ne__» ⟨[.ref x, b], []⟩) (GQ.FinOf prog w A R) (fun e s' => R (.error e) s') s := by
    intro R hR hE
    unfold Builtin.«object.__ne__»
    repeat (first
      | with_reducible refine wpAny_cRoomFor hu1 ?_
      | (refine wpAny_bind (m := callSpecialIfBound? (.ref x) (Str.ofString "__eq__") [b])
          (ifBound_K X I hs hf (wpAny_mono h (fun r s' hr => by
            obtain ⟨c, rfl, hq⟩ := hr
            have hq' := hR _ _ hq
            repeat (first | exact hq' | exact wpAny_pure hq' | exact wpAny_truthy_bool hq' | (refine wpAny_bind (m := truthy (.bool _)) (wpAny_truthy_bool ?_)) | wp_step)) fun _ _ e => hE _ _ e)))
      | wp_step)
  have own_call : ∀ {Q' : Value → Shared → Prop}, wpAny (model prog w) A.in1 (Builtin.«object.__ne__» ⟨[.ref x, b], []⟩) (GQ.FinOf prog w A (wants Q' E)) (fun e s' => wants Q' E (.error e) s') s → wpAny (model prog w) A (call (.builtin "object.__ne__") ([.ref x] ++ [b])) Q' E s := fun h =>
    wpAny_call (codeAny_call_builtin F.cmp_object.ne.plain F.cmpEntry_ne (check_slot F.cmpKind_ne F.cmpSplit_ne hi (F.cmpArgs_ne _ _) h))
  have one : wpAny (model prog w) A (tryCompare (.ref x) "__ne__" b) (fun r s' => ∃ v, r = some v ∧ Q v s') E s := by
    unfold tryCompare
    refine wpAny_bind ?_
    simp only [callSpecialIfBound?, bindSpecialIfBound?]
    refine wpAny_holding (wpAny_bind (wpAny_bind (wpAny_bind (I.type.here ((looks_findIn X hne).here ?_)))))
    refine wpAny_bind (wpAny_askSetting (wpAny_ite ?_))
    have hbd := F.cmp_object.ne.bind (.ref x)
    have fin : wpAny (model prog w) A (call (.builtin "object.__ne__") ([.ref x] ++ [b]) >>= fun v => pure (some v)) (fun r s' => wpAny (model prog w) A (match r with | some .notImplemented | none => pure none | some v => pure (some v)) (fun r s' => ∃ v, r = some v ∧ Q v s') E s') E s := by
      refine wpAny_bind (own_call (body _ (fun c s' q => ?_) (fun e s' q => q)))
      exact wpAny_pure (wpAny_pure ⟨_, rfl, q⟩)
    split
    · rw [hbd]
      exact wpAny_bind (wpAny_pure (wpAny_pure (by exact fin)))
    · rw [hbd]
      exact wpAny_tryCatch (wpAny_bind (wpAny_pure (wpAny_pure (by exact fin))))
  unfold richCompare
  simp only [oneThing_ref]
  refine wpAny_holding (wpAny_bind (wpAny_cRoomFor hu ?_))
  refine wpAny_bind (I.type.here (wpAny_bind (hb.here ?_)))
  split
  · rename_i q
    have e : subIn K tb (.ref C) = some false := by
      rcases Bool.or_eq_true_iff.mp hn with e | e
      · rw [beq_iff_eq.mp e] at q; simp at q
      · exact beq_iff_eq.mp e
    refine wpAny_bind ((looks_subIn X e).here ?_)
    simp only [Bool.false_eq_true, if_false]
    refine wpAny_bind (wpAny_mono one (fun r s' z => ?_) fun _ _ e => e)
    obtain ⟨v, rfl, hq⟩ := z
    exact wpAny_pure hq
  · refine wpAny_bind (wpAny_pure ?_)
    simp only [Bool.false_eq_true, if_false]
    refine wpAny_bind (wpAny_mono one (fun r s' z => ?_) fun _ _ e => e)
    obtain ⟨v, rfl, hq⟩ := z
    exact wpAny_pure hq
end
end PySem.W

namespace Sp1
open PySem PySem.Spec PyProof.Rows L2
section
variable {X : Cx} {pins : List (Addr × Obj)} {σ : L2.St} {H : Hp} {s : Shared}
abbrev in1x (X : Cx) : Cx := { X with A := X.A.in1 }
theorem inv_in1 (I : Inv X pins σ H s) : Inv (in1x X) pins σ H s :=
  ⟨⟨I.ok.mod, I.ok.kind, I.ok.glob, I.ok.blt, I.ok.above, I.ok.inj, I.ok.has, I.ok.cab, I.ok.hd, I.ok.frames, I.ok.stk, I.ok.exf, I.ok.bs, I.ok.bsz, I.ok.noex, I.ok.exfs, I.ok.funs, I.ok.frf⟩, I.os, I.bare, I.base, I.loc, I.cell, I.free, I.freeC, I.pin, I.hok, I.len⟩
theorem inv_out1 (ok : X.Ok) (I : Inv (in1x X) pins σ H s) : Inv X pins σ H s :=
  ⟨ok, I.os, I.bare, I.base, I.loc, I.cell, I.free, I.freeC, I.pin, I.hok, I.len⟩
end
section
variable {X : Cx}
/-- what is read of the second operand of an own == -/
abbrev rOwnCmp (K : PySem.W.Frag) (C : Addr) (sp : Sp) (g : Bool → V) : R2 := fun x y H Q => ∃ a dx fs t, x = V.ref a ∧ H a = some (.ins C dx fs) ∧ TyX K H y t ∧ PySem.W.notFirst K C t = true ∧ sp [.ref a, y] H (fun v H' => ∃ b : Bool, v = .bl b ∧ Q (g b) H') (fun _ _ _ => False)
theorem op_eqOwn {k : Nat} {C f : Addr} {fd : FuncData} {sp : Sp} {a1 a2 : Str} (F : FnOk X.prog X.w X.K X.mg X.base CX0 k f fd [a1, a2] sp) (hr : Room (k + 1) X.A) (hb : L2.Binds X.K fd [a1, a2] [])
    (hs : PySem.W.findIn X.K (.ref C) "__eq__" = some (some (.ref f))) (hf : PySem.W.isFn X.K (.ref f) = true) : OpR X (compareOp .Eq) (rOwnCmp X.K C sp V.bl) := by
  intro pins s σ H x y v u Q I rx ry h
  obtain ⟨a, dx, fs, t, rfl, ea, ty, hn, q⟩ := h
  obtain rfl : v = Value.ref a := rx
  obtain ⟨mA, O, _, _, _, _⟩ := ins_get I.hok ea
  obtain ⟨od, J, _⟩ := O.look
  obtain ⟨m, Fm⟩ := I.fr
  obtain ⟨P, Z, p, _⟩ := kit_of I ry ty
  refine PySem.W.cmp_K (op := .Eq) hr.units0 Fm I.ok.mod.kin J (Z.ty _ _ I.kIn p) hn hs hf ?_
  refine thn (run_fn (X := X) (vs := [.ref a, y]) (us := [.ref a, u]) F (hr.mono (by omega)) hb .nil pass0 I (.cons rfl (.cons ry .nil)) q) fun w s' hw => ?_
  obtain ⟨z, H', I', rv, b, rfl, q'⟩ := hw
  obtain rfl : w = Value.bool b := rv
  exact ⟨.bl b, H', I', rfl, q'⟩
theorem op_neOwn {k : Nat} {C f : Addr} {fd : FuncData} {sp : Sp} {a1 a2 : Str} (F : FnOk X.prog X.w X.K X.mg X.base CX0 k f fd [a1, a2] sp) (hr : Room (k + 2) X.A) (hb : L2.Binds X.K fd [a1, a2] [])
    (hs : PySem.W.findIn X.K (.ref C) "__eq__" = some (some (.ref f))) (hf : PySem.W.isFn X.K (.ref f) = true) (hne : PySem.W.findIn X.K (.ref C) "__ne__" = some (some (.builtin "object.__ne__"))) (hm : PySem.W.mroIn X.K C (.type "object") = some true) :
    OpR X (compareOp .NotEq) (rOwnCmp X.K C sp fun b => V.bl (!b)) := by
  intro pins s σ H x y v u Q I rx ry h
  obtain ⟨a, dx, fs, t, rfl, ea, ty, hn, q⟩ := h
  obtain rfl : v = Value.ref a := rx
  obtain ⟨mA, O, _, _, _, _⟩ := ins_get I.hok ea
  obtain ⟨od, J, _⟩ := O.look
  obtain ⟨m, Fm⟩ := I.fr
  obtain ⟨P, Z, p, _⟩ := kit_of I ry ty
  have hr' : Room (k + 1) X.A := hr.mono (by omega)
  refine PySem.W.own_ne_K hr.units0 hr.in1.units0 Fm I.ok.mod.kin J (Z.ty _ _ I.kIn p) hn hs hf hne hm ?_
  refine thn (run_fn (X := in1x X) (vs := [.ref a, y]) (us := [.ref a, u]) F hr'.in1 hb .nil pass0 (inv_in1 I) (.cons rfl (.cons ry .nil)) q) fun w s' hw => ?_
  obtain ⟨z, H', I', rv, b, rfl, q'⟩ := hw
  obtain rfl : w = Value.bool b := rv
  exact ⟨b, rfl, .bl (!b), H', inv_out1 I.ok I', rfl, q'⟩
end
/-- what isinstance and object.__ne__ ask of a class -/
structure ObIs (K : PySem.W.Frag) (C : Addr) : Prop where
  ha : PySem.W.findIn K (.ref C) "__class__" = some (some (.builtin "object.__class__"))
  hn : PySem.W.specialIn K (.builtin "object.__class__") "__get__" = some (some (.builtin "getset_descriptor.__get__"))
  ht : PySem.W.takesIn K (.builtin "object.__class__") = some true
  hm : PySem.W.mroIn K C (.type "object") = some true
theorem ty_ins {K : PySem.W.Frag} {C : Addr} {H : Hp} {a : Addr} {dx : Addr} {fs : List (Str × V)} (h1 : H a = some (.ins C dx fs)) (c : Cls K C) (I : ObIs K C) : TyX K H (.ref a) (.ref C) := .base (.ins h1 c I.ha I.hn I.ht I.hm)
theorem kit_self {K : PySem.W.Frag} {t : Value} : PySem.W.kitOne K t t = some true := by
  unfold PySem.W.kitOne
  rw [if_pos (by simp)]
theorem first_self {K : PySem.W.Frag} {C : Addr} : PySem.W.notFirst K C (.ref C) = true := by
  unfold PySem.W.notFirst
  simp
/-! equal data -/
mutual
def plainD : PyData → Bool
  | .int _ => true
  | .str _ => true
  | .tuple ds => plainAll ds
  | _ => false
def plainAll : List PyData → Bool
  | [] => true
  | d :: ds => plainD d && plainAll ds
end
theorem plainAll_iff {ds : List PyData} : plainAll ds = true ↔ ∀ d ∈ ds, plainD d = true := by
  induction ds with
  | nil => simp [plainAll]
  | cons d r ih => simp [plainAll, ih]
mutual
theorem eqv_eq : ∀ d e : PyData, plainD d = true → plainD e = true → PyData.eqv d e = true → d = e
  | .int i, .int j, _, _, h => by
    have h : decide (i = j) = true := h
    rw [of_decide_eq_true h]
  | .str i, .str j, _, _, h => by
    have h : decide (i = j) = true := h
    rw [of_decide_eq_true h]
  | .tuple ds, .tuple es, h1, h2, h => by
    simp only [plainD] at h1 h2
    rw [eqvAll_eq ds es h1 h2 h]
  | .int _, .str _, _, _, h => by cases h
  | .int _, .tuple _, _, _, h => by cases h
  | .str _, .int _, _, _, h => by cases h
  | .str _, .tuple _, _, _, h => by cases h
  | .tuple _, .int _, _, _, h => by cases h
  | .tuple _, .str _, _, _, h => by cases h
  | .none, _, h, _, _ => by simp [plainD] at h
  | .bool _, _, h, _, _ => by simp [plainD] at h
  | .list _, _, h, _, _ => by simp [plainD] at h
  | .dict _, _, h, _, _ => by simp [plainD] at h
  | _, .none, _, h, _ => by simp [plainD] at h
  | _, .bool _, _, h, _ => by simp [plainD] at h
  | _, .list _, _, h, _ => by simp [plainD] at h
  | _, .dict _, _, h, _ => by simp [plainD] at h
theorem eqvAll_eq : ∀ ds es : List PyData, plainAll ds = true → plainAll es = true → PyData.eqvAll ds es = true → ds = es
  | [], [], _, _, _ => rfl
  | [], _ :: _, _, _, h => by cases h
  | _ :: _, [], _, _, h => by cases h
  | d :: ds, e :: es, h1, h2, h => by
    simp only [plainAll, Bool.and_eq_true] at h1 h2
    have h : (PyData.eqv d e && PyData.eqvAll ds es) = true := h
    rw [Bool.and_eq_true] at h
    rw [eqv_eq d e h1.1 h2.1 h.1, eqvAll_eq ds es h1.2 h2.2 h.2]
end
theorem eqv_ne {d e : PyData} (h1 : plainD d = true) (h2 : plainD e = true) (h : d ≠ e) : PyData.eqv d e = false := by
  rw [Bool.eq_false_iff]
  exact fun z => h (eqv_eq d e h1 h2 z)
end Sp1

set_option Elab.async false
set_option linter.all false
set_option maxRecDepth 100000
set_option maxHeartbeats 4000000
/-! t[::-1], t a tuple -/
namespace HT
open PySem PyProof.Rows
section
variable {prog : Program} {w : World} {A : Around} {E : Value → Shared → Prop} {s : Shared}
theorem places_rev (n : Nat) : Builtin.Slice.slicePlaces ((n : Int) - 1) (-1) (-1) = n := by
  unfold Builtin.Slice.slicePlaces
  have h1 : ¬ ((-1 : Int) > 0) := by omega
  simp only [h1, if_false]
  by_cases h : (n : Int) - 1 > -1
  · rw [if_pos h, show -(-1 : Int) = 1 from rfl, Int.ediv_one]
    omega
  · rw [if_neg h]
    omega
theorem sliceApplied_rev {sl : Addr} {tk : Tok} {n : Nat} {Q : Int × Int × Nat → Shared → Prop} (hs : s.heap.IsSliceOf sl .none .none (.int (-1) tk))
    (h : Q ((n : Int) - 1, -1, n) s) : wpAny (model prog w) A (Builtin.Slice.sliceApplied (.ref sl) (pure (n : Int))) Q E s := by
  obtain ⟨os, hos, hcs, hds⟩ := id hs
  unfold Builtin.Slice.sliceApplied Builtin.Slice.sliceFields
  refine wpAny_bind (wpAny_bind (wpAny_field hos hds (x := .none) rfl (wpAny_bind (wpAny_field hos hds (x := .none) rfl (wpAny_bind (wpAny_field hos hds (x := .int (-1) tk) rfl (wpAny_pure ?_)))))))
  refine wpAny_bind (slicePart_int ?_)
  show wpAny _ _ (if ((-1 : Int) == 0) = true then _ else _) _ _ s
  rw [if_neg (by decide)]
  refine wpAny_bind (slicePart_none (wpAny_bind (slicePart_none (wpAny_bind (wpAny_pure ?_)))))
  show wpAny _ _ (pure ((n : Int) - 1, (-1 : Int), Builtin.Slice.slicePlaces ((n : Int) - 1) (-1) (-1))) _ _ s
  rw [places_rev]
  exact wpAny_pure h
theorem pick_rev (xs : Array Value) : ((List.range xs.size).filterMap fun (m : Nat) => xs[((xs.size : Int) - 1 + (m : Int) * -1).toNat]?).toArray = xs.toList.reverse.toArray := by
  congr 1
  have e : ∀ n, n ≤ xs.size → ((List.range n).filterMap fun (m : Nat) => xs[((xs.size : Int) - 1 + (m : Int) * -1).toNat]?) = xs.toList.reverse.take n := by
    intro n
    induction n with
    | zero => intro _; simp
    | succ n ih =>
      intro hn
      rw [List.range_succ, List.filterMap_append, ih (by omega)]
      have e1 : ((xs.size : Int) - 1 + (n : Int) * -1).toNat = xs.size - 1 - n := by omega
      have hl : n < xs.toList.reverse.length := by simp; omega
      rw [List.take_add_one, List.getElem?_eq_getElem hl]
      simp only [List.filterMap_cons, List.filterMap_nil, e1, Option.toList]
      have h2 : xs.size - 1 - n < xs.size := by omega
      rw [Array.getElem?_eq_getElem h2]
      simp [List.getElem_reverse]
  rw [e _ (Nat.le_refl _)]
  exact List.take_of_length_le (by simp)
theorem getItem_tuple_rev {t sl : Addr} {items : Array Value} {tk : Tok} {Q : Value → Shared → Prop} (ht : IsTup s.heap t items) (hs : s.heap.IsSliceOf sl .none .none (.int (-1) tk))
    (h : Q (.ref s.heap.objs.size) { s with heap := s.heap.push { cls := .type "tuple", data := .seq items.toList.reverse.toArray } })
    (hsz : items.size ≤ sizeLine) : wpAny (model prog w) A (getItem (.ref t) (.ref sl)) Q E s := by
  have htake : sizeOk (.seq items.toList.reverse.toArray) := by
    show items.toList.reverse.toArray.size ≤ sizeLine
    rw [List.size_toArray, List.length_reverse, Array.length_toList]
    exact hsz
  obtain ⟨os, hos, hcs, hds⟩ := id hs
  have hTs : s.TypeIs (.ref sl) "slice" := ⟨os, hos, hcs⟩
  unfold getItem
  try with_reducible refine wpAny_holding ?_
  first | refine wpAny_bind (wpAny_pure ?_) | skip
  refine wpAny_bind (wpAny_sequenceKey ht.typeIs (by decide) ?_)
  refine wpAny_bind (wpAny_callSpecial?_slot (name := Str.ofString "__getitem__") ht.typeIs PyProof.Rows.slot_tuple_getitem
    (wpAny_call_entry PyProof.Rows.slot_tuple_getitem ht.typeIs entry_tuple_getitem ?_ (args_tuple_getitem _ _)))
  show wpAny _ _ (Builtin.Tuple.tupleItemsOf (.ref t) >>= _) _ _ s
  refine wpAny_bind (tupleItemsOf_ ht ?_)
  refine wpAny_bind (wpAny_typeOf hTs ?_)
  rw [if_pos (by decide)]
  refine wpAny_bind (sliceApplied_rev hs ?_)
  have hno : ¬ ((((items.size : Int) - 1) == 0 && (-1 : Int) == 1 && items.size == items.size) = true) := by
    intro q
    rw [Bool.and_eq_true, Bool.and_eq_true] at q
    exact absurd q.1.2 (by decide)
  show wpAny _ _ (if (((items.size : Int) - 1) == 0 && (-1 : Int) == 1 && items.size == items.size) = true then _ else _) _ _ s
  rw [if_neg hno, pick_rev]
  first
    | exact wpAny_bind (m := Builtin.Tuple.tupleExact _) (wpAny_newObj_type (wpAny_pure ⟨_, rfl, wpAny_pure h⟩) htake)
    | exact wpAny_bind (m := Builtin.Tuple.tupleExact _) (wpAny_newObj_type (wpAny_bind (wpAny_pure (wpAny_pure ⟨_, rfl, wpAny_pure h⟩))) htake)
    | exact wpAny_bind (wpAny_bind (m := Builtin.Tuple.tupleExact _) (wpAny_newObj_type (wpAny_pure (wpAny_pure ⟨_, rfl, wpAny_pure h⟩)) htake))
    | exact wpAny_bind (wpAny_bind (m := Builtin.Tuple.tupleExact _) (wpAny_newObj_type (wpAny_pure ⟨_, rfl, wpAny_pure h⟩) htake))
end
end HT
namespace Sp1
open PySem PySem.Spec PyProof.Rows L2
section
variable {X : Cx} {e se : Expr} {te ts : TE} {pos p2 : Pos}
def tRevT (K : PySem.W.Frag) (te ts : TE) : TE := fun σ H Q => te σ H fun x H1 => ts σ H1 fun v H2 => v = .int (-1) ∧ ∃ a xs, x = .ref a ∧ SqT K H2 a xs ∧ ∀ p, H2 p = none → Q (.ref p) (upd H2 p (.tup xs.reverse))
theorem vals_rev : ∀ {xs : List V} {us : List Value}, Vals xs us → Vals xs.reverse us.reverse
  | _, _, .nil => .nil
  | _, _, .cons r t => by
    rw [List.reverse_cons, List.reverse_cons]
    exact (vals_rev t).append (.cons r .nil)
theorem pe_revT (he : PE X e te) (hs : PE X se ts) : PE X (.Subscript e (.Slice none none (some se) p2) pos) (tRevT X.K te ts) := by
  refine ⟨fun pins s σ H Q I h => ?_⟩
  refine Subscript_ (thn (he.run pins s σ H _ I h) fun v s1 ⟨x, H1, I1, r1, q1⟩ => ?_)
  refine wpAny_Slice ?_
  rw [evalPart_none]
  refine wpAny_pure ?_
  refine wpAny_pure ?_
  rw [evalPart_some]
  refine thn (hs.run pins s1 σ H1 _ I1 q1) fun vs s3 ⟨y, H3, I3, r3, q3⟩ => ?_
  obtain ⟨rfl, a, xs, rfl, hx, q⟩ := q3
  obtain ⟨t, rfl⟩ := r3
  obtain rfl : v = Value.ref a := r1
  have I4 : Inv X pins σ H3 { s3 with heap := s3.heap.push { cls := .type "slice", data := .fields #[.none, .none, .int (-1) t] } } := I3.kept (t' := s3.toks) fun b ob q => Heap.get?_push_of_some _ q
  obtain ⟨its, r, ht, hz⟩ := I4.tuple hx
  show wpAny (model X.prog X.w) X.A (subscriptTail e (.Slice none none (some se) p2) (.ref a) (.ref s3.heap.objs.size)) (EP X pins σ Q) X.xe { s3 with heap := s3.heap.push { cls := .type "slice", data := .fields #[.none, .none, .int (-1) t] } }
  refine tail_any (ops := [.ref a, .ref s3.heap.objs.size]) ht.typeIs PyProof.Rows.slot_tuple_getitem.lookup ?_ (by with_unfolding_all rfl)
  refine HT.getItem_tuple_rev ht (Heap.IsSliceOf.new ..) ?_ (by rw [List.size_toArray]; rw [← r.length]; exact hz)
  refine ⟨.ref _, _, I4.laid (o := .tup xs.reverse) (fun b ob q => Heap.get?_push_of_some _ q) (Nat.le_refl _) ?_, rfl, q _ (I4.hok.fresh (Nat.le_refl _))⟩
  refine ⟨by rw [List.length_reverse]; exact hz, _, vals_rev r, ?_⟩
  exact IsTup.new _ _
end
end Sp1

set_option Elab.async false
set_option linter.all false
set_option maxRecDepth 100000
set_option maxHeartbeats 4000000
namespace Sp1
open PySem PySem.W PySem.Spec PyProof.Rows L2
theorem nodup_len {α : Type} {ys xs : List α} (h : ys.Nodup) (h' : ∀ k ∈ ys, k ∈ xs) : ys.length ≤ xs.length := List.Nodup.length_le_of_subset h h'
section
variable {P : Program} {w : World} {A : Around} {E : Value → Shared → Prop} {s : Shared}
/-- a text that is in it changes nothing -/
theorem addT_old {a : Addr} {k : Str} {tk : Tok} {xs : List Str} {Q : Bool → Shared → Prop} (S : SetS w s.heap a xs) (old : k ∈ xs) (q : Q false s) :
    wpAny (model P w) A (setAddHashed a (.str k tk) ((strKind P w).hash k)) Q E s := by
  obtain ⟨nd, o, es, ep, t, ho, hex, hd, g, hp, hb, hf, hr, hl⟩ := S
  have sc : (Value.str k tk).scannable = true := rfl
  have el : ElemsOf (strKind P w) es.toList := good_elemsT g
  obtain ⟨j, yes⟩ : ∃ j, List.findIdx? (fun e => (strKind P w).is k e.2) es.toList = some j := by
    cases e : List.findIdx? (fun e => (strKind P w).is k e.2) es.toList with
    | some j => exact ⟨j, rfl⟩
    | none =>
      exfalso
      obtain ⟨e', he, hk⟩ := List.mem_map.mp (hp.mem_iff.mpr old)
      have := List.findIdx?_eq_none_iff.mp e e' he
      obtain ⟨x, tk', h1, _⟩ := g e' he
      unfold skey at hk
      rw [h1] at hk this
      have hk : x = k := hk
      subst hk
      rw [strKind_is P w x tk'] at this
      cases this
  unfold setAddHashed setAddHashedIn
  refine wpAny_holding (wpAny_bind (wpAny_setState_of ho hd hf ?_))
  dsimp only
  rw [byScan_of sc hb el]
  simp only [↓reduceIte]
  unfold setAddByScan
  refine wpAny_bind (wpAny_bind (wpAny_rule (wpAny_bind (wpAny_setScan_of (strKind_is P w k tk) ho hd hf el ?_))))
  rw [yes]
  exact wpAny_pure (wpAny_pure q)
/-- one after another -/
theorem updTd {I : Addr} {fp wr : List Addr} {G : Array GenState → Array GenState → Prop} {n : Nat} {Pv : Nat → Value → Prop} {St : Nat → Shared → Prop} {R : Result → Shared → Prop} (W : WalksS P w A.in1 I fp wr G n Pv St) (S : Addr) (hS : S ∉ fp) (xs : List Str) (hn : n = xs.length)
    (hb : xs.length + 1 < scanBound) (val : ∀ i v, Pv i v → ∃ k t, xs[i]? = some k ∧ v = .str k t) : ∀ (m i : Nat) (z : Shared) (ys : List Str), n - i = m → i ≤ n → St i z → SetS w z.heap S ys → (∀ k, k ∈ ys ↔ k ∈ xs.take i) →
      (∀ z' ys, Moved (S :: wr) G z z' → SetS w z'.heap S ys → (∀ k, k ∈ ys ↔ k ∈ xs) → R (.ok (.ret .none)) z') → codeAny (model P w) A (.builtin "set.update.loop" ⟨[.ref S, .ref I], []⟩) R z := by
  have hSw : S ∉ wr := fun h => hS (W.sub _ h)
  have sub : ∀ b ∈ wr, b ∈ S :: wr := fun b => List.mem_cons_of_mem _
  intro m
  induction m with
  | zero =>
    intro i z ys hm hi hst hSet hp hR
    obtain rfl : i = n := by omega
    refine codeAny_builtin PyProof.Rows.F.entry_set_update_loop ?_
    rw [Around.under_plainId PyProof.Rows.F.plain_set_update_loop _]
    refine wpAny_bind (m := pyNext (.ref I)) (W.done z _ _ hst fun z' hm => ?_)
    rw [List.take_of_length_le (by omega)] at hp
    exact wpAny_pure (hR z' ys (hm.mono sub) (hSet.keeps fun o e => hm.heap S o hSw e) hp)
  | succ m ih =>
    intro i z ys hm hi hst hSet hp hR
    have lt : i < n := by omega
    refine codeAny_builtin PyProof.Rows.F.entry_set_update_loop ?_
    rw [Around.under_plainId PyProof.Rows.F.plain_set_update_loop _]
    refine wpAny_bind (m := pyNext (.ref I)) (W.item i z _ _ lt hst fun v z' hv hst' hm => ?_)
    obtain ⟨k, t, hk, rfl⟩ := val i v hv
    have S' := hSet.keeps (h' := z'.heap) fun o e => hm.heap S o hSw e
    have yl : ys.length ≤ i := by
      have h1 := nodup_len S'.1 fun k hk => (hp k).mp hk
      rw [List.length_take] at h1
      omega
    refine wpAny_bind (m := holding [Value.str k t] (setAdd S (.str k t))) (wpAny_holding ?_)
    unfold setAdd
    refine wpAny_holding (wpAny_bind ((strKind P w).pyHash (strKind_is P w k t) ?_))
    have next : ∀ (h' : Heap) (ys2 : List Str), Heap.SameBut S z'.heap h' → SetS w h' S ys2 → (∀ x, x ∈ ys2 ↔ x ∈ xs.take (i + 1)) → codeAny (model P w) A (.builtin "set.update.loop" ⟨[.ref S, .ref I], []⟩) R { z' with heap := h', toks := z'.toks + 1 } := fun h' ys2 sb r hp2 => by
      refine ih (i + 1) _ ys2 (by omega) lt (W.frame _ z' _ _ hst' (Nat.le_succ _) fun b hb o e => ?_) r hp2 fun z'' ys' hm'' r' p' => ?_
      · rw [sb.2 b (fun h : b = S => hS (by rw [← h]; exact hb))]
        exact e
      · refine hR z'' ys' (Moved.trans W.gtrans ((hm.mono sub).then_heap (Nat.le_succ _) fun b o hb e => ?_) hm'') r' p'
        rw [sb.2 b (fun h : b = S => hb (by rw [h]; exact List.mem_cons_self))]
        exact e
    have htk : xs.take (i + 1) = xs.take i ++ [k] := by
      rw [List.take_add_one, hk]
      rfl
    by_cases old : k ∈ ys
    · refine addT_old (s := { z' with toks := z'.toks + 1 }) S' old ?_
      refine wpAny_pure ⟨plainId_quiet PyProof.Rows.F.plain_set_update_loop _, next z'.heap ys (Heap.SameBut.refl _ _) S' fun x => ?_⟩
      rw [htk, List.mem_append, List.mem_singleton, ← hp x]
      exact ⟨.inl, fun h => h.elim id fun e => e ▸ old⟩
    · refine addT_new (s := { z' with toks := z'.toks + 1 }) S' old (by omega) fun h' sb r => ?_
      refine wpAny_pure ⟨plainId_quiet PyProof.Rows.F.plain_set_update_loop _, next h' (k :: ys) sb r fun x => ?_⟩
      rw [htk, List.mem_append, List.mem_singleton, ← hp x, List.mem_cons]
      exact ⟨Or.symm, Or.symm⟩
end
section
variable {P : Program} {w : World} {A : Around} {s : Shared}
/-- filling a new set from texts that differ, by any walk over them -/
theorem fillTd {S I : Addr} {h0 : Heap} {vs : Array Value} {xs : List Str} {it : Obj} {St : Nat → Shared → Prop} {R : Result → Shared → Prop} (hS : h0.get? S = some (set0 w)) (hI : I = h0.objs.size) {l : Addr} (W : WalksS P w A.in1 I [I, l] [I] (fun a b => b = a) vs.size (fun i v => vs[i]? = some v) St) (hl : l < h0.objs.size) (hlS : l ≠ S)
    (hv : StrsAre vs.toList xs) (hb : xs.length + 1 < scanBound) (st : St 0 { s with heap := h0.push it })
    (h1 : ∀ (h' : Heap) (tk : Nat) ys, SetS w h' S ys → (∀ k, k ∈ ys ↔ k ∈ xs) → (∀ b o, b ≠ S → h0.get? b = some o → h'.get? b = some o) → R (.ok (.ret .none)) { s with heap := h', toks := tk }) :
    codeAny (model P w) A (.builtin "set.update.loop" ⟨[.ref S, .ref I], []⟩) R { s with heap := h0.push it } := by
  have Sh : S < h0.objs.size := Heap.lt_size hS
  have size : vs.size = xs.length := (Array.length_toList.symm).trans hv.length
  have nS : S ∉ [I, l] := fun z => by
    rcases List.mem_cons.mp z with z | z
    · rw [hI] at z
      exact absurd z (Nat.ne_of_lt Sh)
    · exact hlS (List.mem_singleton.mp z).symm
  have empty : SetS w (h0.push it) S [] := ⟨List.nodup_nil, _, #[], 0, _, Heap.get?_push_of_some _ hS, ⟨rfl, rfl, rfl⟩, rfl, (fun e he => by simp at he), (List.Perm.refl _), by decide, rfl, List.Pairwise.nil, by
    cases h : w.params.followText "set-order"
    · exact .inr rfl
    · exact .inl rfl⟩
  refine updTd (P := P) (A := A) W S nS xs size hb (fun i v e => ?_) vs.size 0 _ [] rfl (Nat.zero_le _) st empty (fun k => Iff.rfl) fun s' ys m r p => ?_
  · have hi : i < xs.length := by
      have := (Array.getElem?_eq_some_iff.mp e).1
      omega
    obtain ⟨y, t, x, z⟩ := hv.item i v (by rw [Array.getElem?_toList]; exact e)
    exact ⟨y, t, z, x⟩
  · obtain ⟨hp, g, d, tk, os⟩ := s'
    obtain ⟨mh, mg, md, mo, _⟩ := m
    dsimp only at mg md mo mh r
    subst mg md mo
    refine h1 hp tk ys r p fun b o hb e => mh b o (fun z => ?_) (Heap.get?_push_of_some _ e)
    rcases List.mem_cons.mp z with z | z
    · exact hb z
    · have z := List.mem_singleton.mp z
      rw [hI] at z
      exact absurd z (Nat.ne_of_lt (Heap.lt_size e))
end
section
variable {X : Cx}
/-- set(l) of a list or a tuple of texts that differ -/
def rSetTd (K : PySem.W.Frag) (w : World) : List V → Hp → VK → Prop := fun vs H Q => ∃ (l : Addr) (xs : List Str), vs = [V.ref l] ∧ (SqL K H l (xs.map V.str) ∨ SqT K H l (xs.map V.str)) ∧ xs.length ≤ 1000 ∧
  ∀ (a : Addr) (ys : List Str), H a = none → ys.Nodup → (∀ k, k ∈ ys ↔ k ∈ xs) → Q (.ref a) (upd H a (SetSO w a ys))
theorem cr_setTd (hc : X.calm = true) : CallR X (.type "set") (rSetTd X.K X.w) := by
  intro pins s σ H vs us Q I r h
  obtain ⟨l, xs, rfl, hq, h1000, q⟩ := h
  rw [Vals.ref1 r]
  have hlt : ∀ b o, s.heap.get? b = some o → b ≠ s.heap.objs.size := fun b o e => Nat.ne_of_lt (Heap.lt_size e)
  have fin : ∀ (h' : Heap) (tk : Nat), (∃ ys, SetS X.w h' s.heap.objs.size ys ∧ ys.Nodup ∧ (∀ k, k ∈ ys ↔ k ∈ xs)) → (∀ b o, s.heap.get? b = some o → h'.get? b = some o) → EP X pins σ Q (.ref s.heap.objs.size) { s with heap := h', toks := tk } :=
    fun h' tk ⟨ys, S, p⟩ k => ⟨.ref _, upd H s.heap.objs.size (SetSO X.w s.heap.objs.size ys), I.laid (t' := tk) k (Nat.le_refl _) (setSO_new S), rfl, q _ _ (I.hok.fresh (Nat.le_refl _)) p.1 p.2⟩
  have push : ∀ b o, s.heap.get? b = some o → (s.heap.push (set0 X.w)).get? b = some o := fun b o e => Heap.get?_push_of_some _ e
  rcases hq with hl | hl
  · obtain ⟨its, rv, pl, hz⟩ := I.list hl
    obtain ⟨⟨oc, od, dt, os⟩, e1, e2, n, e3⟩ := id pl.isList
    dsimp only at e2 e3
    subst e2 e3
    refine set_of_walk (Φ := fun h' => ∃ ys, SetS X.w h' s.heap.objs.size ys ∧ ys.Nodup ∧ (∀ k, k ∈ ys ↔ k ∈ xs)) (I.ok.hd hc) e1 PySem.F.sub_list_set PySem.F.sub_list_frozenset (by decide) (fun A' R E' hh hR => ?_) fin
    have hl1 : (s.heap.push (set0 X.w)).IsList l its.toArray := ⟨_, push _ _ e1, rfl, n, rfl⟩
    have lt1 := Heap.lt_size (push _ _ e1)
    refine wpAny_pyIter_list hl1 ?_
    exact fillTd (s := s) (h0 := s.heap.push (set0 X.w)) (Heap.get?_push_size _ rfl) rfl (Walks.list (A := A'.in1) hh _ l (Nat.ne_of_lt lt1) its.toArray).toS lt1 (hlt _ _ e1) (by simpa using rv.strs) (by unfold scanBound; omega)
      ⟨⟨_, Heap.get?_push_size _ rfl, rfl, rfl⟩, hl1.push _⟩ fun h' tk ys S p k => hR h' tk ⟨ys, S, S.1, p⟩ fun b o e => k b o (hlt b o e) (push b o e)
  · obtain ⟨its, rv, pl, hz⟩ := I.tuple hl
    obtain ⟨⟨oc, od, dt, os⟩, e1, e2, n, e3⟩ := id pl
    dsimp only at e2 e3
    subst e2 e3
    refine set_of_walk (Φ := fun h' => ∃ ys, SetS X.w h' s.heap.objs.size ys ∧ ys.Nodup ∧ (∀ k, k ∈ ys ↔ k ∈ xs)) (I.ok.hd hc) e1 PySem.F.sub_tuple_set PySem.F.sub_tuple_frozenset (by decide) (fun A' R E' hh hR => ?_) fin
    have hl1 : (s.heap.push (set0 X.w)).IsTuple l its.toArray := ⟨_, push _ _ e1, rfl, n, rfl⟩
    have lt1 := Heap.lt_size (push _ _ e1)
    refine wpAny_pyIter_tuple hl1 ?_
    exact fillTd (s := s) (h0 := s.heap.push (set0 X.w)) (Heap.get?_push_size _ rfl) rfl (Walks.tuple (A := A'.in1) hh _ l (Nat.ne_of_lt lt1) its.toArray).toS lt1 (hlt _ _ e1) (by simpa using rv.strs) (by unfold scanBound; omega)
      ⟨⟨_, Heap.get?_push_size _ rfl, rfl, rfl⟩, hl1.push _⟩ fun h' tk ys S p k => hR h' tk ⟨ys, S, S.1, p⟩ fun b o e => k b o (hlt b o e) (push b o e)
end
end Sp1

set_option Elab.async false
set_option linter.all false
set_option maxRecDepth 100000
set_option maxHeartbeats 4000000
namespace PySem.SeqAt
open AutoSeq1 (wpAny_loadPart')
open MeetsSeq
theorem dict_eq_declines_str (l : Addr) (es : Array DictEntry) (n : Nat) (dd : Option Addr) (sl : Array (Option Value)) (b : Str) (u : Tok) :
    Meets (Builtin.«dict.__eq__» ⟨[.ref l, .str b u], []⟩) (fun _ R s => s.heap.get? l = some { cls := .type "dict", dict := dd, data := .dict es n, slots := sl } ∧ R (.ok (.ret .notImplemented)) s) :=
  .of_wp fun prog w A R s h => by obtain ⟨hp, g, d, tk, os⟩ := s; obtain ⟨hl, h⟩ := h; have f1 := F.sub_str_dict; wp_walk using wpAny_loadPart' hl; exact ⟨_, rfl, h⟩
theorem str_eq_declines_dict (b : Str) (u : Tok) (l : Addr) (es : Array DictEntry) (n : Nat) (dd : Option Addr) (sl : Array (Option Value)) :
    Meets (Builtin.«str.__eq__» ⟨[.str b u, .ref l], []⟩) (fun _ R s => s.heap.get? l = some { cls := .type "dict", dict := dd, data := .dict es n, slots := sl } ∧ R (.ok (.ret .notImplemented)) s) :=
  .of_wp fun prog w A R s h => by obtain ⟨hp, g, d, tk, os⟩ := s; obtain ⟨hl, h⟩ := h; wp_walk using wpAny_loadPart' hl, wpAny_load hl; exact ⟨_, rfl, h⟩
theorem dict_eq_declines_tuple (l b : Addr) (es : Array DictEntry) (items2 : Array Value) (n n2 : Nat) (dd dd2 : Option Addr) (sl sl2 : Array (Option Value)) :
    Meets (Builtin.«dict.__eq__» ⟨[.ref l, .ref b], []⟩) (fun _ R s => s.heap.get? l = some { cls := .type "dict", dict := dd, data := .dict es n, slots := sl } ∧ s.heap.get? b = some { cls := .type "tuple", dict := dd2, data := .seq items2 n2, slots := sl2 } ∧ R (.ok (.ret .notImplemented)) s) :=
  .of_wp fun prog w A R s h => by obtain ⟨hp, g, d, tk, os⟩ := s; obtain ⟨hl, hb, h⟩ := h; have f1 := F.sub_tuple_dict; wp_walk using wpAny_loadPart' hl, wpAny_loadPart' hb; exact ⟨_, rfl, h⟩
theorem tuple_eq_declines_dict (l b : Addr) (items : Array Value) (es : Array DictEntry) (n n2 : Nat) (dd dd2 : Option Addr) (sl sl2 : Array (Option Value)) :
    Meets (Builtin.«tuple.__eq__» ⟨[.ref l, .ref b], []⟩) (fun _ R s => s.heap.get? l = some { cls := .type "tuple", dict := dd, data := .seq items n, slots := sl } ∧ s.heap.get? b = some { cls := .type "dict", dict := dd2, data := .dict es n2, slots := sl2 } ∧ R (.ok (.ret .notImplemented)) s) :=
  .of_wp fun prog w A R s h => by obtain ⟨hp, g, d, tk, os⟩ := s; obtain ⟨hl, hb, h⟩ := h; have f1 := F.sub_dict_tuple; wp_walk using wpAny_loadPart' hl, wpAny_loadPart' hb; exact ⟨_, rfl, h⟩
section
variable {A : Around} {s : Shared}
theorem RcAt.dict_str {l : Addr} {es : Array DictEntry} {n : Nat} {dd : Option Addr} {sl : Array (Option Value)} (b : Str) (u : Tok) (ho : s.heap.get? l = some { cls := .type "dict", dict := dd, data := .dict es n, slots := sl }) (hu : A.units < cLine) : RcAt A s (.ref l) (.str b u) false := fun prog w E Q h => by
  exact rc_eq_decline_or (k := false) ⟨_, ho, rfl⟩ (typeIs_str s b u) (by decide) F.sub_str_dict F.slot_dict_eq F.slot_str_eq_refl
    (fun _ hq => call_meets F.slot_dict_eq ⟨_, ho, rfl⟩ F.entry_dict_eq (F.args_dict_eq_2 _ _) (dict_eq_declines_str l es n dd sl b u) ⟨ho, hq⟩)
    (fun _ hq => call_meets F.slot_str_eq_refl (typeIs_str s b u) F.entry_str_eq (F.args_str_eq_2 _ _) (str_eq_declines_dict b u l es n dd sl) ⟨ho, hq⟩)
    (fun _ hq => wpAny_of_eq (rfl : isSame (.ref l) (.str b u) = pure false) hq) (.inr hu) h
theorem RcAt.str_dict {l : Addr} {es : Array DictEntry} {n : Nat} {dd : Option Addr} {sl : Array (Option Value)} (b : Str) (u : Tok) (ho : s.heap.get? l = some { cls := .type "dict", dict := dd, data := .dict es n, slots := sl }) (hu : A.units < cLine) : RcAt A s (.str b u) (.ref l) false := fun prog w E Q h => by
  exact rc_eq_decline_or (k := false) (typeIs_str s b u) ⟨_, ho, rfl⟩ (by decide) F.sub_dict_str F.slot_str_eq (by first | exact F.slot_dict_eq_refl | exact F.slot_dict_eq)
    (fun _ hq => call_meets F.slot_str_eq (typeIs_str s b u) F.entry_str_eq (F.args_str_eq_2 _ _) (str_eq_declines_dict b u l es n dd sl) ⟨ho, hq⟩)
    (fun _ hq => call_meets F.slot_dict_eq ⟨_, ho, rfl⟩ F.entry_dict_eq (F.args_dict_eq_2 _ _) (dict_eq_declines_str l es n dd sl b u) ⟨ho, hq⟩)
    (fun _ hq => wpAny_of_eq (rfl : isSame (.str b u) (.ref l) = pure false) hq) (.inr hu) h
theorem EqAt.str_dict {l : Addr} {es : Array DictEntry} {n : Nat} {dd : Option Addr} {sl : Array (Option Value)} (b : Str) (u : Tok) (ho : s.heap.get? l = some { cls := .type "dict", dict := dd, data := .dict es n, slots := sl }) (hu : A.units < cLine) : EqAt A s (.str b u) (.ref l) false := fun prog w E Q h => by
  unfold eqBool
  refine wpAny_holding ?_
  refine wpAny_ite_split (fun hab => absurd (eq_of_beq hab) nofun) (fun _ => ?_)
  exact wpAny_bind (RcAt.str_dict b u ho hu prog w E _ (wpAny_truthy_bool h))
theorem EqAt.dict_str {l : Addr} {es : Array DictEntry} {n : Nat} {dd : Option Addr} {sl : Array (Option Value)} (b : Str) (u : Tok) (ho : s.heap.get? l = some { cls := .type "dict", dict := dd, data := .dict es n, slots := sl }) (hu : A.units < cLine) : EqAt A s (.ref l) (.str b u) false := fun prog w E Q h => by
  unfold eqBool
  refine wpAny_holding ?_
  refine wpAny_ite_split (fun hab => absurd (eq_of_beq hab) nofun) (fun _ => ?_)
  exact wpAny_bind (RcAt.dict_str b u ho hu prog w E _ (wpAny_truthy_bool h))
theorem RcAt.dict_tuple {l b : Addr} {es : Array DictEntry} {n : Nat} {dd : Option Addr} {sl : Array (Option Value)} {items2 : Array Value} (ho : s.heap.get? l = some { cls := .type "dict", dict := dd, data := .dict es n, slots := sl }) (hb : s.heap.IsTuple b items2) (hu : A.units < cLine) : RcAt A s (.ref l) (.ref b) false := fun prog w E Q h => by
  obtain ⟨⟨cls2, dd2, data2, sl2⟩, ho2, hc2, n2, hd2⟩ := id hb
  simp only at hc2 hd2
  subst hc2 hd2
  have hne : l ≠ b := fun e => by
    subst e
    have z := congrArg Obj.cls (Option.some.inj (ho.symm.trans ho2))
    simp at z
  exact (rc_eq_decline_or (k := false) ⟨_, ho, rfl⟩ ⟨_, ho2, rfl⟩ (by decide) F.sub_tuple_dict F.slot_dict_eq F.slot_tuple_eq_refl
    (fun _ hq => call_meets F.slot_dict_eq ⟨_, ho, rfl⟩ F.entry_dict_eq (F.args_dict_eq_2 _ _) (dict_eq_declines_tuple l b es items2 n n2 dd dd2 sl sl2) ⟨ho, ho2, hq⟩)
    (fun _ hq => call_meets F.slot_tuple_eq_refl ⟨_, ho2, rfl⟩ F.entry_tuple_eq (F.args_tuple_eq_2 _ _) (tuple_eq_declines_dict b l items2 es n2 n dd2 dd sl2 sl) ⟨ho2, ho, hq⟩)
    (fun _ hq => wpAny_isSame_ref_other hne ho ho2 (by simp) hq) (.inr hu) h)
end
end PySem.SeqAt

set_option Elab.async false
set_option linter.all false
set_option maxRecDepth 100000
set_option maxHeartbeats 4000000
/-! sorted of a tuple of texts -/
namespace Sp1S
open PySem PySem.Spec PyProof.Rows
section
variable {prog : Program} {w : World} {A : Around} {E : Value → Shared → Prop} {s : Shared}
theorem collect_tup {l : Addr} {vs : List Value} {Q : List Value → Shared → Prop} (hl : s.heap.IsTuple l vs.toArray)
    (h : Q vs { s with heap := (s.heap.push (seqObj "list" #[] 0)).update s.heap.objs.size (Obj.mapSeq (· ++ vs.toArray)) }) (hsz : vs.length ≤ sizeLine) :
    wpAny (model prog w) A (collect (.ref l)) Q E s := by
  obtain ⟨o, ho, hc, n, hd⟩ := id hl
  unfold collect
  refine wpAny_bind (wpAny_runValue (codeAny_builtin entry_proto_collect' ?_))
  show wpAny _ _ (do again (.builtin "list.__iadd__" ⟨[← newList [], .ref l], []⟩)) _ _ s
  refine wpAny_bind (wpAny_newList (wpAny_pure ⟨Code.quiet_builtin _ (by decide +kernel), codeAny_builtin entry_list_iadd' ?_⟩))
  show wpAny _ _ (Builtin.List.listExtendWith (.ref s.heap.objs.size) (.ref l) (.ref s.heap.objs.size)) _ _ { s with heap := s.heap.push (seqObj "list" #[] 0) }
  unfold Builtin.List.listExtendWith
  have ho' : (s.heap.push (seqObj "list" #[] 0)).get? l = some o := Heap.get?_push_of_some _ ho
  refine wpAny_bind (wpAny_typeOf (T := "tuple") ⟨o, ho', hc⟩ ?_)
  have ht : (Value.type "tuple" == Value.type "tuple") = true := by rfl
  rw [if_pos (by rw [ht]; simp)]
  refine wpAny_bind (listItems_at ho' hd ?_)
  refine wpAny_bind (listItems_at (xs := #[]) (n := 0) (Heap.get?_push_size _ rfl) rfl ?_)
  rw [if_neg (by simp)]
  refine wpAny_bind (listUpdate_at (xs := #[]) (n := 0) (Heap.get?_push_size _ rfl) rfl ?_ (Nat.zero_le _) (by show (#[] ++ vs.toArray).size ≤ sizeLine + 1; simp only [Array.size_append, List.size_toArray, List.length_nil]; omega))
  refine wpAny_pure ?_
  show wpAny (model prog w) A (do
      let o ← load s.heap.objs.size
      match o.data with
      | .seq xs _ => pure xs.toList
      | _ => unsupported "internal:collect") Q E { s with heap := (s.heap.push (seqObj "list" #[] 0)).update s.heap.objs.size (Obj.mapSeq (· ++ vs.toArray)) }
  refine wpAny_bind (wpAny_load (get?_update_seq (Heap.get?_push_size _ rfl) _) ?_)
  show wpAny _ _ (pure ((#[] : Array Value) ++ vs.toArray).toList) Q E _
  rw [show ((#[] : Array Value) ++ vs.toArray).toList = vs by simp]
  exact wpAny_pure h
theorem sortedT {κ : KeyKind} (hO : κ.OneLt) {l : Addr} {vs : List Value} {Q : Value → Shared → Prop} (hl : s.heap.IsTuple l vs.toArray) (h0 : KeysOf κ (pairsOf vs)) (hkk : ∀ v₁ v₂ rest, vs = v₁ :: v₂ :: rest → keyKind' (v₁ :: v₂ :: rest).toArray = pure oneType') (h64 : vs.length < 64)
    (h : ∀ st' : SortSt, (arrOf st').Perm (pairsOf vs) → SortedToK κ (arrOf st') (pairsOf vs).size → Q (.ref (s.heap.objs.size + 1)) { s with heap := sortedAll s.heap vs ((arrOf st').map (·.2)) }) :
    wpAny (model prog w) A (call (.builtin "sorted") [.ref l]) Q E s := by
  refine Calls.call_function_entry kind_sorted plain_sorted entry_sorted (args_sorted1 _) ?_
  unfold Builtin.«sorted»
  refine wpAny_bind (m := checkCount "sorted" 1 1 _) (wpAny_pure ?_)
  refine wpAny_bind (collect_tup hl ?_ (by rw [sizeLine_eq]; omega))
  refine wpAny_bind (wpAny_newList ?_)
  have hsz : ((s.heap.push (seqObj "list" #[] 0)).update s.heap.objs.size (Obj.mapSeq (· ++ vs.toArray))).objs.size = s.heap.objs.size + 1 := by
    rw [Heap.size_update, size_push']
  have hoL : (((s.heap.push (seqObj "list" #[] 0)).update s.heap.objs.size (Obj.mapSeq (· ++ vs.toArray))).push (seqObj "list" vs.toArray 0)).get? (s.heap.objs.size + 1) = some (seqObj "list" vs.toArray 0) := by
    rw [← hsz]; exact Heap.get?_push_size _ rfl
  show wpAny _ _ _ _ _ { s with heap := ((s.heap.push (seqObj "list" #[] 0)).update s.heap.objs.size (Obj.mapSeq (· ++ vs.toArray))).push (seqObj "list" vs.toArray 0) }
  rw [hsz]
  refine wpAny_bind (wpAny_holding (wpAny_call_entry slot_list_sort ⟨_, hoL, rfl⟩ entry_list_sort (list_sort_treeK hO hoL h0 hkk h64 fun st' a1 a2 => ⟨_, rfl, ?_⟩) (args_list_sort _)))
  exact wpAny_pure ⟨_, rfl, h st' a1 a2⟩
theorem sorted_strsT {l : Addr} {vs : List Value} {ss : List Str} {Q : Value → Shared → Prop} (hl : s.heap.IsTuple l vs.toArray) (hS : StrsAre vs ss) (h64 : vs.length < 64)
    (h : ∀ (out : Array Value) (ss' : List Str), StrsAre out.toList ss' → ss'.Perm ss → sortedS ss' = true → Q (.ref (s.heap.objs.size + 1)) { s with heap := sortedAll s.heap vs out }) :
    wpAny (model prog w) A (call (.builtin "sorted") [.ref l]) Q E s := by
  refine sortedT strKind_oneLt hl hS.keysOf (fun v₁ v₂ rest e => keyKind_strs (by rw [← e]; exact hS)) h64 fun st' hp hs => ?_
  obtain ⟨ss', h1, h2, h3⟩ := sorted_out_str hS hp hs
  exact h _ ss' h1 h2 h3
end
end Sp1S
namespace Sp1
open PySem PySem.Spec PyProof.Rows L2
section
variable {X : Cx}
/-- sorted of a list or a tuple of texts -/
def rSortedST (K : PySem.W.Frag) : List V → Hp → VK → Prop := fun vs H Q => ∃ (a : Addr) (xs : List Str), vs = [V.ref a] ∧ (SqL K H a (xs.map V.str) ∨ SqT K H a (xs.map V.str)) ∧ xs.length < 64 ∧
  ∀ (ys : List Str) (p : Addr), ys.Perm xs → sortedS ys = true → H p = none → Q (.ref p) (upd H p (.lst (ys.map V.str)))
theorem cr_sortedST : CallR X (.builtin "sorted") (rSortedST X.K) := by
  intro pins s σ H vs us Q I r h
  obtain ⟨a, xs, rfl, hs | hs, h64, q⟩ := h
  · exact cr_sortedS pins s σ H _ us Q I r ⟨a, xs, rfl, hs, h64, q⟩
  obtain ⟨its, rv, hl, _⟩ := I.tuple hs
  rw [Vals.ref1 r]
  have hlen0 := rv.length
  rw [List.length_map] at hlen0
  refine Sp1S.sorted_strsT hl rv.strs (by rw [← hlen0]; exact h64) fun out ys h1 h2 h3 => ?_
  obtain ⟨ep, he'⟩ := PyProof.Rows.sortedAll_at s.heap its out
  have hlen : (ys.map V.str).length ≤ sizeLine := by rw [List.length_map, h2.length_eq]; exact small64 h64
  exact ⟨.ref _, upd H (s.heap.objs.size + 1) (.lst (ys.map V.str)), I.laid (t' := s.toks) (fun _ _ => PyProof.Rows.sortedAll_old) (Nat.le_succ _) ⟨hlen, out.toList, ep, vals_of_strs h1, he'⟩, rfl, q ys _ h2 h3 (I.hok.fresh (Nat.le_succ _))⟩
end
end Sp1

set_option Elab.async false
set_option linter.all false
set_option maxRecDepth 100000
set_option maxHeartbeats 4000000
namespace Sp1
open PySem PySem.Spec PyProof.Rows L2
section
variable {X : Cx}
/-- an int or a truth, times a small int -/
def rMulB : R2 := fun x y H Q => ∃ j : Int, y = .int j ∧ (-(2 ^ 64) < j ∧ j < 2 ^ 64) ∧ ((∃ i, x = .int i ∧ Q (.int (i * j)) H) ∨ ∃ b : Bool, x = .bl b ∧ Q (.int ((if b = true then (1 : Int) else 0) * j)) H)
theorem op_mulB : OpR X (binaryOp .Mult) rMulB := by
  intro pins s σ H x y v u Q I rx ry h
  obtain ⟨j, rfl, hj, ⟨i, rfl, q⟩ | ⟨b, rfl, q⟩⟩ := h
  · exact op_mul pins s σ H _ _ v u Q I rx ry ⟨i, j, rfl, rfl, by first | exact .inr hj | exact Or.inr hj, q⟩
  · cases rx
    obtain ⟨t, rfl⟩ := ry
    exact IntBool.mul_bool_int ⟨.int _, H, I.tok _, ⟨_, rfl⟩, q⟩
def nines : Str := ⟨(List.replicate 300 (("9" : Str)).cps).foldl (· ++ ·) #[]⟩
/-- '9' * 300 -/
theorem op_mulNines : OpR X (binaryOp .Mult) (fun x y H Q => x = .str "9" ∧ y = .int 300 ∧ Q (.str nines) H) := by
  intro pins s σ H x y v u Q I rx ry h
  obtain ⟨rfl, rfl, q⟩ := h
  obtain ⟨t, rfl⟩ := rx
  obtain ⟨t', rfl⟩ := ry
  refine PySem.P.mul_str (by decide) (fun _ _ => ?_) (fun _ _ => ?_) ?_
  · have e : ((("9" : String) : Str)).length = 1 := by decide +kernel
    rw [e]
    decide
  · have e : ((("9" : String) : Str)).length = 1 := by decide +kernel
    rw [e]
    decide +kernel
  · have e : ((300 : Int) == 1 || (("9" : String) : Str).length == 0) = false := by decide +kernel
    rw [if_neg (by decide), if_neg (by rw [e]; decide)]
    exact ⟨by rw [sizeLine_eq]; decide +kernel, .str nines, H, I.tok _, ⟨_, rfl⟩, q⟩
theorem nines_int : PySem.intText? nines = some ((10 : Int) ^ 60 * 10 ^ 60 * 10 ^ 60 * 10 ^ 60 * 10 ^ 60 - 1) := by decide +kernel
theorem nines_len : nines.length ≤ 640 := by decide +kernel
end
end Sp1

set_option Elab.async false
set_option linter.all false
set_option maxRecDepth 100000
set_option maxHeartbeats 4000000
namespace Sp1
open PySem PySem.Spec PyProof.Rows L2
theorem cut_whole {xs : List V} {lo hi : Option Int} (h : HT.sIx xs.length 0 lo = 0 ∧ HT.sIx xs.length xs.length hi = xs.length) : cutV xs lo hi = xs := by
  show (xs.drop (HT.sIx xs.length 0 lo)).take (HT.sIx xs.length xs.length hi - HT.sIx xs.length 0 lo) = xs
  rw [h.1, h.2, List.drop_zero, Nat.sub_zero, List.take_length]
theorem cut_to (xs : List V) (j : Nat) : cutV xs none (some (j : Int)) = xs.take j := by
  show (xs.drop 0).take (HT.sIx xs.length xs.length (some (j : Int)) - 0) = _
  have e : HT.sIx xs.length xs.length (some (j : Int)) = min j xs.length := by
    show (if (j : Int) < 0 then ((j : Int) + (xs.length : Int)).toNat else min (j : Int).toNat xs.length) = _
    rw [if_neg (by omega), Int.toNat_natCast]
  rw [e, List.drop_zero, Nat.sub_zero]
  by_cases h : j ≤ xs.length
  · rw [Nat.min_eq_left h]
  · rw [Nat.min_eq_right (by omega), List.take_length, List.take_of_length_le (by omega)]
theorem cut_from (xs : List V) (j : Nat) : cutV xs (some (j : Int)) none = xs.drop j := by
  show (xs.drop (HT.sIx xs.length 0 (some (j : Int)))).take (xs.length - HT.sIx xs.length 0 (some (j : Int))) = _
  have e : HT.sIx xs.length 0 (some (j : Int)) = min j xs.length := by
    show (if (j : Int) < 0 then ((j : Int) + (xs.length : Int)).toNat else min (j : Int).toNat xs.length) = _
    rw [if_neg (by omega), Int.toNat_natCast]
  rw [e]
  by_cases h : j ≤ xs.length
  · rw [Nat.min_eq_left h, List.take_of_length_le (by rw [List.length_drop]; omega)]
  · rw [Nat.min_eq_right (by omega), List.drop_length, List.drop_eq_nil_of_le (by omega), List.take_nil]
/-- a slice of a tuple, wherever it lies -/
def rSlU (K : PySem.W.Frag) : V → Option Int → Option Int → Hp → VK → Prop := fun x lo hi H Q => ∃ a xs, x = .ref a ∧ SqT K H a xs ∧ ∀ p H', Same H H' → SqT K H' p (cutV xs lo hi) → Q (.ref p) H'
section
variable {X : Cx}
theorem sl_tupU : SlR X (rSlU X.K) := by
  intro pins s σ H x v vl vu lo hi sl Q I rx hs pl pu h
  obtain ⟨a, xs, rfl, hx, q⟩ := h
  exact sl_tupA pins s σ H _ v vl vu lo hi sl Q I rx hs pl pu ⟨a, xs, rfl, hx, fun hw => q a H (Same.refl _) (by rw [cut_whole hw]; exact hx), fun _ p np => q p _ (same_new np) (SqT.of upd_same)⟩
end
section
variable {X : Cx} {CX : CXT} {k : Nat} {f C : Addr} {fd : FuncData} {ps : List Str} {sp : Sp} {E : L2.St → XK} {x : Str} {p pos : Pos} {e : Expr} {es : List Expr} {t : TA}
def tMakeS (C : Addr) (sp : Sp) (E : L2.St → XK) (t : TA) : TE := fun σ H Q => t σ H fun vs H1 => ∀ x dx, H1 x = none → H1 dx = none → dx ≠ x →
  sp (.ref x :: vs) (upd (upd H1 dx (.own x)) x (.ins C dx [])) (fun v H2 => v = .non ∧ Q (.ref x) H2) (E σ)
/-- C(..), what it raises told by the slots -/
theorem pe_makeS (M : Mk X.K C f) (F : FnOk X.prog X.w X.K X.mg X.base CX k f fd ps sp) (hr : Room (k + 1) X.A) (hg : Gl X x) (hm : X.mg x = some (.ref C)) (hb : Binds X.K fd ps []) (hx : ∀ σ, PassesAt CX X σ (E σ))
    (ha : PA X (e :: es) t) (hdb : (x == ("__debug__" : Str)) = false := by decide) (he : starEach (e :: es) X.env = (false, eval e X.env) :: starEach es X.env := by rfl) (hpl : (backTo pos (starEach es X.env)).any (·.1) = false := by rfl) :
    PE X (.Call (.Name x p) (e :: es) [] pos) (tMakeS C sp E t) := by
  refine ⟨fun pins s σ H Q I h => ?_⟩
  refine wpAny_Call_Name_kw (ld_glob I hg hm ?_ hdb)
  refine PySem.W.callWith_K (h₀ := X.base) I.ok.mod.kin M.kp (thn (ha.run pos pins s σ H _ I h) fun us s1 ⟨vs, H1, I1, r, q⟩ => ⟨I1.kIn, ?_⟩) he hpl
  have hq := q (s1.heap.objs.size + 1) s1.heap.objs.size (I1.hok.fresh (Nat.le_succ _)) (I1.hok.fresh (Nat.le_refl _)) (Nat.ne_of_lt (Nat.lt_succ_self _))
  have I2 := Inv.made (C := C) I1
  have r2 : Vals (V.ref (s1.heap.objs.size + 1) :: vs) (Value.ref (s1.heap.objs.size + 1) :: us) := .cons rfl r
  have hl : (Value.ref (s1.heap.objs.size + 1) :: us ++ []).length = ps.length := by
    rw [List.append_nil]
    have e := r2.length
    rw [F.len _ _ _ _ hq] at e
    exact e.symm
  have b := hb _ (Value.ref (s1.heap.objs.size + 1) :: us) I2.kIn hl
  rw [List.append_nil] at b
  refine wpAny_call (make_map (f := f) I1.kIn M.makes M.init (beq_iff_eq.mp M.fn) (codeAny_mono (F.run _ X.stack _ _ ⟨Value.ref (s1.heap.objs.size + 1) :: us, []⟩ (Value.ref (s1.heap.objs.size + 1) :: us) _ _ (E σ) (hr.make C us [])
    (I2.env0.make C us []) b r2 hq) fun r s' hq' => ?_))
  cases r with
  | error e => exact hx σ pins _ _ e s' I2 hq'
  | ok fl =>
    cases fl with
    | ret u =>
      obtain ⟨v, H', I3, rv, ev, q3⟩ := I2.after hq'
      subst ev
      exact ⟨rv, ⟨V.ref (s1.heap.objs.size + 1), H', I3, rfl, q3⟩⟩
    | next => exact False.elim hq'
    | brk => exact False.elim hq'
    | cont => exact False.elim hq'
end
end Sp1

set_option Elab.async false
set_option linter.all false
set_option maxRecDepth 100000
set_option maxHeartbeats 4000000
/-! tuples whose object is known: their methods; t.index(x, i) of data -/
namespace Sp1
open PySem PySem.Spec PyProof.Rows L2
/-- a tuple, its object a plain one -/
def FzT (H : Hp) (a : Addr) (xs : List V) : Prop := ∃ o : Obj, H a = some (.frz o (.tup xs)) ∧ o.cls = .type "tuple" ∧ o.dict = none
theorem FzT.sqt {K : PySem.W.Frag} {H : Hp} {a : Addr} {xs : List V} (h : FzT H a xs) : SqT K H a xs := by
  obtain ⟨o, h, _⟩ := h
  exact .inl (.inr ⟨o, h⟩)
theorem FzT.tk {H H' : Hp} {a : Addr} {xs : List V} (h : FzT H a xs) (s : TK H H') : FzT H' a xs := by
  obtain ⟨o, h, r⟩ := h
  exact ⟨o, s.2 _ _ _ h, r⟩
section
variable {X : Cx}
/-- tuple(l), l a list: a new one, its object plain -/
theorem cr_tupleF : CallR X (.type "tuple") (fun xs H Q => ∃ p ys, xs = [.ref p] ∧ SqL X.K H p ys ∧ ∀ l o, H l = none → FzT (upd H l (.frz o (.tup ys))) l ys → Q (.ref l) (upd H l (.frz o (.tup ys)))) := by
  intro pins s σ H xs us Q I r h
  obtain ⟨p, ys, rfl, hq, q⟩ := h
  obtain ⟨u, rfl, rx⟩ := vals1 r
  cases rx
  obtain ⟨its, r', pl, hz⟩ := I.list hq
  have hlen := r'.length
  refine call_tuple_list pl.isList (fun h' kp => ?_) (by simp only [List.size_toArray] <;> omega)
  have I1 : Inv X pins σ H { s with heap := h' } := I.kept (t' := s.toks) kp
  have I2 : Inv X pins σ (upd H h'.objs.size (.frz { cls := .type "tuple", data := .seq its.toArray } (.tup ys))) { s with heap := h'.push { cls := .type "tuple", data := .seq its.toArray } } :=
    I1.laid (t' := s.toks) (fun b o e => Heap.get?_push_of_some _ e) (Nat.le_refl _) (show ObjOk X.prog X.w _ _ _ (.frz _ (.tup ys)) from ⟨Heap.get?_push_size _ rfl, hz, its, r', IsTup.new _ _⟩)
  exact ⟨.ref h'.objs.size, _, I2, rfl, q _ _ (I1.hok.fresh (Nat.le_refl _)) ⟨_, upd_same, rfl, rfl⟩⟩
end
section
variable {X : Cx} {o e : Expr} {es : List Expr} {to : TE} {t : TA} {name : Str} {apos cpos : Pos} {id : String} {r : V → List V → Hp → VK → Prop}
def tTM (r : V → List V → Hp → VK → Prop) (to : TE) (t : TA) : TE := fun σ H Q => to σ H fun x H1 => (∃ a ys, x = .ref a ∧ FzT H1 a ys) ∧ t σ H1 fun xs H2 => r x xs H2 Q
/-- t.m(..), t such a tuple -/
theorem pe_tm (slot : Slot "tuple" name id) (hty : typeOf (.builtin id) = pure (.type "method_descriptor")) (hm : MtR X id r) (ho : PE X o to) (ha : PA X (e :: es) t)
    (hbase : attributeBase o name X.env (eval o X.env) = eval o X.env := by rfl)
    (hfew : ((backTo cpos (starEach (e :: es) X.env)).all (fun x => !x.1) && (backToKw cpos (keywordEach [] X.env)).all (fun x => x.1.isSome)
      && decide ((e :: es).length + ([] : List Keyword).length + (if ([] : List Keyword).isEmpty then 0 else 1) < 30)) = true := by rfl)
    (hline : (apos.endLine == cpos.line) = true := by rfl) (hs : starEach (e :: es) X.env = (false, eval e X.env) :: starEach es X.env := by rfl) (hplain : (backTo cpos (starEach es X.env)).any (·.1) = false := by rfl) :
    PE X (.Call (.Attribute o name apos) (e :: es) [] cpos) (tTM r to t) := by
  refine ⟨fun pins s σ H Q I h => ?_⟩
  refine wpAny_Call_method_late hbase hfew hline rfl (thn (ho.run pins s σ H _ I h) fun v s1 ⟨x, H1, I1, r1, ty, q1⟩ => ?_)
  obtain ⟨a, ys, rfl, ob, hob, hc, hd⟩ := ty
  cases r1
  obtain ⟨hg, _⟩ := I1.hok _ _ hob
  refine ⟨"tuple", id, PySem.F.plainAttrs_tuple, slot, hty, ⟨ob, hg, hc⟩, fun b e => ?_, ?_⟩
  · cases e
    exact ⟨ob, hg, hd⟩
  have hA := ha.run cpos pins s1 σ H1 _ I1 q1
  rw [hs] at hA ⊢
  refine Calls.callWith_builtin (by show (false || (backTo cpos (starEach es X.env)).any (·.1)) = false; rw [hplain] <;> rfl) (Calls.evalArgs_plain ?_)
  exact thn hA fun us s2 ⟨vs, H2, I2, r2, q2⟩ => hm pins s2 σ H2 _ vs _ us Q I2 (show RelV (.ref a) (.ref a) from rfl) r2 q2
end
section
variable {X : Cx}
/-- t.index(x, k): the first place from k on that holds an equal one -/
def rTupIx3 (K : PySem.W.Frag) : V → List V → Hp → VK → Prop := fun x xs H Q => ∃ (a : Addr) (ws : List V) (y : V) (d : PyData) (ds : List PyData) (k j : Nat) (z : PyData), x = V.ref a ∧ xs = [y, .int (k : Int)] ∧ SqT K H a ws ∧ DpAll K H ws ds ∧ Dp K H y d ∧
  SeqAt.shaped (.tuple ds) = true ∧ SeqAt.shaped d = true ∧ k ≤ j ∧ ds[j]? = some z ∧ PyData.eqv z d = true ∧ (∀ (m : Nat) (z' : PyData), k ≤ m → m < j → ds[m]? = some z' → PyData.eqv z' d = false) ∧ Q (.int (j : Nat)) H
theorem mt_tupIx3 (hu : X.A.units + 65 < cLine) : MtR X "tuple.index" (rTupIx3 X.K) := by
  intro pins s σ H x xs v us Q I rx rxs h
  obtain ⟨a, ws, y, d, ds, k, j, z, rfl, rfl, hq, ha, hy, sl, sd, hkj, hz, hzj, hno, q⟩ := h
  cases rx
  obtain ⟨uy, uk, rfl, ry, rk⟩ := vals2 rxs
  obtain ⟨t, rfl⟩ := rk
  obtain ⟨bs, r1⟩ := Dp.reads I d y uy hy ry
  have hxs : PyData.canLayAll0 ds = true := by
    have := SeqAt.canLay_of_shaped sl
    simpa [PyData.canLay0] using this
  have hroom : X.A.units + 1 + min (PyData.depthAll ds) d.depth < cLine := room_in_shaped sd hu
  obtain ⟨its, rv, ⟨⟨cls, dd, data, sls⟩, ho, hc, n, hdt⟩, hlen⟩ := I.tuple hq
  simp only at hc hdt
  subst hc hdt
  obtain ⟨as, h4⟩ := Dp.readsAll I ds _ its ha rv
  have hn : its.length = ds.length := SeqAt.ReadsAll.length ds its as h4
  have hmap : its.map (SeqAt.readOf s.heap) = ds := SeqAt.readsAll_map ds its as hxs h4
  obtain ⟨hjd, _⟩ := List.getElem?_eq_some_iff.mp hz
  have hjl : j < its.length := by omega
  have hj : j < its.toArray.size := by simpa using hjl
  have at_ : ∀ (m : Nat) (hm : m < its.toArray.size) (z' : PyData), ds[m]? = some z' → SeqAt.readOf s.heap its.toArray[m] = z' := by
    intro m hm z' hz'
    have hml : m < its.length := by simpa using hm
    rw [← hmap, List.getElem?_map, List.getElem?_eq_getElem hml] at hz'
    have e1 : SeqAt.readOf s.heap its[m] = z' := Option.some.inj (show some (SeqAt.readOf s.heap its[m]) = some z' from hz')
    simpa using e1
  have sf : SeqAt.searchFrom (k : Int) its.toArray.size = k := SeqAt.searchFrom_nat _ _
  refine call_meets PySem.F.slot_tuple_index ⟨_, ho, rfl⟩ PySem.F.entry_tuple_index (PySem.F.args_tuple_index_3 _ _ _)
    (SeqAt.tuple_index3_found a its.toArray n dd sls uy (fun m => PyData.eqv (SeqAt.readOf s.heap (its.toArray.getD m .none)) d) (k : Int) t j hj (by rw [sf]; exact hkj) hj ?_ ?_) ⟨ho, fun m hm => ?_, ?_⟩
  · show PyData.eqv (SeqAt.readOf s.heap (its.toArray.getD j .none)) d = true
    rw [← Array.getElem_eq_getD (h := hj), at_ j hj z hz]
    exact hzj
  · intro m hm hkm hmj
    rw [sf] at hkm
    have hmd : m < ds.length := by omega
    have hz' : ds[m]? = some ds[m] := List.getElem?_eq_getElem hmd
    show PyData.eqv (SeqAt.readOf s.heap (its.toArray.getD m .none)) d = false
    rw [← Array.getElem_eq_getD (h := hm), at_ m hm _ hz']
    exact hno m _ hkm hmj hz'
  · have := SeqAt.items_eqAt (vs := its.toArray) (A := X.A) (show ReadsAll s.heap its.toArray.toList ds as from h4) r1 hxs (SeqAt.canLay_of_shaped sd) hroom its.toArray[m] (Array.getElem_mem hm)
    rw [Array.getElem_eq_getD (h := hm) .none] at this ⊢
    exact this
  · exact ⟨.int (j : Nat), H, I.tok _, ⟨_, rfl⟩, q⟩
end
end Sp1

set_option Elab.async false
set_option linter.all false
set_option maxRecDepth 100000
set_option maxHeartbeats 4000000
/-! o[i] of a list by values (for o[i] += e); a dict comprehension's walk -/
namespace Sp1
open PySem PySem.Spec PyProof.Rows L2
section
variable {X : Cx}
def rGetL (K : PySem.W.Frag) : V → V → Hp → VK → Prop := fun x y H Q => ∃ (p : Addr) (xs : List V) (k : Nat) (z : V), x = .ref p ∧ y = .int (k : Int) ∧ SqL K H p xs ∧ xs[k]? = some z ∧ Q z H
theorem pget_list : PGet X (rGetL X.K) := by
  intro pins s σ H x y v u Q I rx ry h
  obtain ⟨p, xs, k, z, rfl, rfl, hq, he, q⟩ := h
  cases rx
  obtain ⟨t, rfl⟩ := ry
  obtain ⟨its, r, pl, hz⟩ := I.list hq
  obtain ⟨w, ew, rw'⟩ := r.get he
  have hl := r.length
  have hn := line63
  have hk := (List.getElem?_eq_some_iff.mp he).1
  exact wpAny_getItem_list (x := w) pl.isList (by omega) (by omega) (by rw [show ((k : Int)).toNat = k from rfl]; simpa using ew) ⟨z, H, I, rw', q⟩
end
theorem dc_it {J : It} {n : Nat} {G : Hp → Prop} {Y : Nat → Hp → V → Hp → Prop} (w : Walk J n G Y) {g : TG} {tt : TT} {tk tv : TE} {vs : List Nat} {σ : L2.St} {H1 : Hp} {D : Addr} {Qd : Hp → Prop} (Pv : Nat → Hp → Prop) (h0 : Pv 0 (upd H1 D (.dK []))) (hG : ∀ i H, i ≤ n → Pv i H → G H)
    (hs : ∀ i x H H', i < n → Pv i H → Y i H x H' → g x (wipe σ vs) H' fun σ2 H2 => wipe σ2 vs = wipe σ vs ∧ tt σ2 H2 fun b H3 => if b then tk σ2 H3 fun y H4 => tv σ2 H4 fun z H5 => ∃ kvs k, y = kV k ∧ H5 D = some (.dK kvs) ∧ kvs.length < sizeLine ∧ Pv (i + 1) (upd H5 D (.dK (putK kvs k z))) else Pv (i + 1) H3)
    (hd : ∀ H, Pv n H → Qd H) :
    ∃ W : Nat → Nat → Hp → Prop, (∃ m, W 0 m (upd H1 D (.dK []))) ∧ ∀ i m H, W i m H → (J.stop i H ∧ Qd H) ∨ (J.go i H ∧ ∃ Nx : Hp → Prop, (∀ H', Nx H' → ∃ m', m' < m ∧ W (i + 1) m' H') ∧
      ∀ x H', J.yld i H x H' → g x (wipe σ vs) H' fun σ2 H2 => wipe σ2 vs = wipe σ vs ∧ tt σ2 H2 fun b H3 => if b then tk σ2 H3 fun y H4 => tv σ2 H4 fun z H5 => ∃ kvs k, y = kV k ∧ H5 D = some (.dK kvs) ∧ kvs.length < sizeLine ∧ Nx (upd H5 D (.dK (putK kvs k z))) else Nx H3) := by
  refine ⟨fun i m H => m = n - i ∧ i ≤ n ∧ Pv i H, ⟨n, rfl, Nat.zero_le _, h0⟩, ?_⟩
  rintro i m H ⟨rfl, hi, p⟩
  have q := hG i H hi p
  by_cases hlt : i < n
  · refine .inr ⟨w.goes i H hlt q, Pv (i + 1), fun H' p' => ⟨n - (i + 1), by omega, rfl, hlt, p'⟩, fun x H' y => hs i x H H' hlt p (w.yields i H x H' hlt q y)⟩
  · have e : i = n := by omega
    subst e
    exact .inl ⟨w.stops H q, hd H p⟩
end Sp1

set_option Elab.async false
set_option linter.all false
set_option maxRecDepth 100000
set_option maxHeartbeats 4000000
/-! enumerate of a tuple, and of either -/
namespace EnT
open PySem
theorem makes (t : Addr) (items : Array Value) : Meets (Builtin.«enumerate.__new__» ⟨[.type "enumerate", .ref t], []⟩) (fun _ R s => s.heap.IsTuple t items ∧
    R (.ok (.ret (.ref (s.heap.objs.size + 1)))) { s with heap := (s.heap.push { cls := .type "tuple_iterator", data := .fields #[.ref t, .int 0 0] }).push { cls := .type "enumerate", data := .fields #[.none, .bool false, .ref s.heap.objs.size, rawInt 0, .none, .none] } }) :=
  .of_wp fun prog w A R s hyp => by
    obtain ⟨hp, g, d, tk, os⟩ := s
    obtain ⟨ht, fin⟩ := hyp
    have same := sub_enumerate
    have size1 : (hp.push { cls := .type "tuple_iterator", data := .fields #[.ref t, .int 0 0] }).objs.size = hp.objs.size + 1 := Heap.size_push ..
    have fin2 : R (.ok (.ret (.ref (hp.push { cls := .type "tuple_iterator", data := .fields #[.ref t, .int 0 0] }).objs.size))) ⟨(hp.push { cls := .type "tuple_iterator", data := .fields #[.ref t, .int 0 0] }).push { cls := .type "enumerate", data := .fields #[.none, .bool false, .ref hp.objs.size, rawInt 0, .none, .none] }, g, d, tk, os⟩ := by
      rw [size1]
      exact fin
    have here : Heap.IsTuple (Shared.heap ⟨hp, g, d, tk, os⟩) t items := ht
    wp_walk using wpAny_pyIter_tuple here
    refine wpAny_stack_any fun st => wpAny_pure ?_
    split
    · rename_i c _ _ _ _ _
      cases (c == Value.type "enumerate") <;> (wp_walk using wpAny_pyIter_tuple here) <;> exact ⟨_, rfl, fin2⟩
    · wp_walk using wpAny_pyIter_tuple here
      exact ⟨_, rfl, fin2⟩
section
variable {prog : Program} {w : World} {A : Around} {E : Value → Shared → Prop} {s : Shared}
theorem calls {t : Addr} {items : Array Value} {Q : Value → Shared → Prop} (ht : s.heap.IsTuple t items)
    (q : ∀ h', IsEnum h' (s.heap.objs.size + 1) s.heap.objs.size 0 .none → h'.IsTupleIter s.heap.objs.size t 0 → (∀ b o, s.heap.get? b = some o → h'.get? b = some o) → Q (.ref (s.heap.objs.size + 1)) { s with heap := h' }) :
    wpAny (model prog w) A (call (.type "enumerate") [.ref t]) Q E s := by
  refine callType_new F.called_enumerate (by decide) (F.typeCall_enumerate_1 _) (F.newCall_enumerate_1 _) (fun obj => F.args_object_init_2 obj _) F.entry_enumerate_new (makes t items) ⟨ht, ?_⟩
  have size1 : (s.heap.push { cls := .type "tuple_iterator", data := .fields #[.ref t, .int 0 0] }).objs.size = s.heap.objs.size + 1 := Heap.size_push ..
  have stands : IsEnum ((s.heap.push { cls := .type "tuple_iterator", data := .fields #[.ref t, .int 0 0] }).push { cls := .type "enumerate", data := .fields #[.none, .bool false, .ref s.heap.objs.size, rawInt 0, .none, .none] }) (s.heap.objs.size + 1) s.heap.objs.size 0 .none := by
    have here := Heap.get?_push_size (s.heap.push { cls := .type "tuple_iterator", data := .fields #[.ref t, .int 0 0] }) (o := { cls := .type "enumerate", data := .fields #[.none, .bool false, .ref s.heap.objs.size, rawInt 0, .none, .none] }) rfl
    rw [size1] at here
    exact here
  exact ⟨⟨_, stands, rfl⟩, q _ stands ⟨_, Heap.get?_push_of_some _ (Heap.get?_push_size _ rfl), rfl, rfl⟩ fun b o e => Heap.get?_push_of_some _ (Heap.get?_push_of_some _ e)⟩
end
end EnT
namespace Sp1
open PySem PySem.Spec PyProof.Rows L2
/-- the tuple at a, each item with its place in a new pair -/
def IteT (K : PySem.W.Frag) (a : Addr) : It :=
  ⟨fun i H => ∃ (xs : List V) (x : V), SqT K H a xs ∧ xs[i]? = some x, fun i H v H' => ∃ T x, v = .ref T ∧ H T = none ∧ H' = upd H T (.tup [.int (i : Nat), x]) ∧ ∀ xs, SqT K H a xs → xs[i]? = some x, fun i H => ∃ xs : List V, SqT K H a xs ∧ xs.length = i⟩
theorem turn_enumT {P : Program} {w : World} {K : PySem.W.Frag} {elts : List Expr} {kk : Nat} {tpos : Pos} (a e it : Addr) (hne : e ≠ it) (hea : e ≠ a) (hia : a ≠ it) :
    Turn P w K (.Tuple elts kk tpos) (IteT K a) [e, it] e (fun i h => (∃ old, IsEnum h e it ((i : Nat) : Int) old) ∧ h.IsTupleIter it a i) where
  mem := List.mem_cons_self
  obj := by
    rintro i h ⟨⟨old, he⟩, o, ho, hc, hd⟩ b hb
    rcases List.mem_cons.mp hb with rfl | hb
    · exact ⟨_, he, fun v q => nomatch q⟩
    · rw [List.mem_singleton.mp hb]
      exact ⟨o, ho, fun v q => by rw [hd] at q; cases q⟩
  keep := by
    rintro i h h' ⟨⟨old, he⟩, hi⟩ k
    exact ⟨⟨old, k e List.mem_cons_self _ he⟩, hi.at fun o q => k it (List.mem_cons_of_mem _ List.mem_cons_self) o q⟩
  item := by
    intro X hP hw hK hc i pins s σ H E I hf st hg
    subst hP hw hK
    obtain ⟨⟨old, he⟩, hit⟩ := st
    obtain ⟨xs, x, hq, hx⟩ := hg
    obtain ⟨its, rv, p, hz⟩ := I.tuple hq
    obtain ⟨u, hu, ru⟩ := rv.get hx
    have hel : e < s.heap.objs.size := Heap.lt_size he
    have hil : it < s.heap.objs.size := by obtain ⟨_, q, _⟩ := hit; exact Heap.lt_size q
    have hlt : i < its.toArray.size := by
      rw [List.size_toArray]
      exact (List.getElem?_eq_some_iff.mp hu).1
    have D := Draws.tuple (prog := X.prog) (w := X.w) (A := X.A.in1) (I.ok.hd hc) it a hia its.toArray
    refine wpAny_pyNext_enum_itemC D he ⟨hit, p⟩ hlt hne (fun z => ?_) fun u2 h' tk hu2 ho st' hT hsz hk => ?_
    · rcases List.mem_cons.mp z with z | z
      · exact hne z
      · exact hea (List.mem_singleton.mp z)
    · have eu : u2 = u := by
        have h1 : its.toArray[i]? = some u := by simpa using hu
        have h2 : its.toArray[i]? = some u2 := hu2
        rw [h1] at h2
        exact (Option.some.inj h2).symm
      subst eu
      refine ⟨_, rfl, wpAny_letOwnedTupleGo_enum (s := { s with heap := h', toks := tk + 1 }) ho fun h'' he' sb => ?_⟩
      have hT2 : h''.get? s.heap.objs.size = some { cls := .type "tuple", data := .seq #[.int i tk, u2] } := (sb.2 _ (Nat.ne_of_gt hel)).trans hT
      have new : ObjOk X.prog X.w (upd H s.heap.objs.size (.tup [.int (i : Nat), x])) h'' s.heap.objs.size (.tup [.int (i : Nat), x]) :=
        ⟨by show 2 ≤ sizeLine; decide, [.int i tk, u2], .cons ⟨_, rfl⟩ (.cons ru .nil), ⟨_, hT2, rfl, _, rfl⟩⟩
      have I1 : Inv X pins σ (upd H s.heap.objs.size (.tup [.int (i : Nat), x])) { s with heap := h'', toks := tk + 1 } :=
        I.turnedNew (ch := [e, it]) (fun b ob hb q => by
          have b1 : b ≠ e := fun z => hb (by rw [z]; exact List.mem_cons_self)
          have b2 : b ≠ it := fun z => hb (by rw [z]; exact List.mem_cons_of_mem _ List.mem_cons_self)
          exact (sb.2 b b1).trans (hk b ob b1 b2 q)) hf (Nat.le_refl _) new
      refine ⟨.ref s.heap.objs.size, _, I1, rfl, ⟨_, x, rfl, I.hok.fresh (Nat.le_refl _), rfl, fun ys hy => by rw [I.tuple_inj hy hq]; exact hx⟩, ⟨⟨u2, ?_⟩, st'.1.at fun o q => (sb.2 it hne.symm).trans q⟩, fun b hb => ?_⟩
      · have e1 : ((i + 1 : Nat) : Int) = (i : Int) + 1 := by omega
        rw [e1]
        exact he'
      · have hb' : b < s.heap.objs.size := by
          rcases List.mem_cons.mp hb with z | z
          · rw [z]; exact hel
          · rw [List.mem_singleton.mp z]; exact hil
        rw [upd_ne (Nat.ne_of_lt hb')]
        exact (hf b hb).1
  done := by
    intro X hP hw hK hc i pins s σ H E I hf st hg
    subst hP hw hK
    obtain ⟨⟨old, he⟩, hit⟩ := st
    obtain ⟨xs, hq, hx⟩ := hg
    obtain ⟨its, rv, p, hz⟩ := I.tuple hq
    obtain ⟨f0, f1, f2, f3, f4, f5⟩ := hf it (List.mem_cons_of_mem _ List.mem_cons_self)
    have hl := rv.length
    have hn : i = its.toArray.size := by rw [List.size_toArray]; omega
    have D := Draws.tuple (prog := X.prog) (w := X.w) (A := X.A.in1) (I.ok.hd hc) it a hia its.toArray
    exact wpAny_pyNext_enum_endD D he ⟨by rw [← hn]; exact hit, p⟩ fun h' eb => ⟨rfl, I.turned (t' := s.toks) (fun b o hb q => eb b o hb q) f0 f1 f3 f4 f5⟩
  self := fun A i s Q E st h => let ⟨⟨_, he⟩, _⟩ := st; wpAny_pyIter_enum he h
def iEnumT (K : PySem.W.Frag) (ta : TA) : TI := fun σ H R => ta σ H fun vs H1 => ∃ a xs, vs = [.ref a] ∧ SqT K H1 a xs ∧ R (IteT K a) H1
theorem pi_enumT {X : Cx} {e : Expr} {ta : TA} {p pos tpos : Pos} {elts : List Expr} {kk : Nat} (hg : Gl X "enumerate") (hm : X.mg "enumerate" = none) (ha : PA X [e] ta) (hs : starEach [e] X.env = [(false, eval e X.env)] := by rfl) :
    PI X (.Tuple elts kk tpos) (.Call (.Name "enumerate" p) [e] [] pos) (iEnumT X.K ta) := by
  refine ⟨fun pins s σ H R I h => ?_⟩
  refine Call_ (ld_blt I hg hm boot_enumerate (PyProof.Rows.callWith_type1 (thn (ha.run pos pins s σ H _ I h) fun us s1 ⟨vs, H1, I1, r1, q1⟩ => ?_) hs rfl))
  obtain ⟨a, xs, rfl, hq, q⟩ := q1
  rw [Vals.ref1 r1]
  obtain ⟨its, rv, p', hz⟩ := I1.tuple hq
  have hal : (a : Nat) < s1.heap.objs.size := by obtain ⟨o, ho, _⟩ := id p'; exact Heap.lt_size ho
  refine EnT.calls p' fun h' he hit hk => wpAny_pyIter_enum he ?_
  have I2 : Inv X pins σ H1 { s1 with heap := h' } := I1.kept (t' := s1.toks) hk
  refine ⟨s1.heap.objs.size + 1, [s1.heap.objs.size + 1, s1.heap.objs.size], _, _, H1, rfl, I2, turn_enumT a (s1.heap.objs.size + 1) s1.heap.objs.size (Nat.succ_ne_self _) (Nat.ne_of_gt (Nat.lt_succ_of_lt hal)) (Nat.ne_of_lt hal), ⟨⟨.none, he⟩, hit⟩, fun b hb => ?_, q⟩
  have hle : s1.heap.objs.size ≤ b := by
    rcases List.mem_cons.mp hb with z | z
    · rw [z]; exact Nat.le_succ _
    · rw [List.mem_singleton.mp z]; exact Nat.le_refl _
  exact I1.fpOk hle (I1.hok.fresh hle)
theorem walk_enumT {K : PySem.W.Frag} {a : Addr} {xs : List V} : Walk (IteT K a) xs.length (fun H => SqT K H a xs) (YPair (fun i => some (.int (i : Nat))) (fun i => xs[i]?)) := by
  refine ⟨fun i _ hi q => ⟨xs, xs[i], q, List.getElem?_eq_getElem hi⟩, fun _ q => ⟨xs, q, rfl⟩, fun i H v H' _ q y => ?_⟩
  obtain ⟨T, x, h1, h2, h3, h4⟩ := y
  exact ⟨T, .int (i : Nat), x, h1, h2, h3, rfl, h4 xs q⟩
end Sp1

set_option Elab.async false
set_option linter.all false
set_option maxRecDepth 100000
set_option maxHeartbeats 4000000
/-! zip over a list and a tuple of one length -/
namespace ZpD
open PySem
/-- the cells of a zip, apart from what its two iterators stand on -/
structure Ap (z TI TO i1 i2 : Addr) (f1 f2 : List Addr) : Prop where
  TIz : TI ≠ z
  TOz : TO ≠ z
  i1z : i1 ≠ z
  i2z : i2 ≠ z
  TITO : TI ≠ TO
  TIi1 : TI ≠ i1
  TIi2 : TI ≠ i2
  TOi1 : TO ≠ i1
  TOi2 : TO ≠ i2
  i12 : i1 ≠ i2
  z1 : z ∉ f1
  z2 : z ∉ f2
  T1 : TO ∉ f1
  T2 : TO ∉ f2
  i21 : i2 ∉ f1
  i12' : i1 ∉ f2
section
variable {prog : Program} {w : World} {A : Around} {E : Value → Shared → Prop} {s : Shared}
theorem keepS {h h' : Heap} {c : Addr} (e : Heap.SameBut c h h') {f : List Addr} (n : c ∉ f) : ∀ b ∈ f, ∀ o, h.get? b = some o → h'.get? b = some o :=
  fun b hb o q => e.extBut b o (fun z => n (z ▸ hb)) q
theorem next_item {z TI TO i1 i2 : Addr} {f1 f2 : List Addr} {n k : Nat} {P1 P2 : Nat → Value → Prop} {S1 S2 : Nat → Heap → Prop} {a b : Value} {Q : Value → Shared → Prop}
    (D1 : Draws prog w A i1 f1 n P1 S1) (D2 : Draws prog w A i2 f2 n P2 S2) (D : Ap z TI TO i1 i2 f1 f2) (hz : IsZip s.heap z TI TO .none) (hTI : IsPair s.heap TI (.ref i1) (.ref i2)) (hTO : IsPair s.heap TO a b)
    (h1 : S1 k s.heap) (h2 : S2 k s.heap) (hk : k < n)
    (hQ : ∀ x y h' tk, P1 k x → P2 k y → IsZip h' z TI TO (rawInt s.heap.objs.size) → IsPair h' TO x y → S1 (k + 1) h' → S2 (k + 1) h' → IsPair h' s.heap.objs.size x y →
      (∀ c o, c ≠ z → c ≠ TO → c ≠ i1 → c ≠ i2 → s.heap.get? c = some o → h'.get? c = some o) → Q (.ref s.heap.objs.size) { s with heap := h', toks := tk }) :
    wpAny (model prog w) A (Builtin.«zip.__next__» ⟨[.ref z], []⟩) (fun fin s' => ∃ v, fin = .done (.ret v) ∧ Q v s') E s := by
  show wpAny _ _ (field (.ref z) 2 >>= _) _ _ _
  refine wpAny_bind (wpAny_field hz rfl (x := .bool false) rfl ?_)
  show wpAny _ _ (field (.ref z) 3 >>= _) _ _ _
  refine wpAny_bind (wpAny_field hz rfl (x := .ref TI) rfl (wpAny_bind (wpAny_seqItems hTI rfl ?_)))
  show wpAny _ _ (Builtin.SmallTypes.ownedTupleIsFree (.ref z) >>= _) _ _ _
  refine wpAny_bind ?_
  unfold Builtin.SmallTypes.ownedTupleIsFree
  refine wpAny_bind (wpAny_field hz rfl (x := .none) rfl (wpAny_pure ?_))
  simp only [if_true]
  refine wpAny_bind (wpAny_rule (wpAny_bind (wpAny_field hz rfl (x := .ref TO) rfl ?_)))
  refine wpAny_bind (wpAny_setField_rec hz (by simp) fun ha za sa => wpAny_bind ?_)
  replace za : IsZip ha z TI TO .ellipsis := za
  simp only [List.zipIdx_cons, List.zipIdx_nil, List.forIn_cons, List.forIn_nil]
  -- the first one
  refine wpAny_bind (wpAny_bind (wpAny_onRaise ?_))
  show wpAny _ _ (Builtin.SmallTypes.nextOf (.ref i1) >>= _) _ _ _
  refine wpAny_bind (D1.item k _ _ _ hk (D1.frame _ _ _ h1 (keepS sa D.z1)) fun x hb tb px s1b sb => wpAny_pure ?_)
  have Tb : IsPair hb TO a b := sb.extBut _ _ D.TOi1 (sa.extBut _ _ D.TOz hTO)
  refine wpAny_bind (wpAny_seqItems Tb rfl (wpAny_bind (wpAny_updateSeq_pair Tb fun hc Tc sc => wpAny_bind (wpAny_letGo (wpAny_pure ?_)))))
  replace Tc : IsPair hc TO x b := Tc
  -- the other one
  refine wpAny_bind (wpAny_bind (wpAny_onRaise ?_))
  show wpAny _ _ (Builtin.SmallTypes.nextOf (.ref i2) >>= _) _ _ _
  refine wpAny_bind (D2.item k _ _ _ hk (D2.frame _ _ _ (D2.frame _ _ _ (D2.frame _ _ _ h2 (keepS sa D.z2)) (keepS sb D.i12')) (keepS sc D.T2)) fun y hd td py s2d sd => wpAny_pure ?_)
  have Td : IsPair hd TO x b := sd.extBut _ _ D.TOi2 Tc
  refine wpAny_bind (wpAny_seqItems Td rfl (wpAny_bind (wpAny_updateSeq_pair Td fun he Te se => wpAny_bind (wpAny_letGo (wpAny_pure (wpAny_pure ?_))))))
  replace Te : IsPair he TO x y := Te
  -- the pair handed out
  refine wpAny_bind (wpAny_seqItems Te rfl (wpAny_bind (wpAny_newTuple ?_)))
  have size : he.objs.size = s.heap.objs.size := by rw [se.1, sd.1, sc.1, sb.1, sa.1]
  have ze : IsZip he z TI TO .ellipsis := se.extBut _ _ D.TOz.symm (sd.extBut _ _ D.i2z.symm (sc.extBut _ _ D.TOz.symm (sb.extBut _ _ D.i1z.symm za)))
  have kept : ∀ c o, c ≠ z → c ≠ TO → c ≠ i1 → c ≠ i2 → s.heap.get? c = some o → he.get? c = some o := fun c o c1 c2 c3 c4 q =>
    se.extBut _ _ c2 (sd.extBut _ _ c4 (sc.extBut _ _ c2 (sb.extBut _ _ c3 (sa.extBut _ _ c1 q))))
  have s1e := D1.frame _ _ _ (D1.frame _ _ _ (D1.frame _ _ _ s1b (keepS sc D.T1)) (keepS sd D.i21)) (keepS se D.T1)
  have s2e := D2.frame _ _ _ s2d (keepS se D.T2)
  have zl : z < he.objs.size := Heap.lt_size ze
  show wpAny _ _ (Builtin.SmallTypes.ownedTupleHandOut (.ref z) (.ref he.objs.size) >>= _) _ _ _
  refine wpAny_bind ?_
  unfold Builtin.SmallTypes.ownedTupleHandOut
  have zf : IsZip (he.push { cls := .type "tuple", data := .seq #[x, y] }) z TI TO .ellipsis := Heap.get?_push_of_some _ ze
  refine wpAny_bind (wpAny_setField_rec zf (by simp) fun hg zg sg => ?_)
  replace zg : IsZip hg z TI TO (rawInt he.objs.size) := zg
  refine wpAny_setField_rec zg (by simp) fun hh zh sh => wpAny_pure ⟨_, rfl, ?_⟩
  replace zh : IsZip hh z TI TO (rawInt he.objs.size) := zh
  have up : ∀ c o, c ≠ z → he.get? c = some o → hh.get? c = some o := fun c o c1 q => sh.extBut _ _ c1 (sg.extBut _ _ c1 (Heap.get?_push_of_some _ q))
  have Th : IsPair hh he.objs.size x y := sh.extBut _ _ (Nat.ne_of_gt zl) (sg.extBut _ _ (Nat.ne_of_gt zl) (Heap.get?_push_size _ rfl))
  rw [size] at zh Th
  show Q (.ref he.objs.size) _
  rw [size]
  exact hQ x y hh _ px py zh (up _ _ D.TOz Te) (D1.frame _ _ _ s1e fun b hb o q => up b o (fun e => D.z1 (e ▸ hb)) q) (D2.frame _ _ _ s2e fun b hb o q => up b o (fun e => D.z2 (e ▸ hb)) q) Th fun c o c1 c2 c3 c4 q => up c o c1 (kept c o c1 c2 c3 c4 q)
/-- the first one ends -/
theorem next_end {z TI TO i1 i2 : Addr} {f1 f2 : List Addr} {n : Nat} {P1 : Nat → Value → Prop} {S1 : Nat → Heap → Prop} {a b : Value} {Q : Fin → Shared → Prop}
    (D1 : Draws prog w A i1 f1 n P1 S1) (D : Ap z TI TO i1 i2 f1 f2) (hz : IsZip s.heap z TI TO .none) (hTI : IsPair s.heap TI (.ref i1) (.ref i2)) (hTO : IsPair s.heap TO a b) (h1 : S1 n s.heap)
    (hE : ∀ h' e, (∀ c o, c ≠ z → c ≠ i1 → s.heap.get? c = some o → h'.get? c = some o) → (∃ o, h'.get? e = some o ∧ o.cls = .type "StopIteration") → E (.ref e) { s with heap := h' }) :
    wpAny (model prog w) A (Builtin.«zip.__next__» ⟨[.ref z], []⟩) Q E s := by
  show wpAny _ _ (field (.ref z) 2 >>= _) _ _ _
  refine wpAny_bind (wpAny_field hz rfl (x := .bool false) rfl ?_)
  show wpAny _ _ (field (.ref z) 3 >>= _) _ _ _
  refine wpAny_bind (wpAny_field hz rfl (x := .ref TI) rfl (wpAny_bind (wpAny_seqItems hTI rfl ?_)))
  show wpAny _ _ (Builtin.SmallTypes.ownedTupleIsFree (.ref z) >>= _) _ _ _
  refine wpAny_bind ?_
  unfold Builtin.SmallTypes.ownedTupleIsFree
  refine wpAny_bind (wpAny_field hz rfl (x := .none) rfl (wpAny_pure ?_))
  simp only [if_true]
  refine wpAny_bind (wpAny_rule (wpAny_bind (wpAny_field hz rfl (x := .ref TO) rfl ?_)))
  refine wpAny_bind (wpAny_setField_rec hz (by simp) fun ha za sa => wpAny_bind ?_)
  replace za : IsZip ha z TI TO .ellipsis := za
  simp only [List.zipIdx_cons, List.zipIdx_nil, List.forIn_cons, List.forIn_nil]
  refine wpAny_bind (wpAny_bind (wpAny_onRaise ?_))
  show wpAny _ _ (Builtin.SmallTypes.nextOf (.ref i1) >>= _) _ _ _
  refine wpAny_bind (D1.done _ _ _ (D1.frame _ _ _ h1 (keepS sa D.z1)) fun hb e sb he => ?_)
  obtain ⟨oe, hoe, hce⟩ := he
  have zb : IsZip hb z TI TO .ellipsis := sb _ _ D.i1z.symm za
  have ez : e ≠ z := fun x => by subst x; rw [zb] at hoe; cases hoe; simp at hce
  exact wpAny_setField_rec zb (by simp) fun hc _ sc => hE hc e (fun c o c1 c2 q => sc.extBut _ _ c1 (sb _ _ c2 (sa.extBut _ _ c1 q))) ⟨oe, sc.extBut _ _ ez hoe, hce⟩
end
end ZpD

set_option Elab.async false
set_option linter.all false
set_option maxRecDepth 100000
set_option maxHeartbeats 4000000
/-! zip over a list and a tuple of one length: the call, a turn -/
namespace ZpD
open PySem
abbrev hA (h : Heap) (l : Addr) : Heap := h.push { cls := .type "list_iterator", data := .fields #[.ref l, .int 0 0] }
abbrev hB (h : Heap) (l t : Addr) : Heap := (hA h l).push { cls := .type "tuple_iterator", data := .fields #[.ref t, .int 0 0] }
abbrev hC (h : Heap) (l t : Addr) : Heap := (hB h l t).push { cls := .type "tuple", data := .seq #[.ref h.objs.size, .ref (hA h l).objs.size] }
abbrev hD (h : Heap) (l t : Addr) : Heap := (hC h l t).push { cls := .type "tuple", data := .seq #[.none, .none] }
abbrev hE (h : Heap) (l t : Addr) : Heap := (hD h l t).push { cls := .type "zip", data := .fields #[.none, .bool false, .bool false, .ref (hB h l t).objs.size, .ref (hC h l t).objs.size] }
theorem makes (l t : Addr) (xs ys : Array Value) :
    Meets (Builtin.«zip.__new__» ⟨[.type "zip", .ref l, .ref t], []⟩) (fun _ R s => s.heap.IsList l xs ∧ s.heap.IsTuple t ys ∧ R (.ok (.ret (.ref (hD s.heap l t).objs.size))) { s with heap := hE s.heap l t }) :=
  .of_wp fun prog w A R s h => by
    obtain ⟨hp, g, d, tk, os⟩ := s; obtain ⟨hl, ht, h⟩ := h
    have same := sub_zip
    have h1 : Heap.IsList (Shared.heap ⟨hp, g, d, tk, os⟩) l xs := hl
    have h2 : Heap.IsTuple (Shared.heap ⟨hp.push { cls := .type "list_iterator", data := .fields #[.ref l, .int 0 0] }, g, d, tk, os⟩) t ys := Heap.IsTuple.push ht _
    wp_walk using wpAny_pyIter_list h1, wpAny_pyIter_tuple h2
    exact ⟨_, rfl, h⟩
section
variable {prog : Program} {w : World} {A : Around} {E : Value → Shared → Prop} {s : Shared}
theorem calls {l t : Addr} {xs ys : Array Value} {Q : Value → Shared → Prop} (hl : s.heap.IsList l xs) (ht : s.heap.IsTuple t ys)
    (h : ∀ h', IsZip h' (s.heap.objs.size + 4) (s.heap.objs.size + 2) (s.heap.objs.size + 3) .none → IsPair h' (s.heap.objs.size + 2) (.ref s.heap.objs.size) (.ref (s.heap.objs.size + 1)) →
      IsPair h' (s.heap.objs.size + 3) .none .none → h'.IsListIter s.heap.objs.size l 0 → h'.IsTupleIter (s.heap.objs.size + 1) t 0 → (∀ c o, s.heap.get? c = some o → h'.get? c = some o) → Q (.ref (s.heap.objs.size + 4)) { s with heap := h' }) :
    wpAny (model prog w) A (call (.type "zip") [.ref l, .ref t]) Q E s := by
  refine callType_new F.called_zip (by decide) (F.typeCall_zip_2 _ _) (F.newCall_zip_2 _ _) (fun obj => F.args_object_init_3 obj _ _) F.entry_zip_new (makes l t xs ys) ⟨hl, ht, ?_⟩
  have n1 : (hA s.heap l).objs.size = s.heap.objs.size + 1 := Heap.size_push ..
  have n2 : (hB s.heap l t).objs.size = s.heap.objs.size + 2 := by rw [Heap.size_push, n1]
  have n3 : (hC s.heap l t).objs.size = s.heap.objs.size + 3 := by rw [Heap.size_push, n2]
  have n4 : (hD s.heap l t).objs.size = s.heap.objs.size + 4 := by rw [Heap.size_push, n3]
  have up : ∀ {h : Heap} {o : Obj} {c : Addr} {u : Obj}, h.get? c = some u → (h.push o).get? c = some u := fun q => Heap.get?_push_of_some _ q
  have gE : (hE s.heap l t).get? (hD s.heap l t).objs.size = some _ := Heap.get?_push_size _ rfl
  have gD : (hE s.heap l t).get? (hC s.heap l t).objs.size = some _ := up (Heap.get?_push_size _ rfl)
  have gC : (hE s.heap l t).get? (hB s.heap l t).objs.size = some _ := up (up (Heap.get?_push_size _ rfl))
  have gB : (hE s.heap l t).get? (hA s.heap l).objs.size = some _ := up (up (up (Heap.get?_push_size _ rfl)))
  have gA : (hE s.heap l t).get? s.heap.objs.size = some _ := up (up (up (up (Heap.get?_push_size _ rfl))))
  show _ ∧ _
  rw [n2, n3, n4] at gE
  rw [n1, n2] at gC
  rw [n3] at gD
  rw [n1] at gB
  rw [n4]
  exact ⟨⟨_, gE, rfl⟩, h _ gE gC gD ⟨_, gA, rfl, rfl⟩ ⟨_, gB, rfl, rfl⟩ fun c o q => up (up (up (up (up q))))⟩
end
end ZpD
namespace Sp1
open PySem PySem.Spec PyProof.Rows L2 ZpD
/-- the list at a and the tuple at b, of one length, the items in new pairs -/
def ItzM (K : PySem.W.Frag) (a b : Addr) : It :=
  ⟨fun i H => ∃ (xs ys : List V) (x y : V), SqL K H a xs ∧ SqT K H b ys ∧ xs.length = ys.length ∧ xs[i]? = some x ∧ ys[i]? = some y,
    fun i H v H' => ∃ T x y, v = .ref T ∧ H T = none ∧ H' = upd H T (.tup [x, y]) ∧ (∀ xs, SqL K H a xs → xs[i]? = some x) ∧ ∀ ys, SqT K H b ys → ys[i]? = some y,
    fun i H => ∃ xs : List V, SqL K H a xs ∧ xs.length = i⟩
theorem turn_zipM {P : Program} {w : World} {K : PySem.W.Frag} {elts : List Expr} {kk : Nat} {tpos : Pos} {a b z TI TO i1 i2 : Addr} (D : Ap z TI TO i1 i2 [i1, a] [i2, b]) (na : a ≠ i1) (nb : b ≠ i2) :
    Turn P w K (.Tuple elts kk tpos) (ItzM K a b) [z, TI, TO, i1, i2] z (fun i h => IsZip h z TI TO .none ∧ IsPair h TI (.ref i1) (.ref i2) ∧ (∃ x y, IsPair h TO x y) ∧ h.IsListIter i1 a i ∧ h.IsTupleIter i2 b i) where
  mem := List.mem_cons_self
  obj := fun i h st c hc => by
    obtain ⟨hz, hTI, ⟨x, y, hTO⟩, ⟨o1, e1, _, d1⟩, ⟨o2, e2, _, d2⟩⟩ := st
    simp only [List.mem_cons, List.not_mem_nil, or_false] at hc
    rcases hc with rfl | rfl | rfl | rfl | rfl
    · exact ⟨_, hz, fun v q => nomatch q⟩
    · exact ⟨_, hTI, fun v q => nomatch q⟩
    · exact ⟨_, hTO, fun v q => nomatch q⟩
    · exact ⟨o1, e1, fun v q => by rw [d1] at q; cases q⟩
    · exact ⟨o2, e2, fun v q => by rw [d2] at q; cases q⟩
  keep := fun i h h' st k => by
    obtain ⟨hz, hTI, ⟨x, y, hTO⟩, h1, h2⟩ := st
    exact ⟨k z (by simp) _ hz, k TI (by simp) _ hTI, ⟨x, y, k TO (by simp) _ hTO⟩, h1.at fun o q => k i1 (by simp) o q, h2.at fun o q => k i2 (by simp) o q⟩
  item := by
    intro X hP hw hK hc i pins s σ H E I hf st hg
    subst hP hw hK
    obtain ⟨hz, hTI, ⟨x0, y0, hTO⟩, h1, h2⟩ := st
    obtain ⟨xs, ys, x, y, hqx, hqy, hl, hx, hy⟩ := hg
    obtain ⟨its, rv, p1, _⟩ := I.list hqx
    obtain ⟨its2, rv2, p2, _⟩ := I.tuple hqy
    obtain ⟨u, hu, ru⟩ := rv.get hx
    obtain ⟨u2, hu2, ru2⟩ := rv2.get hy
    have l1 := rv.length
    have l2 := rv2.length
    have hi : i < its.toArray.size := by
      rw [List.size_toArray]
      exact (List.getElem?_eq_some_iff.mp hu).1
    have e : its2.toArray.size = its.toArray.size := by rw [List.size_toArray, List.size_toArray]; omega
    have D2 : ∀ {A : Around}, A.handled = none → Draws X.prog X.w A i2 [i2, b] its.toArray.size (fun i v => its2.toArray[i]? = some v) (fun i h => h.IsTupleIter i2 b i ∧ h.IsTuple b its2.toArray) := fun hh => e ▸ Draws.tuple hh i2 b nb its2.toArray
    have hT : s.TypeIs (.ref z) "zip" := ⟨_, hz, rfl⟩
    have hzl : z < s.heap.objs.size := Heap.lt_size hz
    unfold pyNext
    refine wpAny_bind (wpAny_attempt (wpAny_callSpecial?_slot (name := Str.ofString "__next__") hT F.slot_zip_next (wpAny_call_entry F.slot_zip_next hT F.entry_zip_next
      (next_item (Draws.list (prog := X.prog) (w := X.w) (A := X.A.in1) (I.ok.hd hc) i1 a na its.toArray) (D2 (A := X.A.in1) (I.ok.hd hc)) D hz hTI hTO ⟨h1, p1.isList⟩ ⟨h2, p2⟩ hi fun v v2 h' tk hv hv2 z' TO' s1 s2 hT' hk => wpAny_pure ?_) (F.args_zip_next_1 _))))
    have ev : v = u := by
      have : its.toArray[i]? = some u := by simpa using hu
      rw [this] at hv
      exact (Option.some.inj hv).symm
    have ev2 : v2 = u2 := by
      have : its2.toArray[i]? = some u2 := by simpa using hu2
      rw [this] at hv2
      exact (Option.some.inj hv2).symm
    subst ev
    subst ev2
    refine ⟨_, rfl, wpAny_letOwnedTupleGo_zip (s := { s with heap := h', toks := tk }) z' fun h'' z'' sb => ?_⟩
    have hT2 : h''.get? s.heap.objs.size = some { cls := .type "tuple", data := .seq #[v, v2] } := (sb.2 _ (Nat.ne_of_gt hzl)).trans hT'
    have new : ObjOk X.prog X.w (upd H s.heap.objs.size (.tup [x, y])) h'' s.heap.objs.size (.tup [x, y]) :=
      ⟨by show 2 ≤ sizeLine; decide, [v, v2], .cons ru (.cons ru2 .nil), ⟨_, hT2, rfl, _, rfl⟩⟩
    have I1 : Inv X pins σ (upd H s.heap.objs.size (.tup [x, y])) { s with heap := h'', toks := tk } :=
      I.turnedNew (ch := [z, TI, TO, i1, i2]) (fun c o hb q => by
        simp only [List.mem_cons, List.not_mem_nil, or_false, not_or] at hb
        exact (sb.2 c hb.1).trans (hk c o hb.1 hb.2.2.1 hb.2.2.2.1 hb.2.2.2.2 q)) hf (Nat.le_refl _) new
    refine ⟨.ref s.heap.objs.size, _, I1, rfl, ⟨_, x, y, rfl, I.hok.fresh (Nat.le_refl _), rfl, fun l hl' => by rw [I.list_inj hl' hqx]; exact hx, fun l hl' => by rw [I.tuple_inj hl' hqy]; exact hy⟩, ⟨z'', (sb.2 _ D.TIz).trans (hk _ _ D.TIz D.TITO D.TIi1 D.TIi2 hTI), ⟨v, v2, (sb.2 _ D.TOz).trans TO'⟩, s1.1.at fun o q => (sb.2 _ D.i1z).trans q, s2.1.at fun o q => (sb.2 _ D.i2z).trans q⟩, fun c hcm => ?_⟩
    have hlt : c < s.heap.objs.size := by
      simp only [List.mem_cons, List.not_mem_nil, or_false] at hcm
      rcases hcm with rfl | rfl | rfl | rfl | rfl
      · exact hzl
      · exact Heap.lt_size hTI
      · exact Heap.lt_size hTO
      · obtain ⟨_, e1, _⟩ := h1
        exact Heap.lt_size e1
      · obtain ⟨_, e2, _⟩ := h2
        exact Heap.lt_size e2
    rw [upd_ne (Nat.ne_of_lt hlt)]
    exact (hf c hcm).1
  done := by
    intro X hP hw hK hc i pins s σ H E I hf st hg
    subst hP hw hK
    obtain ⟨hz, hTI, ⟨x0, y0, hTO⟩, h1, h2⟩ := st
    obtain ⟨xs, hqx, hl⟩ := hg
    obtain ⟨its, rv, p1, _⟩ := I.list hqx
    have l1 := rv.length
    have hi : i = its.toArray.size := by rw [List.size_toArray]; omega
    subst hi
    have hT : s.TypeIs (.ref z) "zip" := ⟨_, hz, rfl⟩
    unfold pyNext
    refine wpAny_bind (wpAny_attempt (wpAny_callSpecial?_slot (name := Str.ofString "__next__") hT F.slot_zip_next (wpAny_call_entry F.slot_zip_next hT F.entry_zip_next
      (next_end (Draws.list (prog := X.prog) (w := X.w) (A := X.A.in1) (I.ok.hd hc) i1 a na its.toArray) D hz hTI hTO ⟨h1, p1.isList⟩ fun h' e hk he => ?_) (F.args_zip_next_1 _))))
    obtain ⟨o, ho, hcl⟩ := he
    refine wpAny_bind (wpAny_isInstance (T := "StopIteration") (b := true) ⟨o, ho, hcl⟩ isSubtype_stop ?_)
    refine wpAny_pure ⟨rfl, I.turnedL (t' := s.toks) (ch := [z, TI, TO, i1, i2]) (fun c o hb q => ?_) hf⟩
    simp only [List.mem_cons, List.not_mem_nil, or_false, not_or] at hb
    exact hk c o hb.1 hb.2.2.2.1 q
  self := fun A i s Q E st h => wpAny_pyIter_zip st.1 h
def iZipM (K : PySem.W.Frag) (ta : TA) : TI := fun σ H R => ta σ H fun vs H1 => ∃ a b xs ys, vs = [.ref a, .ref b] ∧ SqL K H1 a xs ∧ SqT K H1 b ys ∧ R (ItzM K a b) H1
theorem pi_zipM {X : Cx} {e e2 : Expr} {ta : TA} {p pos tpos : Pos} {elts : List Expr} {kk : Nat} (hg : Gl X "zip") (hm : X.mg "zip" = none) (ha : PA X [e, e2] ta)
    (hs : starEach [e, e2] X.env = (false, eval e X.env) :: starEach [e2] X.env := by rfl) (hpl : (backTo pos (starEach [e2] X.env)).any (·.1) = false := by rfl) :
    PI X (.Tuple elts kk tpos) (.Call (.Name "zip" p) [e, e2] [] pos) (iZipM X.K ta) := by
  refine ⟨fun pins s σ H R I h => ?_⟩
  refine Call_ (ld_blt I hg hm PyProof.Rows.boot_zip (PyProof.Rows.callWith_type1 (thn (ha.run pos pins s σ H _ I h) fun us s1 ⟨vs, H1, I1, r1, q1⟩ => ?_) hs hpl))
  obtain ⟨a, b, xs, ys, rfl, hqx, hqy, q⟩ := q1
  obtain ⟨u, u2, rfl, r, r'⟩ := vals2 r1
  cases r
  cases r'
  obtain ⟨its, rv, p1, _⟩ := I1.list hqx
  obtain ⟨its2, rv2, p2, _⟩ := I1.tuple hqy
  have la : (a : Nat) < s1.heap.objs.size := p1.lt
  have lb : (b : Nat) < s1.heap.objs.size := by
    obtain ⟨o, ho, _⟩ := id p2
    exact Heap.lt_size ho
  refine calls p1.isList p2 fun h' hz hTI hTO h1 h2 hk => wpAny_pyIter_zip hz ?_
  have I2 : Inv X pins σ H1 { s1 with heap := h' } := I1.kept (t' := s1.toks) hk
  have D : Ap (s1.heap.objs.size + 4) (s1.heap.objs.size + 2) (s1.heap.objs.size + 3) s1.heap.objs.size (s1.heap.objs.size + 1) [s1.heap.objs.size, a] [s1.heap.objs.size + 1, b] := by
    generalize s1.heap.objs.size = n at la lb
    have f1 : ∀ k : Nat, n ≤ k → k ≠ a := fun k hk e => Nat.lt_irrefl n (Nat.lt_of_le_of_lt (e ▸ hk) la)
    have f2 : ∀ k : Nat, n ≤ k → k ≠ b := fun k hk e => Nat.lt_irrefl n (Nat.lt_of_le_of_lt (e ▸ hk) lb)
    refine ⟨?_, ?_, ?_, ?_, ?_, ?_, ?_, ?_, ?_, ?_, ?_, ?_, ?_, ?_, ?_, ?_⟩
    all_goals first
      | exact fun e => absurd (show (_ : Nat) = _ from e) (by omega)
      | (intro e
         simp only [List.mem_cons, List.not_mem_nil, or_false] at e
         rcases e with e | e
         · exact absurd (show (_ : Nat) = _ from e) (by omega)
         · first
             | exact f1 _ (by omega) e
             | exact f2 _ (by omega) e)
  refine ⟨s1.heap.objs.size + 4, [s1.heap.objs.size + 4, s1.heap.objs.size + 2, s1.heap.objs.size + 3, s1.heap.objs.size, s1.heap.objs.size + 1], _, _, H1, rfl, I2, turn_zipM D (Nat.ne_of_lt la) (Nat.ne_of_lt (Nat.lt_succ_of_lt lb)), ⟨hz, hTI, ⟨_, _, hTO⟩, h1, h2⟩, fun c hcm => ?_, q⟩
  have hle : s1.heap.objs.size ≤ c := by
    simp only [List.mem_cons, List.not_mem_nil, or_false] at hcm
    rcases hcm with rfl | rfl | rfl | rfl | rfl
    all_goals first
      | exact Nat.le_refl _
      | exact Nat.le_add_right _ _
  exact I1.fpOk hle (I1.hok.fresh hle)
theorem walk_zipM {K : PySem.W.Frag} {a b : Addr} {xs ys : List V} (hl : xs.length = ys.length) : Walk (ItzM K a b) xs.length (fun H => SqL K H a xs ∧ SqT K H b ys) (YPair (fun i => xs[i]?) (fun i => ys[i]?)) := by
  refine ⟨fun i _ hi q => ⟨xs, ys, xs[i], ys[i]'(by omega), q.1, q.2, hl, List.getElem?_eq_getElem hi, List.getElem?_eq_getElem _⟩, fun _ q => ⟨xs, q.1, rfl⟩, fun i H v H' _ q y => ?_⟩
  obtain ⟨T, x, y, h1, h2, h3, h4, h5⟩ := y
  exact ⟨T, x, y, h1, h2, h3, h4 xs q.1, h5 ys q.2⟩
end Sp1

set_option Elab.async false
set_option linter.all false
set_option maxRecDepth 100000
set_option maxHeartbeats 4000000
/-! xs[a:c] = t, xs a list and t a tuple -/
namespace SlT
open PySem PySem.Spec PyProof.Rows L2
section
variable {prog : Program} {w : World} {A : Around} {E : Value → Shared → Prop} {s : Shared}
theorem store {l b sl : Addr} {items new : Array Value} {n : Nat} {vl vu : Value} {a c : Nat} {Q : Unit → Shared → Prop}
    (e : s.heap.get? l = some { cls := .type "list", data := .seq items n }) (hb : s.heap.IsTuple b new) (hne : l ≠ b)
    (hs : s.heap.IsSliceOf sl vl vu .none) (pl : IsPart vl (some (a : Int))) (pu : IsPart vu (some (c : Int))) (hac : a ≤ c) (hc : c ≤ items.size)
    (hsz : items.size + new.size ≤ sizeLine) (h : Q () { s with heap := s.heap.update l (Obj.mapSeq fun xs => xs.extract 0 a ++ new ++ xs.extract c xs.size) }) :
    wpAny (model prog w) A (setItem (.ref l) (.ref sl) (.ref b)) Q E s := by
  have hl : s.heap.IsList l items := PySem.IsL.isList e
  obtain ⟨ob, hob, hcb, nb, hdb⟩ := id hb
  have tb : s.TypeIs (.ref b) "tuple" := ⟨ob, hob, hcb⟩
  obtain ⟨os, hos, hcs, hds⟩ := id hs
  have ts : s.TypeIs (.ref sl) "slice" := ⟨os, hos, hcs⟩
  have apart : Builtin.List.listSameRef (.ref l) (.ref b) = false := beq_eq_false_iff_ne.mpr hne
  have top : (max (a : Int) (c : Int)).toNat = c := by omega
  have fits : ((fun xs : Array Value => xs.extract 0 a ++ new ++ xs.extract c xs.size) items).size ≤ sizeLine + 1 := by
    simp only [Array.size_append, Array.size_extract]
    omega
  unfold setItem
  try with_reducible refine wpAny_holding ?_
  first | refine wpAny_bind (wpAny_pure ?_) | skip
  refine wpAny_bind (wpAny_sequenceKey hl.typeIs (by decide) ?_)
  refine wpAny_bind (wpAny_callSpecial?_slot (name := Str.ofString "__setitem__") hl.typeIs slot_list_setitem (wpAny_call_entry slot_list_setitem hl.typeIs entry_list_setitem ?_ (args_list_setitem _ _ _)))
  show wpAny _ _ (Builtin.List.listSubscript? (.ref sl) >>= _) _ _ s
  refine wpAny_bind ?_
  unfold Builtin.List.listSubscript?
  refine wpAny_bind (wpAny_specialOf ts slice_no_index ?_)
  simp only [Option.isNone_none, if_true]
  refine wpAny_pure ?_
  show wpAny _ _ (typeOf (.ref sl) >>= _) _ _ s
  refine wpAny_bind (wpAny_typeOf ts ?_)
  first
    | rw [if_neg (by decide)]
    | refine PySem.W.KFB.if_not (by decide) ?_
  rw [listSliceParts_eq]
  refine wpAny_bind (wpAny_bind (wpAny_field hos hds (x := .none) rfl (wpAny_bind (wpAny_listPart .none ?_))))
  rw [if_neg (show ¬ ((rawPart none == rawInt 0) = true) from Bool.false_ne_true)]
  refine wpAny_bind (wpAny_field hos hds (x := vl) rfl (wpAny_bind (wpAny_listPart pl ?_)))
  refine wpAny_bind (wpAny_field hos hds (x := vu) rfl (wpAny_bind (wpAny_listPart pu (wpAny_pure ?_))))
  first
    | simp only [apart, Bool.false_eq_true, if_false]
    | refine PySem.W.KFB.if_not apart ?_
    | (dsimp only
       rw [if_neg (by rw [apart]; exact Bool.false_ne_true)])
  refine wpAny_bind (m := Builtin.List.listAllItems (.ref b) "must assign iterable to extended slice") ?_
  unfold Builtin.List.listAllItems
  refine wpAny_bind (wpAny_typeOf tb ?_)
  first
    | refine PySem.W.KFB.if_so (by decide) ?_
    | rw [if_pos (by decide)]
  unfold Builtin.List.listItems
  refine wpAny_bind (wpAny_seqItems hob hdb (wpAny_pure ?_))
  refine wpAny_bind (wpAny_bind (wpAny_seqItems e rfl (wpAny_pure ?_)))
  refine wpAny_bind (wpAny_of_eq ((sliceIndices_raw (some (a : Int)) (some (c : Int)) none items.size (by simp)).trans (congrArg (pure : Int × Int × Int → Sem (Int × Int × Int)) (bounds_run hac hc))) ?_)
  show wpAny _ _ (if ((1 : Int) == 1) = true then _ else _) _ _ s
  rw [if_pos (by decide)]
  refine wpAny_bind (wpAny_rule ?_)
  first
    | simp only [notLongL hsz, Bool.false_eq_true, if_false]
    | refine PySem.W.KFB.if_not (notLongL hsz) ?_
  first | refine wpAny_bind (wpAny_pure ?_) | skip
  show wpAny _ _ (updateSeq l (fun xs => xs.extract 0 ((a : Int)).toNat ++ new ++ xs.extract (max (a : Int) (c : Int)).toNat xs.size) >>= _) _ _ s
  rw [top, Int.toNat_natCast]
  refine wpAny_bind (wpAny_updateSeq (hz := Nat.le_trans (Nat.le_add_right _ _) hsz) (_hz' := fits) e rfl (wpAny_bind (wpAny_letGo ?_)))
  first
    | exact wpAny_bind (wpAny_pure (wpAny_pure ⟨.none, rfl, wpAny_pure h⟩))
    | exact wpAny_pure ⟨.none, rfl, wpAny_pure h⟩
end
end SlT
namespace Sp1
open PySem PySem.Spec PyProof.Rows L2
section
variable {X : Cx} {o : Expr} {lo hi : Option Expr} {pos p2 : Pos} {to : TE} {tl th : TO}
/-- o[lo:hi] = t, o a list and t a tuple -/
def gSlT (K : PySem.W.Frag) (to : TE) (tl th : TO) : TG := fun v σ H Q => to σ H fun x H1 => tl σ H1 fun l H2 => th σ H2 fun u H3 => ∃ (p b : Addr) (xs ys : List V) (a c : Nat), x = .ref p ∧ v = .ref b ∧ l = some (a : Int) ∧ u = some (c : Int) ∧
  H3 p = some (.lst xs) ∧ SqT K H3 b ys ∧ a ≤ c ∧ c ≤ xs.length ∧ xs.length + ys.length ≤ sizeLine ∧ Q σ (upd H3 p (.lst (xs.take a ++ ys ++ xs.drop c)))
theorem pg_slT (ho : PE X o to) (hl : PO X lo tl) (hu : PO X hi th)
    (ha : ∀ v, assign (.Subscript o (.Slice lo hi none p2) pos) X.env v = (do
      let ov ← holding [v] (eval o X.env)
      let iv ← holding [v, ov] (eval (.Slice lo hi none p2) X.env)
      standAt pos
      holding [v, ov, iv] (setItem ov iv v)
      release [iv, v, ov] []) := by intro _; rfl) : PG X (.Subscript o (.Slice lo hi none p2) pos) (gSlT X.K to tl th) := by
  refine ⟨fun pins s σ H v u Q I r h => ?_⟩
  rw [ha]
  refine wpAny_bind (wpAny_holding (thn (ho.run pins s σ H _ I h) fun ov s1 ⟨x, H1, I1, r1, q1⟩ => ?_))
  refine wpAny_bind (wpAny_holding ?_)
  refine wpAny_Slice (thn (hl.run pins s1 σ H1 _ I1 q1) fun vl s2 ⟨l, H2, I2, pl, q2⟩ => thn (hu.run pins s2 σ H2 _ I2 q2) fun vu s3 ⟨w, H3, I3, pu, q3⟩ => ?_)
  rw [evalPart_none]
  refine wpAny_pure ?_
  have I4 : Inv X pins σ H3 { s3 with heap := s3.heap.push { cls := .type "slice", data := .fields #[vl, vu, .none] } } := I3.kept (t' := s3.toks) fun b ob q => Heap.get?_push_of_some _ q
  obtain ⟨p, b, xs, ys, a, c, rfl, rfl, rfl, rfl, hp, hb, hac, hc, hz, q⟩ := q3
  cases r1
  cases r
  obtain ⟨z, its, n, rv, hll, e⟩ := I4.lstM hp
  obtain ⟨its2, rv2, p2', hz2⟩ := I4.tuple hb
  have hne : p ≠ b := fun z => by
    subst z
    obtain ⟨o2, ho2, hc2, _⟩ := p2'
    rw [e] at ho2
    cases ho2
    injection hc2 with hc2
    exact absurd hc2 (by decide)
  have l1 := rv.length
  have l2 := rv2.length
  refine wpAny_bind (wpAny_standAt (wpAny_bind (wpAny_holding (SlT.store (a := a) (c := c) e (show Heap.IsTuple _ b its2.toArray from p2') hne (Heap.IsSliceOf.new ..) pl pu hac (by rw [List.size_toArray]; omega) (by rw [List.size_toArray, List.size_toArray]; omega) (wpAny_release ⟨σ, _, ?_, q⟩)))))
  refine I4.lset (its' := its.take a ++ its2 ++ its.drop c) (t' := s3.toks) hp e (splice_eq its its2 a c) (Vals.append (Vals.append (rv.take _) rv2) (rv.drop _)) ?_
  rw [List.length_append, List.length_append, List.length_take, List.length_drop]
  omega
end
end Sp1

set_option Elab.async false
set_option linter.all false
set_option maxRecDepth 100000
set_option maxHeartbeats 4000000
/-! repr of a list of a dict (texts to numbers) and a list of numbers -/
namespace Sp1
open PySem PySem.Spec PyProof.Rows L2
section
variable {prog : Program} {w : World} {h₀ : Heap}
theorem reprAll_two {v1 v2 : Value} {d1 d2 : PyData} {as1 as2 : List Addr} (r1 : Reads h₀ v1 d1 as1) (s1 : d1.showable = true) (m1 : sysModules ∉ as1) (r2 : Reads h₀ v2 d2 as2) (s2 : d2.showable = true) (n2 : d2.hasDict = false)
    (hz : ∀ t ∈ PyData.shownAll [d1, d2], t.length ≤ sizeLine) :
    ∃ bs, ReadAtMost h₀ (PyData.depthAll [d1, d2]) bs ∧ ReprAllK prog w bs h₀ (PyData.depthAll [d1, d2]) [v1, v2] (PyData.shownAll [d1, d2]) := by
  obtain ⟨b1, hb1, k1⟩ := ReprK.of_reads (prog := prog) (w := w) r1 s1 (fun _ => m1) (hz _ (by simp only [PyData.shownAll]; exact List.mem_cons_self ..))
  obtain ⟨b2, hb2, k2⟩ := ReprAllK.of_readsAll (prog := prog) (w := w) (ReadsAll.cons r2 .nil) (by simp only [PyData.showableAll, s2, Bool.and_true]) (fun hx => by simp only [PyData.hasDictAll, n2, Bool.or_false] at hx; cases hx) (fun t ht => hz t (by
    simp only [PyData.shownAll] at ht ⊢
    exact List.mem_cons_of_mem _ ht))
  refine ⟨b1 ++ b2, ?_, ?_⟩
  · intro b hm
    rcases List.mem_append.mp hm with hm | hm
    · obtain ⟨d', as', r', hd'⟩ := hb1 b hm
      exact ⟨d', as', r', Nat.le_trans hd' (by simp only [PyData.depthAll]; exact Nat.le_max_left _ _)⟩
    · obtain ⟨d', as', r', hd'⟩ := hb2 b hm
      exact ⟨d', as', r', Nat.le_trans hd' (by simp only [PyData.depthAll]; exact Nat.le_max_right _ _)⟩
  · have := k2.more_le (as' := b1 ++ b2) (d' := PyData.depthAll [d1, d2]) (fun b hb => List.mem_append_right _ hb) (by simp only [PyData.depthAll]; exact Nat.le_max_right _ _)
    simp only [PyData.shownAll] at this ⊢
    exact .cons ((k1.more fun b hb => List.mem_append_left _ hb).level_le (by simp only [PyData.depthAll]; exact Nat.le_max_left _ _)) this
theorem call_repr_two {A : Around} {E : Value → Shared → Prop} {s : Shared} {Q : Value → Shared → Prop} {a : Addr} {o : Obj} {n : Nat} {v1 v2 : Value} {d1 d2 : PyData} {as1 as2 : List Addr}
    (h1 : s.heap.get? a = some o) (h2 : o.cls = .type "list") (h3 : o.data = .seq #[v1, v2] n)
    (r1 : Reads s.heap v1 d1 as1) (s1 : d1.showable = true) (m1 : sysModules ∉ as1) (r2 : Reads s.heap v2 d2 as2) (s2 : d2.showable = true) (n2 : d2.hasDict = false)
    (hg : A.guards = some []) (hu : A.units + ((PyData.list [d1, d2]).depth + 1) < cLine) (hsz : (PyData.list [d1, d2]).shown.length ≤ sizeLine)
    (hQ : ∀ h' u tk, (∀ b o, s.heap.get? b = some o → h'.get? b = some o) → Q (.str (PyData.list [d1, d2]).shown u) { s with heap := h', toks := tk }) :
    wpAny (model prog w) A (call (.builtin "repr") [.ref a]) Q E s := by
  have hz' : (listText (PyData.shownAll [d1, d2])).length ≤ sizeLine := by simpa only [PyData.shown] using hsz
  have h4 : ReadsAll s.heap (#[v1, v2] : Array Value).toList [d1, d2] (as1 ++ (as2 ++ [])) := .cons r1 (.cons r2 .nil)
  obtain ⟨bs, hb, hk⟩ := reprAll_two (prog := prog) (w := w) r1 s1 m1 r2 s2 n2 (fun t ht => Nat.le_trans (listText_mem_le ht) hz')
  have hna : a ∉ bs := not_mem_of_deeper (.list h1 h2 h3 h4) (by simp only [PyData.depth]; omega) hb
  simp only [PyData.depth] at hu
  simp only [PyData.shown] at hQ
  refine call_repr_slot (T := "list") (idr := "list.__repr__") (by omega) ⟨o, h1, h2⟩ F.slot_list_repr.toG ?_
  refine call_list_reprK h1 h2 h3 hna (by simpa using hk.length_eq) (fun i y e => hk.item i y (by simpa using e)) hg (fun b _ => Clear.nil b) (by show A.units + 1 + _ < cLine; omega) (fun _ _ e => e) (fun h' u tk hk => ?_) hz'
  exact ⟨_, _, rfl, hQ h' u tk hk⟩
theorem reads_strs : ∀ {ps : List (Str × Int)} {ks : List Value}, ks.length = ps.length → (∀ (i : Nat) (p : Str × Int) (v : Value), ps[i]? = some p → ks[i]? = some v → ∃ t, v = Value.str p.1 t) → ReadsAll h₀ ks (ps.map fun p => PyData.str p.1) []
  | [], [], _, _ => .nil
  | [], _ :: _, h, _ => by cases h
  | _ :: _, [], h, _ => by cases h
  | p :: ps, v :: ks, h, f => by
    obtain ⟨t, rfl⟩ := f 0 p v rfl rfl
    exact ReadsAll.cons (as := []) (bs := []) (.str _ _) (reads_strs (by simpa using h) fun i q u e1 e2 => f (i + 1) q u e1 e2)
theorem reads_ints : ∀ {ps : List (Str × Int)} {ks : List Value}, ks.length = ps.length → (∀ (i : Nat) (p : Str × Int) (v : Value), ps[i]? = some p → ks[i]? = some v → ∃ t, v = Value.int p.2 t) → ReadsAll h₀ ks (ps.map fun p => PyData.int p.2) []
  | [], [], _, _ => .nil
  | [], _ :: _, h, _ => by cases h
  | _ :: _, [], h, _ => by cases h
  | p :: ps, v :: ks, h, f => by
    obtain ⟨t, rfl⟩ := f 0 p v rfl rfl
    exact ReadsAll.cons (as := []) (bs := []) (.int _ _) (reads_ints (by simpa using h) fun i q u e1 e2 => f (i + 1) q u e1 e2)
end
theorem log2_lt' {n k : Nat} (hk : 0 < k) (h : n < 2 ^ k) : n.log2 < k := by
  by_cases h0 : n = 0
  · subst h0
    exact hk
  · exact (Nat.log2_lt h0).2 h
def kvOf (p : Str × Int) : Key × V := (Sum.inr p.1, .int p.2)
theorem pairs_reads {P : Program} {w : World} {h₀ : Heap} : ∀ {ps : List (Str × Int)} {vs : List (Key × Value)} {es : List DictEntry}, KV (ps.map kvOf) vs → Pairs (mixKind P w) es vs →
    ReadsAll h₀ (es.map (·.key)) (ps.map fun p => PyData.str p.1) [] ∧ ReadsAll h₀ (es.map (·.val)) (ps.map fun p => PyData.int p.2) []
  | [], vs, es, h, g => by
    cases h
    cases g
    exact ⟨.nil, .nil⟩
  | p :: ps, vs, es, h, g => by
    cases h with
    | cons hq ht =>
      cases g with
      | cons g1 g2 g3 =>
        obtain ⟨i1, i2⟩ := pairs_reads (h₀ := h₀) ht g3
        obtain ⟨q1, q2⟩ := hq
        rename_i kv vs' en es'
        obtain ⟨k, u⟩ := kv
        cases q1
        obtain ⟨t, q3⟩ := q2
        have q3 : u = .int p.2 t := q3
        subst q3
        have g1 : Value.isStrOf p.1 en.key = true := g1
        rcases keyIs_shape (k := Sum.inr p.1) g1 with ⟨_, _, e, _⟩ | ⟨x, t', e, e'⟩
        · cases e
        · cases e
          have g2 : en.val = .int p.2 t := g2
          refine ⟨?_, ?_⟩
          · show ReadsAll h₀ (en.key :: es'.map (·.key)) (.str p.1 :: _) []
            rw [e']
            exact ReadsAll.cons (as := []) (bs := []) (.str _ _) i1
          · show ReadsAll h₀ (en.val :: es'.map (·.val)) (.int p.2 :: _) []
            rw [g2]
            exact ReadsAll.cons (as := []) (bs := []) (.int _ _) i2
def kvD (ps : List (Str × Int)) : PyData := .dict (ps.map fun p => (.str p.1, .int p.2))
/-- the text of [{..}, [..]] -/
def twoD (ps : List (Str × Int)) (cs : List Int) : PyData := .list [kvD ps, .list (cs.map PyData.int)]
theorem kv_leaves {ps : List (Str × Int)} (h : ∀ p ∈ ps, (∀ c ∈ p.1.cps.toList, c < 0x110000) ∧ p.2.natAbs ≤ 10 ^ 20) : PyData.showableKv (ps.map fun p => (PyData.str p.1, PyData.int p.2)) = true ∧ PyData.leavesShortKv 1921 (ps.map fun p => (PyData.str p.1, PyData.int p.2)) = true := by
  induction ps with
  | nil => exact ⟨rfl, rfl⟩
  | cons p ps ih =>
    obtain ⟨i1, i2⟩ := ih fun q hq => h q (List.mem_cons_of_mem _ hq)
    obtain ⟨h1, h2⟩ := h p (List.mem_cons_self ..)
    have hl : p.2.natAbs.log2 < 1920 := by
      refine Nat.lt_of_lt_of_le (log2_lt' (n := p.2.natAbs) (k := 1920) (by decide) ?_) (Nat.le_refl _)
      exact Nat.lt_of_le_of_lt h2 (by decide +kernel)
    refine ⟨?_, ?_⟩
    · simp only [List.map_cons, PyData.showableKv, PyData.showable, i1, hl, decide_true, Bool.and_true]
    · have h3 := PyProof.Rows.int_text_len_1921 hl
      have h4 : (p.1.cps.toList.all fun c => decide (c < 16 ^ 8)) = true := List.all_eq_true.mpr fun c hc => decide_eq_true (Nat.lt_trans (h1 c hc) (by decide))
      simp only [List.map_cons, PyData.leavesShortKv, PyData.leavesShort, i2, h4, Bool.true_and, Bool.and_true, decide_eq_true_eq]
      exact h3
theorem ints_leaves {cs : List Int} (h : ∀ k ∈ cs, k.natAbs ≤ 10 ^ 20) : PyData.showableAll (cs.map PyData.int) = true ∧ PyData.leavesShortAll 1921 (cs.map PyData.int) = true ∧ PyData.hasDictAll (cs.map PyData.int) = false ∧ PyData.weightAll (cs.map PyData.int) ≤ 70 * cs.length ∧ PyData.depthAll (cs.map PyData.int) = 0 := by
  induction cs with
  | nil => exact ⟨rfl, rfl, rfl, Nat.le_refl _, rfl⟩
  | cons k cs ih =>
    obtain ⟨i1, i2, i3, i4, i5⟩ := ih fun q hq => h q (List.mem_cons_of_mem _ hq)
    have h2 := h k (List.mem_cons_self ..)
    have hl0 : k.natAbs.log2 < 68 := log2_lt' (by decide) (Nat.lt_of_le_of_lt h2 (by decide +kernel))
    have hl : k.natAbs.log2 < 1920 := by omega
    have h3 := PyProof.Rows.int_text_len_1921 hl
    refine ⟨?_, ?_, ?_, ?_, ?_⟩
    · simp only [List.map_cons, PyData.showableAll, PyData.showable, i1, hl, decide_true, Bool.and_true]
    · simp only [List.map_cons, PyData.leavesShortAll, PyData.leavesShort, i2, Bool.and_true, decide_eq_true_eq]
      exact h3
    · simp only [List.map_cons, PyData.hasDictAll, PyData.hasDict, i3, Bool.or_false]
    · have : (PyData.int k).weight ≤ 69 := by
        simp only [PyData.weight]
        split
        · omega
        · omega
      simp only [List.map_cons, PyData.weightAll, List.length_cons]
      omega
    · simp only [List.map_cons, PyData.depthAll, PyData.depth, i5]
      exact Nat.max_self 0
theorem kv_weight {ps : List (Str × Int)} (h : ∀ p ∈ ps, p.1.length ≤ 8 ∧ p.2.natAbs ≤ 10 ^ 20) : PyData.weightKv (ps.map fun p => (PyData.str p.1, PyData.int p.2)) ≤ 80 * ps.length ∧ PyData.depthKv (ps.map fun p => (PyData.str p.1, PyData.int p.2)) = 0 := by
  induction ps with
  | nil => exact ⟨Nat.le_refl _, rfl⟩
  | cons p ps ih =>
    obtain ⟨i1, i2⟩ := ih fun q hq => h q (List.mem_cons_of_mem _ hq)
    obtain ⟨h1, h2⟩ := h p (List.mem_cons_self ..)
    have hl0 : p.2.natAbs.log2 < 68 := log2_lt' (by decide) (Nat.lt_of_le_of_lt h2 (by decide +kernel))
    have h1 : p.1.cps.size ≤ 8 := h1
    refine ⟨?_, ?_⟩
    · have : (PyData.int p.2).weight ≤ 69 := by
        simp only [PyData.weight]
        split
        · omega
        · omega
      have h3 : (PyData.str p.1).weight = p.1.cps.size := by simp only [PyData.weight]
      simp only [List.map_cons, PyData.weightKv, List.length_cons]
      omega
    · simp only [List.map_cons, PyData.depthKv, PyData.depth, i2]
      rfl
section
variable {X : Cx}
theorem dpAll_ints' {K : PySem.W.Frag} {H : Hp} : ∀ (u : List Int), DpAll K H (u.map V.int) (u.map PyData.int)
  | [] => .nil
  | x :: r => .cons (.int x) (dpAll_ints' r)
def rReprO (K : PySem.W.Frag) : List V → Hp → VK → Prop := fun xs H Q => ∃ (a D c : Addr) (ps : List (Str × Int)) (cs : List Int), xs = [V.ref a] ∧ SqL K H a [.ref D, .ref c] ∧ H D = some (.dK (ps.map kvOf)) ∧ SqL K H c (cs.map V.int) ∧
  (∀ p ∈ ps, p.1.length ≤ 8 ∧ (∀ z ∈ p.1.cps.toList, z < 0x110000) ∧ p.2.natAbs ≤ 10 ^ 20) ∧ ps.length ≤ 8 ∧ (∀ k ∈ cs, k.natAbs ≤ 10 ^ 20) ∧ cs.length ≤ 60 ∧ Q (.str (twoD ps cs).shown) H
theorem twoD_fits {ps : List (Str × Int)} {cs : List Int} (hp : ∀ p ∈ ps, p.1.length ≤ 8 ∧ (∀ z ∈ p.1.cps.toList, z < 0x110000) ∧ p.2.natAbs ≤ 10 ^ 20) (lp : ps.length ≤ 8) (hc : ∀ k ∈ cs, k.natAbs ≤ 10 ^ 20) (lc : cs.length ≤ 60) :
    (twoD ps cs).shown.length ≤ sizeLine ∧ (twoD ps cs).depth = 2 := by
  obtain ⟨k1, k2⟩ := kv_leaves (fun p hq => ⟨(hp p hq).2.1, (hp p hq).2.2⟩)
  obtain ⟨k3, k4⟩ := kv_weight (fun p hq => ⟨(hp p hq).1, (hp p hq).2.2⟩)
  obtain ⟨i1, i2, i3, i4, i5⟩ := ints_leaves hc
  refine ⟨?_, ?_⟩
  · have h := PyData.shown_le 1921 (by decide) (twoD ps cs) (by simp only [twoD, kvD, PyData.leavesShort, PyData.leavesShortAll, k2, i2, Bool.and_true])
    have hw : (twoD ps cs).weight ≤ 8000 := by
      simp only [twoD, kvD, PyData.weight, PyData.weightAll]
      omega
    have h2 : (1921 + 2) * (twoD ps cs).weight ≤ (1921 + 2) * 8000 := Nat.mul_le_mul_left _ hw
    rw [sizeLine_eq]
    omega
  · simp only [twoD, kvD, PyData.depth, PyData.depthAll, k4, i5]
    rfl
theorem cr_reprO (hg : X.A.guards = some []) (hu : X.A.units + 64 < cLine) : CallR X (.builtin "repr") (rReprO X.K) := by
  intro pins s σ H xs us Q I r h
  obtain ⟨a, D, c, ps, cs, rfl, hA, hD, hC, hp, lp, hc, lc, q⟩ := h
  rw [Vals.ref1 r]
  obtain ⟨its, rv, ⟨o, n, ho, hcl, _, hd⟩, _⟩ := I.list hA
  obtain ⟨its', rv', ⟨o', n', ho', hcl', _, hd'⟩, _⟩ := I.list hC
  obtain ⟨_, hsys, vs, rel, od, es, ep, hod, hex, hdd, _, hpr, _⟩ := dk_of I.hok hD
  obtain ⟨rk, rvv⟩ := pairs_reads (h₀ := s.heap) rel hpr
  obtain ⟨fits, dep⟩ := twoD_fits hp lp hc lc
  obtain ⟨k1, k2⟩ := kv_leaves (fun p hq => ⟨(hp p hq).2.1, (hp p hq).2.2⟩)
  obtain ⟨i1, i2, i3, i4, i5⟩ := ints_leaves hc
  obtain ⟨as2, ra2⟩ := Dp.readsAll I (cs.map PyData.int) (cs.map V.int) its' (dpAll_ints' cs) rv'
  have r1 : Reads s.heap (.ref D) (kvD ps) (D :: [] ++ []) := .dict hod hex.1 hdd (by rw [List.map_map]; exact rk) (by rw [List.map_map]; exact rvv)
  have r2 : Reads s.heap (.ref c) (.list (cs.map PyData.int)) (c :: as2) := .list ho' hcl' hd' ra2
  cases rv with
  | cons e1 t1 =>
    cases t1 with
    | cons e2 t2 =>
      cases t2
      cases e1
      cases e2
      refine call_repr_two (d1 := kvD ps) (d2 := .list (cs.map PyData.int)) ho hcl hd r1 ?_ ?_ r2 ?_ ?_ hg ?_ fits (fun h' u tk hk => ?_)
      · simp only [kvD, PyData.showable]; exact k1
      · intro z
        have : sysModules = D := by simpa using z
        rw [this] at hsys
        simp at hsys
      · simp only [PyData.showable]; exact i1
      · simp only [PyData.hasDict]; exact i3
      · have : (PyData.list [kvD ps, .list (cs.map PyData.int)]).depth = 2 := dep
        rw [this]
        omega
      · exact ⟨.str (twoD ps cs).shown, H, I.kept hk, ⟨u, rfl⟩, q⟩
/-- what can be shown, its text short enough -/
structure ReprOk (d : PyData) : Prop where
  sh : d.showable = true
  nd : d.hasDict = false
  dp : d.depth ≤ 60
  fits : d.shown.length ≤ sizeLine
def rReprF (K : PySem.W.Frag) : List V → Hp → VK → Prop := fun xs H Q => ∃ a d, xs = [V.ref a] ∧ Dp K H (.ref a) d ∧ ReprOk d ∧ Q (.str d.shown) H
theorem cr_reprF (hg : X.A.guards = some []) (hu : X.A.units + 64 < cLine) : CallR X (.builtin "repr") (rReprF X.K) := by
  intro pins s σ H xs us Q I r h
  obtain ⟨a, d, rfl, hd, S, q⟩ := h
  rw [Vals.ref1 r]
  obtain ⟨as, rd⟩ := Dp.reads I d (.ref a) (.ref a) hd rfl
  have := S.dp
  refine repr_of_reads' rd S.sh (fun e => by rw [S.nd] at e; cases e) hg (by omega) (fun _ _ e => e) (fun h' u tk hk => ?_) S.fits
  exact ⟨.str d.shown, H, I.kept hk, ⟨u, rfl⟩, q⟩
end
/-! f(k = v, ..), nothing by position -/
section
variable {X : Cx} {CX : CXT} {k : Nat} {f : Addr} {fd : FuncData} {ps ks : List Str} {sp : Sp} {E : XK} {x : Str} {p pos : Pos} {kws : List Keyword} {tk : TA} {g : List Value → List Value → List Value} {gV : List V → List V → List V}
def tCallK0 (sp : Sp) (gV : List V → List V → List V) (E : XK) (tk : TA) : TE := fun σ H Q => tk σ H fun zs H1 => sp (gV [] zs) H1 Q E
theorem pe_callK0 (F : FnOk X.prog X.w X.K X.mg X.base CX k f fd ps sp) (hr : Room k X.A) (hg : Gl X x) (hm : X.mg x = some (.ref f)) (hk : PySem.W.keepIn X.K (.ref f) = true) (hb : KBinds X.K fd ps ks g gV) (hx : Passes CX X E)
    (hkw : PK X kws tk) (hall : (backToKw pos (keywordEach kws X.env)).all (·.1.isSome) = true := by rfl) (hks : (backToKw pos (keywordEach kws X.env)).filterMap (·.1) = ks := by rfl)
    (hdb : (x == ("__debug__" : Str)) = false := by decide)
    (hpl : ((backTo pos (starEach [] X.env)).any (·.1) || (backToKw pos (keywordEach kws X.env)).any (·.1.isNone)) = false := by rfl) :
    PE X (.Call (.Name x p) [] kws pos) (tCallK0 sp gV E tk) := by
  refine ⟨fun pins s σ H Q I h => ?_⟩
  refine wpAny_Call_Name_kw (ld_glob I hg hm ?_ hdb)
  refine PySem.W.callWith_KW0 (h₀ := X.base) I.ok.mod.kin hk hall (thn (hkw.run pos pins s σ H _ I h) fun ws s2 ⟨zs, H2, I2, rz, q2⟩ => ⟨I2.kIn, ?_⟩) hpl
  rw [hks]
  exact run_fnk (us := []) (vs := []) F hr hb hx I2 .nil rz q2
end
end Sp1

set_option Elab.async false
set_option linter.all false
set_option maxRecDepth 100000
set_option maxHeartbeats 4000000
namespace Sp1
open PySem PySem.Spec PyProof.Rows L2
def top (i : Nat) : Stmt := PySem.Challenge.pw_frugaltape_k83_best_steps_to_keep.main.body.getD i (.Pass ⟨0, 0, 0, 0⟩)
abbrev s_is_integer : Stmt := top 5
abbrev N_is_integer : List Str := ["value"]
theorem sc_is_integer : FnScope N_is_integer ["value"] (defScope s_is_integer) := ⟨rfl, rfl, rfl, by decide +kernel, rfl, by decide +kernel, by decide +kernel⟩
abbrev s_check_step : Stmt := top 8
abbrev N_check_step : List Str := ["candidate", "lowest"]
theorem sc_check_step : FnScope N_check_step ["candidate", "lowest"] (defScope s_check_step) := ⟨rfl, rfl, rfl, by decide +kernel, rfl, by decide +kernel, by decide +kernel⟩
abbrev s_check_steps : Stmt := top 9
abbrev N_check_steps : List Str := ["candidate", "lowest", "step"]
theorem sc_check_steps : FnScope N_check_steps ["candidate"] (defScope s_check_steps) := ⟨rfl, rfl, rfl, by decide +kernel, rfl, by decide +kernel, by decide +kernel⟩
abbrev s_cost_between : Stmt := top 10
abbrev N_cost_between : List Str := ["queries", "one", "other", "low", "high", "query"]
theorem sc_cost_between : FnScope N_cost_between ["queries", "one", "other"] (defScope s_cost_between) := ⟨rfl, rfl, rfl, by decide +kernel, rfl, by decide +kernel, by decide +kernel⟩
abbrev s_cost_before : Stmt := top 11
abbrev N_cost_before : List Str := ["queries", "at", "query"]
theorem sc_cost_before : FnScope N_cost_before ["queries", "at"] (defScope s_cost_before) := ⟨rfl, rfl, rfl, by decide +kernel, rfl, by decide +kernel, by decide +kernel⟩
abbrev s_cost_behind : Stmt := top 12
abbrev N_cost_behind : List Str := ["queries", "at", "query"]
theorem sc_cost_behind : FnScope N_cost_behind ["queries", "at"] (defScope s_cost_behind) := ⟨rfl, rfl, rfl, by decide +kernel, rfl, by decide +kernel, by decide +kernel⟩
abbrev s_with_one_more : Stmt := top 13
abbrev N_with_one_more : List Str := ["queries", "between", "plans", "found", "at", "others", "cost", "kept", "last"]
theorem sc_with_one_more : FnScope N_with_one_more ["queries", "between", "plans"] (defScope s_with_one_more) := ⟨rfl, rfl, rfl, by decide +kernel, rfl, by decide +kernel, by decide +kernel⟩
abbrev s_best_steps : Stmt := top 14
abbrev N_best_steps : List Str := ["queries", "count", "places", "between", "plans", "_", "one", "at", "other"]
theorem sc_best_steps : FnScope N_best_steps ["queries", "count"] (defScope s_best_steps) := ⟨rfl, rfl, rfl, by decide +kernel, rfl, by decide +kernel, by decide +kernel⟩
abbrev s_l_stream : Stmt := top 16
abbrev N_l_stream : List Str := ["_law_script", "_law_k", "_law_cell", "_law_size", "_law_mixed"]
theorem sc_l_stream : FnScope N_l_stream ["_law_script", "_law_k"] (defScope s_l_stream) := ⟨rfl, rfl, rfl, by decide +kernel, rfl, by decide +kernel, by decide +kernel⟩
abbrev s_l_draw : Stmt := top 17
abbrev N_l_draw : List Str := ["_law_stream_here", "_law_count", "_law_result"]
theorem sc_l_draw : FnScope N_l_draw ["_law_stream_here", "_law_count"] (defScope s_l_draw) := ⟨rfl, rfl, rfl, by decide +kernel, rfl, by decide +kernel, by decide +kernel⟩
abbrev s_l_choose : Stmt := top 18
abbrev N_l_choose : List Str := ["_law_stream_here", "_law_some"]
theorem sc_l_choose : FnScope N_l_choose ["_law_stream_here", "_law_some"] (defScope s_l_choose) := ⟨rfl, rfl, rfl, by decide +kernel, rfl, by decide +kernel, by decide +kernel⟩
abbrev s_l_cost : Stmt := top 19
abbrev N_l_cost : List Str := ["_law_queries", "_law_kept", "_law_query", "_law_step"]
theorem sc_l_cost : FnScope N_l_cost ["_law_queries", "_law_kept"] (defScope s_l_cost) := ⟨rfl, rfl, rfl, by decide +kernel, rfl, by decide +kernel, by decide +kernel⟩
abbrev s_l_best : Stmt := top 20
abbrev N_l_best : List Str := ["_law_queries", "_law_count", "_law_found", "_law_number", "_law_kept", "_law_here", "_law_place", "_law_query"]
theorem sc_l_best : FnScope N_l_best ["_law_queries", "_law_count"] (defScope s_l_best) := ⟨rfl, rfl, rfl, by decide +kernel, rfl, by decide +kernel, by decide +kernel⟩
abbrev s_l_parts : Stmt := top 21
abbrev N_l_parts : List Str := ["_law_queries", "_law_found", "_law_first", "_law_last", "_law_middle", "_law_query"]
theorem sc_l_parts : FnScope N_l_parts ["_law_queries"] (defScope s_l_parts) := ⟨rfl, rfl, rfl, by decide +kernel, rfl, by decide +kernel, by decide +kernel⟩
abbrev s_l_least : Stmt := top 22
abbrev N_l_least : List Str := ["_law_queries", "_law_count", "_law_parts_here", "_law_many", "_law_best_here", "_law_turn", "_law_later", "_law_last", "_law_some", "_law_cut"]
theorem sc_l_least : FnScope N_l_least ["_law_queries", "_law_count"] (defScope s_l_least) := ⟨rfl, rfl, rfl, by decide +kernel, rfl, by decide +kernel, by decide +kernel⟩
abbrev s_l_many_right : Stmt := top 23
abbrev N_l_many_right : List Str := ["_law_stream_here", "_law_far", "_law_queries", "_law_count", "_law_held", "_law_cost_here", "_law_kept", "_law_turn", "_law_step"]
theorem sc_l_many_right : FnScope N_l_many_right ["_law_stream_here"] (defScope s_l_many_right) := ⟨rfl, rfl, rfl, by decide +kernel, rfl, by decide +kernel, by decide +kernel⟩
abbrev s_law : Stmt := top 24
abbrev N_law : List Str := ["_law_script", "_law_k", "_law_stream_here", "_law_turn", "_law_far", "_law_queries", "_law_count", "_law_sixty", "_law_place", "_law_number"]
theorem sc_law : FnScope N_law ["_law_script"] (defScope s_law) := ⟨rfl, rfl, rfl, by decide +kernel, rfl, by decide +kernel, by decide +kernel⟩
structure KpF (K : PySem.W.Frag) (mg : Str → Option Value) where
  m_isinstance : mg "isinstance" = none
  m_int : mg "int" = none
  m_bool : mg "bool" = none
  m_list : mg "list" = none
  m_len : mg "len" = none
  m_min : mg "min" = none
  m_max : mg "max" = none
  m_sum : mg "sum" = none
  m_range : mg "range" = none
  m_sorted : mg "sorted" = none
  m_set : mg "set" = none
  m_abs : mg "abs" = none
  m_enumerate : mg "enumerate" = none
  m_repr : mg "repr" = none
  f_is_integer : Addr
  fd_is_integer : FuncData
  D_is_integer : Dn K mg "is_integer" s_is_integer ["value"] f_is_integer fd_is_integer
  f_check_steps : Addr
  fd_check_steps : FuncData
  D_check_steps : Dn K mg "check_steps" s_check_steps ["candidate"] f_check_steps fd_check_steps
  f_cost_between : Addr
  fd_cost_between : FuncData
  D_cost_between : Dn K mg "cost_between" s_cost_between ["queries", "one", "other"] f_cost_between fd_cost_between
  f_cost_before : Addr
  fd_cost_before : FuncData
  D_cost_before : Dn K mg "cost_before" s_cost_before ["queries", "at"] f_cost_before fd_cost_before
  f_cost_behind : Addr
  fd_cost_behind : FuncData
  D_cost_behind : Dn K mg "cost_behind" s_cost_behind ["queries", "at"] f_cost_behind fd_cost_behind
  f_with_one_more : Addr
  fd_with_one_more : FuncData
  D_with_one_more : Dn K mg "with_one_more" s_with_one_more ["queries", "between", "plans"] f_with_one_more fd_with_one_more
  f_best_steps : Addr
  fd_best_steps : FuncData
  D_best_steps : Dn K mg "best_steps" s_best_steps ["queries", "count"] f_best_steps fd_best_steps
  f__law_stream : Addr
  fd__law_stream : FuncData
  D__law_stream : Dn K mg "_law_stream" s_l_stream ["_law_script", "_law_k"] f__law_stream fd__law_stream
  f__law_draw : Addr
  fd__law_draw : FuncData
  D__law_draw : Dn K mg "_law_draw" s_l_draw ["_law_stream_here", "_law_count"] f__law_draw fd__law_draw
  f__law_choose : Addr
  fd__law_choose : FuncData
  D__law_choose : Dn K mg "_law_choose" s_l_choose ["_law_stream_here", "_law_some"] f__law_choose fd__law_choose
  f__law_cost : Addr
  fd__law_cost : FuncData
  D__law_cost : Dn K mg "_law_cost" s_l_cost ["_law_queries", "_law_kept"] f__law_cost fd__law_cost
  f__law_best : Addr
  fd__law_best : FuncData
  D__law_best : Dn K mg "_law_best" s_l_best ["_law_queries", "_law_count"] f__law_best fd__law_best
  f__law_parts : Addr
  fd__law_parts : FuncData
  D__law_parts : Dn K mg "_law_parts" s_l_parts ["_law_queries"] f__law_parts fd__law_parts
  f__law_least : Addr
  fd__law_least : FuncData
  D__law_least : Dn K mg "_law_least" s_l_least ["_law_queries", "_law_count"] f__law_least fd__law_least
  f__law_many_right : Addr
  fd__law_many_right : FuncData
  D__law_many_right : Dn K mg "_law_many_right" s_l_many_right ["_law_stream_here"] f__law_many_right fd__law_many_right
  t_MAX_QUERIES : Tok
  c_MAX_QUERIES : mg "MAX_QUERIES" = some (.int 60 t_MAX_QUERIES)
  f_check_step : Addr
  fd_check_step : FuncData
  F_check_step : FunD K "check_step" "check_step" (defArgs s_check_step) (defBody s_check_step) (defScope s_check_step) [.int 0] [] f_check_step fd_check_step
  g_check_step : mg "check_step" = some (.ref f_check_step)
  k_check_step : PySem.W.keepIn K (.ref f_check_step) = true
  b_check_step : Binds K fd_check_step ["candidate", "lowest"] []
section
variable {P : Program} {w : World} {K : PySem.W.Frag} {mg : Str → Option Value} {base : Heap}
def sp_is_integer : Sp := fun vs H Q _ => ∃ i, vs = [.int i] ∧ Q (.bl true) H
theorem ok_is_integer {f : Addr} {fd : FuncData} {k : Nat} (D : Dn K mg "is_integer" s_is_integer ["value"] f fd) (m1 : mg "isinstance" = none) (m2 : mg "int" = none) (m3 : mg "bool" = none) : FnOk P w K mg base CX0 (k + 1) f fd ["value"] sp_is_integer := by
  refine D.F.ok sc_is_integer (fun vs H Q E h => ?_) (fun cdv A outer s H vs Q E hr h => ?_)
  · obtain ⟨i, rfl, _⟩ := h
    rfl
  · obtain ⟨i, rfl, q⟩ := h
    refine ⟨_, pss_one (ps_ret (pe_and (pe_callB call_isi (by rfl) m1 (by decide +kernel) (pa_cons (pv 0) (pa_cons (pe_ty (n := "int") (by rfl) m2 (by decide +kernel)) pa_nil)))
      (pe_one (pe_not (pe_callB call_isi (by rfl) m1 (by decide +kernel) (pa_cons (pv 0) (pa_cons (pe_ty (n := "bool") (by rfl) m3 (by decide +kernel)) pa_nil))))))), ?_⟩
    refine ⟨_, rfl, .int i, .ty "int", _, _, true, rfl, .ty _, .base (.int i), kit_ty (by decide +kernel), true, rfl, iteT ?_⟩
    exact ⟨_, rfl, .int i, .ty "bool", _, _, false, rfl, .ty _, .base (.int i), kit_ty (by decide +kernel), false, rfl, q⟩
def sp_check_step : Sp := fun vs H Q _ => ∃ i l : Int, vs = [.int i, .int l] ∧ l ≤ i ∧ Q .non H
theorem ok_check_step {dvs : List V} {f f1 : Addr} {fd fd1 : FuncData} {k : Nat} (F : FunD K "check_step" "check_step" (defArgs s_check_step) (defBody s_check_step) (defScope s_check_step) dvs [] f fd) (D1 : Dn K mg "is_integer" s_is_integer ["value"] f1 fd1) (G1 : FnOk P w K mg base CX0 k f1 fd1 ["value"] sp_is_integer) :
    FnOk P w K mg base CX0 (k + 1) f fd ["candidate", "lowest"] sp_check_step := by
  refine F.ok sc_check_step (fun vs H Q E h => ?_) (fun cdv A outer s H vs Q E hr h => ?_)
  · obtain ⟨i, l, rfl, _⟩ := h
    rfl
  · obtain ⟨i, l, rfl, h0, q⟩ := h
    refine ⟨_, pss_one (ps_if (PW.pt (pw_or (pt_not (pt_val (pe_call G1 hr (by rfl) D1.g D1.kp D1.b .nil pass0 (pa_cons (pv 0) pa_nil)))) (pw_or1 (pt_cmpR op_lt (pv 0) (pv 1) (nomark _))))) (pss_one ps_never) pss_nil), ?_⟩
    refine ⟨_, rfl, i, rfl, true, rfl, iteF ⟨_, rfl, _, rfl, _, _, rfl, rfl, _, rfl, ?_⟩⟩
    rw [decide_eq_false (by omega)]
    exact iteF q
/-- from 0 on, each above the one before -/
def Asc (ns : List Int) : Prop := ns.Pairwise (· < ·) ∧ ∀ n ∈ ns, 0 ≤ n
def sp_check_steps (K : PySem.W.Frag) : Sp := fun vs H Q _ => ∃ (g : Addr) (ns : List Int), vs = [.ref g] ∧ H g = some (.lst (ns.map V.int)) ∧ Asc ns ∧ Q .non H
theorem asc_at {ns : List Int} (h : Asc ns) {i : Nat} (hi : i + 1 < ns.length) : ns[i] + 1 ≤ ns[i + 1] := by
  have := List.pairwise_iff_getElem.mp h.1 i (i + 1) (by omega) hi (Nat.lt_succ_self i)
  omega
theorem ok_check_steps {f f1 : Addr} {fd fd1 : FuncData} {k : Nat} (D : Dn K mg "check_steps" s_check_steps ["candidate"] f fd) (g1 : mg "check_step" = some (.ref f1)) (k1 : PySem.W.keepIn K (.ref f1) = true) (b1 : Binds K fd1 ["candidate", "lowest"] [])
    (G1 : FnOk P w K mg base CX0 k f1 fd1 ["candidate", "lowest"] sp_check_step) (m1 : mg "isinstance" = none) (m2 : mg "list" = none) : FnOk P w K mg base CX0 (k + 1) f fd ["candidate"] (sp_check_steps K) := by
  refine D.F.ok sc_check_steps (fun vs H Q E h => ?_) (fun cdv A outer s H vs Q E hr h => ?_)
  · obtain ⟨g, ns, rfl, _⟩ := h
    rfl
  · obtain ⟨g, ns, rfl, hS, asc, q⟩ := h
    have nd := sc_check_steps.nd
    refine ⟨_, pss_cons (ps_if (pt_not (pt_val (pe_callB call_isi (by rfl) m1 (by decide +kernel) (pa_cons (pv 0) (pa_cons (pe_ty (n := "list") (by rfl) m2 (by decide +kernel)) pa_nil))))) (pss_one ps_never) pss_nil)
      (pss_cons (ps_set (i := 1) nd rfl (.inl rfl) pe_int)
      (pss_one (ps_for PassesOwn.never rfl (pi_list (pv 0)) (pg_name (i := 2) nd rfl (.inl rfl))
        (pss_cons (ps_expr (pe_call G1 hr (by rfl) g1 k1 b1 .nil pass0 (pa_cons (pv 2) (pa_cons (pv 1) pa_nil))))
        (pss_one (ps_set (i := 1) nd rfl (.inl rfl) (pe_op op_add (pv 2) pe_int))))))), ?_⟩
    refine ⟨_, rfl, .ref g, .ty "list", _, _, true, rfl, .ty _, tyx_lst hS, kit_ty (by decide +kernel), true, rfl, iteF ?_⟩
    refine ⟨_, rfl, g, rfl, ⟨_, SqL.of hS⟩, for_list (K := K) (a := g) (xs := ns.map V.int) (fun i σ H' => H' = H ∧ ∃ (l : Int) (y : Option V), σ = [some (.ref g), some (.int l), y] ∧ ∀ hi : i < ns.length, l ≤ ns[i])
      ⟨rfl, 0, none, rfl, fun hi => asc.2 _ (List.getElem_mem hi)⟩ (fun i σ H' _ h => by rw [h.1]; exact SqL.of hS) ?_ ?_⟩
    · rintro i x σ H' hx ⟨rfl, l, y, rfl, hl⟩
      obtain ⟨hi, rfl⟩ := int_of hx
      refine ⟨_, rfl, _, rfl, ns[i], l, rfl, hl hi, _, rfl, _, _, rfl, rfl, rfl, _, _, rfl, fun hi2 => asc_at asc hi2⟩
    · rintro σ H' ⟨rfl, l, y, rfl, _⟩
      exact q
end
end Sp1

set_option Elab.async false
set_option linter.all false
set_option maxRecDepth 100000
set_option maxHeartbeats 4000000
namespace Sp1
open PySem PySem.Spec PyProof.Rows L2
section
variable {P : Program} {w : World} {K : PySem.W.Frag} {mg : Str → Option Value} {base : Heap}
def sp_stream (K : PySem.W.Frag) : Sp := fun vs H Q _ => ∃ (a : Addr) (ns : List Int) (k : Nat), vs = [.ref a, .int (k : Nat)] ∧ SqL K H a (ns.map V.int) ∧ k ≤ 1000 ∧ ∀ p H', Same H H' → H p = none → PoolAt H' p → Q (.ref p) H'
theorem ok_stream {f : Addr} {fd : FuncData} {k : Nat} (D : Dn K mg "_law_stream" s_l_stream ["_law_script", "_law_k"] f fd) (m1 : mg "len" = none) (m2 : mg "max" = none) (m3 : mg "int" = none) :
    FnOk P w K mg base CX0 (k + 1) f fd ["_law_script", "_law_k"] (sp_stream K) := by
  refine D.F.ok sc_l_stream (fun vs H Q E h => ?_) (fun cdv A outer s H vs Q E hr h => ?_)
  · obtain ⟨a, ns, k, rfl, _⟩ := h
    rfl
  · obtain ⟨a, ns, k, rfl, hS, hk, q⟩ := h
    have nd := sc_l_stream.nd
    refine ⟨_, pss_cons (ps_set (i := 2) nd rfl (.inl rfl) pe_int)
      (pss_cons (ps_if (pt_cmpR op_lt (pv 1) (pe_callB call_len_seq (by rfl) m1 PySem.boot_len (pa_cons (pv 0) pa_nil)) (nomark _)) (pss_one (ps_set (i := 2) nd rfl (.inl rfl) (pe_ix ix_list (pv 0) (pv 1) (fun _ _ => rfl)))) pss_nil)
      (pss_cons (ps_set (i := 3) nd rfl (.inl rfl) (pe_callB (call_max2 rfl) (by rfl) m2 (by decide +kernel) (pa_cons (pv 2) (pa_cons (pe_op op_sub (pe_un un_neg pe_int) (pv 2)) pa_nil))))
      (pss_cons (ps_set (i := 4) nd rfl (.inl rfl) (pe_op op_mod (pe_op op_mul (pe_op op_add (pe_op op_add (pe_op op_add (pe_op op_mod (pv 3) pe_int) (pe_op op_mul (pe_op op_mul pe_int (pv 1)) (pv 1))) (pe_op op_mul pe_int (pv 1))) pe_int) pe_int) pe_int))
      (pss_one (ps_ret (pe_lst (pa_cons (pe_op op_mul (pv 3) (pe_callTy call_int1 (by rfl) m3 (by decide +kernel) (pa_cons (pe_cmpR op_ge (pv 3) (pe_op op_pow pe_int pe_int) (nomark _)) pa_nil))) (pa_cons (pv 4) pa_nil)))))))), ?_⟩
    have tail : ∀ (z : Int) (H1 : Hp), 0 ≤ z → Same H H1 → ∀ m p, 0 ≤ m → m < 2147483647 → H1 p = none → Q (.ref p) (upd H1 p (.lst [.int (z * (if decide ((10 : Int) ^ (18 : Int).toNat ≤ z) = true then 1 else 0)), .int m])) := by
      intro z H1 h0 s1 m p m0 m1 np
      refine q p _ (s1.trans (same_new np)) (s1.free np) ⟨_, _, upd_same, ?_, m0, m1⟩
      split
      · omega
      · omega
    refine ⟨_, rfl, _, rfl, a, _, rfl, .inl hS, _, _, rfl, rfl, _, rfl, ite2 (fun e => ?_) fun e => ?_⟩
    · have hlt : k < ns.length := by
        have := of_decide_eq_true e
        rw [List.length_map] at this
        omega
      refine ⟨_, rfl, _, rfl, a, _, _, _, rfl, rfl, hS, atI_nat (j := k) (by rw [List.getElem?_map, List.getElem?_eq_getElem hlt]; rfl), ?_⟩
      generalize ns[k] = c
      have h0 : (0 : Int) ≤ if (- 1 : Int) - c > c then (- 1 : Int) - c else c := by split <;> omega
      refine ⟨_, rfl, _, rfl, _, rfl, _, _, rfl, rfl, c, - 1 - c, rfl, ?_⟩
      generalize (if (- 1 : Int) - c > c then (- 1 : Int) - c else c) = z at h0
      have b0 := Int.emod_nonneg z (show (2147483629 : Int) ≠ 0 by decide)
      have b1 := Int.emod_lt_of_pos z (show (0 : Int) < 2147483629 by decide)
      refine ⟨_, rfl, _, _, rfl, rfl, (by decide : (0 : Int) < 2147483629), _, rfl, _, _, rfl, rfl, .inl ⟨by decide, by decide⟩, _, rfl, _, _, rfl, rfl, .inr ⟨by omega, by omega⟩, _, _, rfl, rfl, ?_⟩
      refine ⟨_, rfl, _, _, rfl, rfl, .inl ⟨by decide, by decide⟩, _, _, rfl, rfl, _, _, rfl, rfl, _, _, rfl, rfl, .inr ⟨by decide, by decide⟩, _, _, rfl, rfl, (by decide : (0 : Int) < 2147483647), ?_⟩
      refine ⟨_, rfl, _, rfl, _, _, rfl, rfl, ⟨by decide, by decide, by decide⟩, _, _, rfl, rfl, .inr ⟨_, rfl, ?_⟩⟩
      refine ⟨_, _, rfl, rfl, .inr ?_, _, rfl, by show 2 ≤ sizeLine; decide, fun p np => tail z H h0 (Same.refl _) _ p (Int.emod_nonneg _ (by decide)) (Int.emod_lt_of_pos _ (by decide)) np⟩
      split <;> exact ⟨by decide, by decide⟩
    · have h0 : (0 : Int) ≤ if (- 1 : Int) - 0 > 0 then (- 1 : Int) - 0 else 0 := by split <;> omega
      refine ⟨_, rfl, _, rfl, _, rfl, _, _, rfl, rfl, 0, - 1 - 0, rfl, ?_⟩
      generalize (if (- 1 : Int) - 0 > 0 then (- 1 : Int) - 0 else 0) = z at h0
      have b0 := Int.emod_nonneg z (show (2147483629 : Int) ≠ 0 by decide)
      have b1 := Int.emod_lt_of_pos z (show (0 : Int) < 2147483629 by decide)
      refine ⟨_, rfl, _, _, rfl, rfl, (by decide : (0 : Int) < 2147483629), _, rfl, _, _, rfl, rfl, .inl ⟨by decide, by decide⟩, _, rfl, _, _, rfl, rfl, .inr ⟨by omega, by omega⟩, _, _, rfl, rfl, ?_⟩
      refine ⟨_, rfl, _, _, rfl, rfl, .inl ⟨by decide, by decide⟩, _, _, rfl, rfl, _, _, rfl, rfl, _, _, rfl, rfl, .inr ⟨by decide, by decide⟩, _, _, rfl, rfl, (by decide : (0 : Int) < 2147483647), ?_⟩
      refine ⟨_, rfl, _, rfl, _, _, rfl, rfl, ⟨by decide, by decide, by decide⟩, _, _, rfl, rfl, .inr ⟨_, rfl, ?_⟩⟩
      refine ⟨_, _, rfl, rfl, .inr ?_, _, rfl, by show 2 ≤ sizeLine; decide, fun p np => tail z H h0 (Same.refl _) _ p (Int.emod_nonneg _ (by decide)) (Int.emod_lt_of_pos _ (by decide)) np⟩
      split <;> exact ⟨by decide, by decide⟩
end
section
variable {P : Program} {w : World} {K : PySem.W.Frag} {mg : Str → Option Value} {base : Heap}
def sp_draw : Sp := fun vs H Q _ => ∃ (p : Addr) (c : Int), vs = [.ref p, .int c] ∧ PoolAt H p ∧ 0 < c ∧ c < 2 ^ 100 ∧ ∀ r H', 0 ≤ r → r < c → SX p H H' → PoolAt H' p → Q (.int r) H'
theorem ok_draw {f : Addr} {fd : FuncData} {k : Nat} (D : Dn K mg "_law_draw" s_l_draw ["_law_stream_here", "_law_count"] f fd) : FnOk P w K mg base CX0 (k + 1) f fd ["_law_stream_here", "_law_count"] sp_draw := by
  refine D.F.ok sc_l_draw (fun vs H Q E h => ?_) (fun cdv A outer s H vs Q E hr h => ?_)
  · obtain ⟨p, c, rfl, _⟩ := h
    rfl
  · obtain ⟨p, c, rfl, ⟨a, b, hp, ha, hb0, hb1⟩, hc, hc2, q⟩ := h
    have nd := sc_l_draw.nd
    have cdiv : ∀ i, CDivW i c := fun i => wide_div (b := 100) hc (by omega) (by decide) (by decide)
    have ix0 : ∀ {x y : V}, atI [x, y] 0 = some x := fun {x y} => atI_nat (j := 0) rfl
    have ix1 : ∀ {x y : V}, atI [x, y] 1 = some y := fun {x y} => atI_nat (j := 1) rfl
    refine ⟨_, pss_cons (ps_if (pt_cmpR op_gt (pe_ix ix_list (pv 0) pe_int (fun _ _ => rfl)) pe_int (nomark _))
        (pss_cons (ps_set (i := 2) nd rfl (.inl rfl) (pe_op op_mod (pe_ix ix_list (pv 0) pe_int (fun _ _ => rfl)) (pv 1)))
          (pss_cons (ps_asg (pe_op op_fdivW (pe_ix ix_list (pv 0) pe_int (fun _ _ => rfl)) (pv 1)) (pg_sub (pv 0) pe_int set_list)) (pss_one (ps_ret (pv 2))))) pss_nil)
      (pss_cons (ps_asg (pe_op op_mod (pe_op op_add (pe_op op_mul (pe_ix ix_list (pv 0) pe_int (fun _ _ => rfl)) pe_int) pe_int) pe_int) (pg_sub (pv 0) pe_int set_list))
      (pss_one (ps_ret (pe_op op_mod (pe_op op_fdiv (pe_op op_mod (pe_op op_mul (pe_ix ix_list (pv 0) pe_int (fun _ _ => rfl)) (pe_ix ix_list (pv 0) pe_int (fun _ _ => rfl))) pe_int) pe_int) (pv 1))))), ?_⟩
    refine ⟨_, rfl, p, _, _, _, rfl, rfl, SqL.of hp, ix0, _, _, rfl, rfl, _, rfl, ite2 (fun e => ?_) fun e => ?_⟩
    · have e0 : 0 < a := of_decide_eq_true e
      refine ⟨_, rfl, p, _, _, _, rfl, rfl, SqL.of hp, ix0, _, rfl, _, _, rfl, rfl, hc, ?_⟩
      refine ⟨_, rfl, p, _, _, _, rfl, rfl, SqL.of hp, ix0, _, rfl, _, _, rfl, rfl, cdiv _, ?_⟩
      refine ⟨_, rfl, p, _, _, 0, rfl, rfl, hp, rfl, ?_⟩
      refine ⟨_, rfl, q _ _ (Int.emod_nonneg _ (by omega)) (Int.emod_lt_of_pos _ hc) sx_put ⟨a / c, b, upd_same, Int.ediv_nonneg ha (by omega), hb0, hb1⟩⟩
    · refine ⟨_, rfl, p, _, _, _, rfl, rfl, SqL.of hp, ix1, _, _, rfl, rfl, .inl ⟨by omega, by omega⟩, _, _, rfl, rfl, _, _, rfl, rfl, (by decide : (0 : Int) < 2147483647), ?_⟩
      refine ⟨_, rfl, p, _, _, 1, rfl, rfl, hp, rfl, ?_⟩
      have h1 : (upd H p (.lst [.int a, .int ((b * 69621 + 7) % 2147483647)])) p = some (.lst [.int a, .int ((b * 69621 + 7) % 2147483647)]) := upd_same
      have c0 := Int.emod_nonneg (b * 69621 + 7) (show (2147483647 : Int) ≠ 0 by decide)
      have c1 := Int.emod_lt_of_pos (b * 69621 + 7) (show (0 : Int) < 2147483647 by decide)
      refine ⟨_, rfl, p, _, _, _, rfl, rfl, SqL.of h1, ix1, _, rfl, p, _, _, _, rfl, rfl, SqL.of h1, ix1, _, _, rfl, rfl, .inl ⟨by omega, by omega⟩, _, _, rfl, rfl, (by decide : (0 : Int) < 2147483629), _, _, rfl, rfl, ⟨by decide, by decide⟩, _, rfl, _, _, rfl, rfl, hc, ?_⟩
      exact q _ _ (Int.emod_nonneg _ (by omega)) (Int.emod_lt_of_pos _ hc) sx_put ⟨a, _, h1, ha, c0, c1⟩
/-! _law_choose: one of some ints -/
def sp_choose : Sp := fun vs H Q _ => ∃ (p g : Addr) (ns : List Int), vs = [.ref p, .ref g] ∧ PoolAt H p ∧ g ≠ p ∧ H g = some (.lst (ns.map V.int)) ∧ 0 < ns.length ∧ ns.length ≤ 1000 ∧ ∀ r H', r ∈ ns → SX p H H' → PoolAt H' p → Q (.int r) H'
theorem ok_choose {f f1 : Addr} {fd fd1 : FuncData} {k : Nat} (D : Dn K mg "_law_choose" s_l_choose ["_law_stream_here", "_law_some"] f fd) (D1 : Dn K mg "_law_draw" s_l_draw ["_law_stream_here", "_law_count"] f1 fd1)
    (G1 : FnOk P w K mg base CX0 k f1 fd1 ["_law_stream_here", "_law_count"] sp_draw) (m1 : mg "len" = none) : FnOk P w K mg base CX0 (k + 1) f fd ["_law_stream_here", "_law_some"] sp_choose := by
  refine D.F.ok sc_l_choose (fun vs H Q E h => ?_) (fun cdv A outer s H vs Q E hr h => ?_)
  · obtain ⟨p, g, ns, rfl, _⟩ := h
    rfl
  · obtain ⟨p, g, ns, rfl, hp, hgp, hg, h0, h1, q⟩ := h
    refine ⟨_, pss_one (ps_ret (pe_ix ix_list (pv 1) (pe_call G1 hr (by rfl) D1.g D1.kp D1.b .nil pass0 (pa_cons (pv 0) (pa_cons (pe_callB call_len_seq (by rfl) m1 PySem.boot_len (pa_cons (pv 1) pa_nil)) pa_nil))) (fun _ _ => rfl))), ?_⟩
    refine ⟨_, rfl, _, rfl, _, rfl, g, _, rfl, .inl (SqL.of hg), p, _, rfl, hp, ?_, ?_, fun r H' r0 r1 sx hp' => ?_⟩
    · rw [List.length_map]; omega
    · rw [List.length_map]; omega
    · rw [List.length_map] at r1
      obtain ⟨i, rfl⟩ : ∃ i : Nat, r = (i : Int) := ⟨r.toNat, by omega⟩
      have hi : i < ns.length := by omega
      exact ⟨g, _, _, _, rfl, rfl, SqL.of (sx _ _ hgp hg), atI_nat (int_at hi), q _ _ (List.getElem_mem hi) sx hp'⟩
end
end Sp1

set_option Elab.async false
set_option linter.all false
set_option maxRecDepth 100000
set_option maxHeartbeats 4000000
namespace Sp1
open PySem PySem.Spec PyProof.Rows L2 Kp
theorem small {n : Nat} (h : n ≤ 5000) : n ≤ sizeLine := by rw [sizeLine_eq]; omega
theorem gn {i : Nat} {v : V} {σ σ' : L2.St} {H : Hp} {Q : L2.St → Hp → Prop} (e : σ.set i (some v) = σ') (h : Q σ' H) : gName i v σ H Q := by
  subst e
  exact h
theorem tNextI {D : Ends} {σ : L2.St} {H : Hp} (h : D.nx σ H) : tNext D σ H := h
theorem cut_seg {xs : List V} {a b : Nat} (ha : a ≤ xs.length) (hb : b ≤ xs.length) : cutV xs (some (a : Int)) (some (b : Int)) = (xs.take b).drop a := by
  unfold cutV
  rw [HT.sIx_nat, HT.sIx_nat, Nat.min_eq_left ha, Nat.min_eq_left hb, List.drop_take]
/-- a comprehension that makes ints of ints -/
def AccI (H1 : Hp) (D : Addr) (us : List Int) (h : Int → Int) (i : Nat) (H : Hp) : Prop := Same H1 H ∧ H D = some (.lst (((us.take i).map h).map V.int))
theorem AccI.start {H1 : Hp} {D : Addr} {us : List Int} {h : Int → Int} (nD : H1 D = none) : AccI H1 D us h 0 (upd H1 D (.lst [])) := ⟨same_new nD, by rw [List.take_zero]; exact upd_same⟩
theorem AccI.turn {H1 H H4 : Hp} {D : Addr} {us : List Int} {h : Int → Int} {i : Nat} {y : V} (a : AccI H1 D us h i H) (nD : H1 D = none) (s : Same H H4) (hi : i < us.length) (hl : us.length ≤ 1000) (hy : y = .int (h us[i])) :
    ∃ acc, H4 D = some (.lst acc) ∧ acc.length < sizeLine ∧ AccI H1 D us h (i + 1) (upd H4 D (.lst (acc ++ [y]))) := by
  refine ⟨_, s _ _ a.2, ?_, same_at nD (a.1.trans s), ?_⟩
  · rw [List.length_map, List.length_map, List.length_take]
    exact small1000 (by omega)
  · have e : us.take (i + 1) = us.take i ++ [us[i]] := by
      rw [List.take_add_one, List.getElem?_eq_getElem hi]
      rfl
    rw [upd_same, hy, e, List.map_append, List.map_append]
    rfl
theorem AccI.done {H1 H : Hp} {D : Addr} {us : List Int} {h : Int → Int} (a : AccI H1 D us h (us.map V.int).length H) : Same H1 H ∧ H D = some (.lst ((us.map h).map V.int)) := by
  have := a.2
  rw [List.length_map, List.take_length] at this
  exact ⟨a.1, this⟩
theorem map_seg (us : List Int) (a b : Nat) : ((us.map V.int).take b).drop a = ((us.take b).drop a).map V.int := by
  rw [← List.map_take, ← List.map_drop]
theorem at_v {qs : List Int} {a : Nat} (h : a < qs.length) : atI (qs.map V.int) (a : Int) = some (.int (at_ qs a)) := by
  rw [at_get h]
  exact atI_nat (int_at h)
section
variable {P : Program} {w : World} {K : PySem.W.Frag} {mg : Str → Option Value} {base : Heap}
def sp_btw (K : PySem.W.Frag) : Sp := fun vs H Q _ => ∃ (g : Addr) (qs : List Int) (a b : Nat), vs = [.ref g, .int (a : Int), .int (b : Int)] ∧ H g = some (.lst (qs.map V.int)) ∧ qs.length ≤ 60 ∧ a < qs.length ∧ b < qs.length ∧ ∀ H', Same H H' → Q (.int (btw qs a b)) H'
theorem ok_cost_between (T : KpF K mg) : FnOk P w K mg base CX0 1 T.f_cost_between T.fd_cost_between ["queries", "one", "other"] (sp_btw K) := by
  refine T.D_cost_between.F.ok sc_cost_between (fun vs H Q E h => ?_) (fun cdv A outer s H vs Q E hr h => ?_)
  · obtain ⟨g, qs, a, b, rfl, _⟩ := h
    rfl
  · obtain ⟨g, qs, a, b, rfl, hg, hl, ha, hb, q⟩ := h
    have nd := sc_cost_between.nd
    refine ⟨_, (pss_cons (ps_asg (pe_tup (pa_cons (pe_ix (r := rIxL K) ix_list (pv 0) (pv 1) (fun _ _ => rfl)) (pa_cons (pe_ix (r := rIxL K) ix_list (pv 0) (pv 2) (fun _ _ => rfl)) pa_nil))) (pg_tup rfl (pgs_cons (pg_name (i := 3) nd rfl (.inr rfl)) (pgs_cons (pg_name (i := 4) nd rfl (.inr rfl)) pgs_nil))))
      (pss_one (ps_ret (pe_callB (cr_sum rfl) (by rfl) T.m_sum (by decide +kernel) (pa_cons (pe_lc (own := [("query", 5)]) (g := (gName 5)) (tt := tYes) rfl nd (pi_list (pe_slice sl_list (pv 0) (po_some (pv 1)) (po_some (pv 2)))) (blkOk_by (N := N_cost_between) (sc := defScope s_cost_between) (by decide +kernel)) (fun _ _ _ _ _ => (pg_name (i := 5) nd rfl (.inl rfl))) (fun _ _ _ _ _ => pts_nil) (fun _ _ _ _ _ => (pe_callB (call_min2 rfl) (by rfl) T.m_min (by decide +kernel) (pa_cons (pe_op op_sub (pv 5) (pv 3)) (pa_cons (pe_op op_sub (pv 4) (pv 5)) pa_nil))))) pa_nil))))), ?_⟩
    refine ⟨_, rfl, _, rfl, g, _, _, _, rfl, rfl, SqL.of hg, at_v ha, _, rfl, _, rfl, g, _, _, _, rfl, rfl, SqL.of hg, at_v hb, small (by show 2 ≤ 5000; decide), fun t nt => ?_⟩
    have s1 := same_new (o := HO.tup [.int (at_ qs a), .int (at_ qs b)]) nt
    have ht : (upd H t (HO.tup [.int (at_ qs a), .int (at_ qs b)])) t = some (HO.tup [.int (at_ qs a), .int (at_ qs b)]) := upd_same
    generalize upd H t (HO.tup [.int (at_ qs a), .int (at_ qs b)]) = H1 at s1 ht ⊢
    refine ⟨t, _, rfl, SqT.of ht, rfl, _, _, rfl, _, _, rfl, rfl, ?_⟩
    dsimp only [List.set]
    refine ⟨_, rfl, _, rfl, _, rfl, _, rfl, _, rfl, g, _, rfl, SqL.of (s1 _ _ hg), fun l nl => ?_⟩
    rw [cut_seg (by rw [List.length_map]; omega) (by rw [List.length_map]; omega), map_seg]
    have hsl : ((qs.take b).drop a).length ≤ 1000 := by
      rw [List.length_drop, List.length_take]
      omega
    have hbt : btw qs a b = (((qs.take b).drop a).map fun x => min (x - at_ qs a) (at_ qs b - x)).sum := rfl
    generalize (qs.take b).drop a = us at hsl hbt ⊢
    have s2 := same_new (o := HO.lst (us.map V.int)) nl
    have hl2 : (upd H1 l (HO.lst (us.map V.int))) l = some (HO.lst (us.map V.int)) := upd_same
    generalize upd H1 l (HO.lst (us.map V.int)) = H2 at s2 hl2 ⊢
    refine ⟨l, rfl, ⟨_, SqL.of hl2⟩, fun D nD => ?_⟩
    refine lc_it (walk_list (K := K) (a := l) (xs := us.map V.int)) (AccI H2 D us fun x => min (x - at_ qs a) (at_ qs b - x)) (AccI.start nD) (fun i H' _ h => Same.seq h.1 (SqL.of hl2)) ?_ ?_
    · rintro i x H3 H4 hi ac ⟨rfl, hx⟩
      obtain ⟨hi, rfl⟩ := int_of hx
      refine ⟨rfl, ?_⟩
      dsimp only [tYes]
      refine iteT ?_
      refine ⟨_, rfl, _, rfl, _, _, rfl, rfl, _, rfl, _, rfl, _, _, rfl, rfl, _, _, rfl, ac.turn nD (Same.refl _) hi hsl ?_⟩
      congr 1
      split <;> omega
    · intro H3 ac
      obtain ⟨s3, hD⟩ := ac.done
      refine ⟨D, _, rfl, SqL.of hD, ?_⟩
      rw [← hbt]
      exact q _ (s1.trans (s2.trans s3))
def sp_bef (K : PySem.W.Frag) : Sp := fun vs H Q _ => ∃ (g : Addr) (qs : List Int) (a : Nat), vs = [.ref g, .int (a : Int)] ∧ H g = some (.lst (qs.map V.int)) ∧ qs.length ≤ 60 ∧ a < qs.length ∧ ∀ H', Same H H' → Q (.int (bef qs a)) H'
theorem ok_cost_before (T : KpF K mg) : FnOk P w K mg base CX0 1 T.f_cost_before T.fd_cost_before ["queries", "at"] (sp_bef K) := by
  refine T.D_cost_before.F.ok sc_cost_before (fun vs H Q E h => ?_) (fun cdv A outer s H vs Q E hr h => ?_)
  · obtain ⟨g, qs, a, rfl, _⟩ := h
    rfl
  · obtain ⟨g, qs, a, rfl, hg, hl, ha, q⟩ := h
    have nd := sc_cost_before.nd
    refine ⟨_, (pss_one (ps_ret (pe_callB (cr_sum rfl) (by rfl) T.m_sum (by decide +kernel) (pa_cons (pe_lc (own := [("query", 2)]) (g := (gName 2)) (tt := tYes) rfl nd (pi_list (pe_slice sl_list (pv 0) po_none (po_some (pv 1)))) (blkOk_by (N := N_cost_before) (sc := defScope s_cost_before) (by decide +kernel)) (fun _ _ _ _ _ => (pg_name (i := 2) nd rfl (.inl rfl))) (fun _ _ _ _ _ => pts_nil) (fun _ _ _ _ _ => (pe_op op_sub (pe_ix (r := rIxL K) ix_list (pv 0) (pv 1) (fun _ _ => rfl)) (pv 2)))) pa_nil)))), ?_⟩
    refine ⟨_, rfl, ?_⟩
    dsimp only [tNoPart]
    refine ⟨_, rfl, _, rfl, g, _, rfl, SqL.of hg, fun l nl => ?_⟩
    rw [cut_to, ← List.map_take]
    have hsl : (qs.take a).length ≤ 1000 := by
      rw [List.length_take]
      omega
    have hbt : bef qs a = ((qs.take a).map fun x => at_ qs a - x).sum := rfl
    generalize qs.take a = us at hsl hbt ⊢
    have s2 := same_new (o := HO.lst (us.map V.int)) nl
    have hl2 : (upd H l (HO.lst (us.map V.int))) l = some (HO.lst (us.map V.int)) := upd_same
    generalize upd H l (HO.lst (us.map V.int)) = H2 at s2 hl2 ⊢
    refine ⟨l, rfl, ⟨_, SqL.of hl2⟩, fun D nD => ?_⟩
    refine lc_it (walk_list (K := K) (a := l) (xs := us.map V.int)) (AccI H2 D us fun x => at_ qs a - x) (AccI.start nD) (fun i H' _ h => Same.seq h.1 (SqL.of hl2)) ?_ ?_
    · rintro i x H3 H4 hi ac ⟨rfl, hx⟩
      obtain ⟨hi, rfl⟩ := int_of hx
      refine ⟨rfl, ?_⟩
      dsimp only [tYes]
      refine iteT ?_
      refine ⟨_, rfl, _, rfl, g, _, _, _, rfl, rfl, SqL.of (ac.1 _ _ (s2 _ _ hg)), at_v ha, _, rfl, _, _, rfl, rfl, ac.turn nD (Same.refl _) hi hsl rfl⟩
    · intro H3 ac
      obtain ⟨s3, hD⟩ := ac.done
      refine ⟨D, _, rfl, SqL.of hD, ?_⟩
      rw [← hbt]
      exact q _ (s2.trans s3)
theorem ok_cost_behind (T : KpF K mg) : FnOk P w K mg base CX0 1 T.f_cost_behind T.fd_cost_behind ["queries", "at"] fun vs H Q _ => ∃ (g : Addr) (qs : List Int) (a : Nat), vs = [.ref g, .int (a : Int)] ∧ H g = some (.lst (qs.map V.int)) ∧ qs.length ≤ 60 ∧ a < qs.length ∧ ∀ H', Same H H' → Q (.int (beh qs a)) H' := by
  refine T.D_cost_behind.F.ok sc_cost_behind (fun vs H Q E h => ?_) (fun cdv A outer s H vs Q E hr h => ?_)
  · obtain ⟨g, qs, a, rfl, _⟩ := h
    rfl
  · obtain ⟨g, qs, a, rfl, hg, hl, ha, q⟩ := h
    have nd := sc_cost_behind.nd
    refine ⟨_, (pss_one (ps_ret (pe_callB (cr_sum rfl) (by rfl) T.m_sum (by decide +kernel) (pa_cons (pe_lc (own := [("query", 2)]) (g := (gName 2)) (tt := tYes) rfl nd (pi_list (pe_slice sl_list (pv 0) (po_some (pv 1)) po_none)) (blkOk_by (N := N_cost_behind) (sc := defScope s_cost_behind) (by decide +kernel)) (fun _ _ _ _ _ => (pg_name (i := 2) nd rfl (.inl rfl))) (fun _ _ _ _ _ => pts_nil) (fun _ _ _ _ _ => (pe_op op_sub (pv 2) (pe_ix (r := rIxL K) ix_list (pv 0) (pv 1) (fun _ _ => rfl))))) pa_nil)))), ?_⟩
    refine ⟨_, rfl, _, rfl, _, rfl, ?_⟩
    dsimp only [tNoPart]
    refine ⟨g, _, rfl, SqL.of hg, fun l nl => ?_⟩
    rw [cut_from, ← List.map_drop]
    have hsl : (qs.drop a).length ≤ 1000 := by
      rw [List.length_drop]
      omega
    have hbt : beh qs a = ((qs.drop a).map fun x => x - at_ qs a).sum := rfl
    generalize qs.drop a = us at hsl hbt ⊢
    have s2 := same_new (o := HO.lst (us.map V.int)) nl
    have hl2 : (upd H l (HO.lst (us.map V.int))) l = some (HO.lst (us.map V.int)) := upd_same
    generalize upd H l (HO.lst (us.map V.int)) = H2 at s2 hl2 ⊢
    refine ⟨l, rfl, ⟨_, SqL.of hl2⟩, fun D nD => ?_⟩
    refine lc_it (walk_list (K := K) (a := l) (xs := us.map V.int)) (AccI H2 D us fun x => x - at_ qs a) (AccI.start nD) (fun i H' _ h => Same.seq h.1 (SqL.of hl2)) ?_ ?_
    · rintro i x H3 H4 hi ac ⟨rfl, hx⟩
      obtain ⟨hi, rfl⟩ := int_of hx
      refine ⟨rfl, ?_⟩
      dsimp only [tYes]
      refine iteT ?_
      refine ⟨_, rfl, _, rfl, _, rfl, g, _, _, _, rfl, rfl, SqL.of (ac.1 _ _ (s2 _ _ hg)), at_v ha, _, _, rfl, rfl, ac.turn nD (Same.refl _) hi hsl rfl⟩
    · intro H3 ac
      obtain ⟨s3, hD⟩ := ac.done
      refine ⟨D, _, rfl, SqL.of hD, ?_⟩
      rw [← hbt]
      exact q _ (s2.trans s3)
end
end Sp1

set_option Elab.async false
set_option linter.all false
set_option maxRecDepth 100000
set_option maxHeartbeats 4000000
/-! pairs of a number and a list of numbers: min of a list of them; x < y of alike data -/
namespace Sp1
open PySem PySem.Spec PyProof.Rows L2
/-- (c, [..]) stands there -/
def PrAt (H : Hp) (a : Addr) (p : Int × List Int) : Prop := ∃ l, H a = some (.tup [.int p.1, .ref l]) ∧ H l = some (.lst (p.2.map V.int))
theorem PrAt.same {H H' : Hp} {a : Addr} {p : Int × List Int} (h : PrAt H a p) (s : Same H H') : PrAt H' a p := by
  obtain ⟨l, h1, h2⟩ := h
  exact ⟨l, s _ _ h1, s _ _ h2⟩
theorem PrAt.dp {K : PySem.W.Frag} {H : Hp} {a : Addr} {p : Int × List Int} (h : PrAt H a p) : Dp K H (.ref a) (PySem.W.Datum.toD p) := by
  obtain ⟨l, h1, h2⟩ := h
  exact .tup (SqT.of h1) (.cons (.int _) (.cons (.lst (SqL.of h2) (dpAll_ints' _)) .nil))
theorem dpAll_prs {K : PySem.W.Frag} {H : Hp} : ∀ {as : List Addr} {ps : List (Int × List Int)}, as.length = ps.length → (∀ (i : Nat) (a : Addr) (p : Int × List Int), as[i]? = some a → ps[i]? = some p → PrAt H a p) → DpAll K H (as.map V.ref) (ps.map PySem.W.Datum.toD)
  | [], [], _, _ => .nil
  | [], _ :: _, h, _ => by cases h
  | _ :: _, [], h, _ => by cases h
  | a :: as, p :: ps, h, f => .cons (f 0 a p rfl rfl).dp (dpAll_prs (by simpa using h) fun i b q e1 e2 => f (i + 1) b q e1 e2)
theorem toD_inj {α : Type} [DecidableEq α] [PySem.W.Datum α] {a b : α} (h : PySem.W.Datum.toD a = PySem.W.Datum.toD b) : a = b := by
  have h1 := PySem.W.Datum.eqv a b
  have h2 := PySem.W.Datum.eqv b b
  rw [h, h2] at h1
  have : decide (a = b) = true := by rw [← h1]; exact decide_eq_true rfl
  exact of_decide_eq_true this
section
variable {X : Cx}
/-- min(l) of a list of pairs (c, [..]): the first of the least -/
def rMinP (K : PySem.W.Frag) : List V → Hp → VK → Prop := fun xs H Q => ∃ (L : Addr) (as : List Addr) (x : Int × List Int) (r : List (Int × List Int)), xs = [V.ref L] ∧ SqL K H L (as.map V.ref) ∧ as.length = (x :: r).length ∧
  (∀ (i : Nat) (a : Addr) (p : Int × List Int), as[i]? = some a → (x :: r)[i]? = some p → PrAt H a p) ∧ ∀ a, PrAt H a (PySem.W.minOf x r) → Q (.ref a) H
theorem cr_minP (hc : X.calm = true) (hu : X.A.units + 64 < cLine) : CallR X (.builtin "min") (rMinP X.K) := by
  intro pins s σ H xs us Q I r h
  obtain ⟨L, as, x, rr, rfl, hL, hl, hp, q⟩ := h
  rw [Vals.ref1 r]
  obtain ⟨its, rv, pl, _⟩ := I.list hL
  obtain ⟨bs, rd⟩ := Dp.readsAll I _ _ its (dpAll_prs (K := X.K) hl hp) rv
  refine PySem.W.min_list_datum (α := Int × List Int) (x := x) (xs := rr) (I.ok.hd hc) pl.isList ⟨bs, rd⟩ ?_ fun i v h' tk hi ho k => ?_
  · have : PySem.W.Datum.depth (Int × List Int) ≤ 10 := by decide
    omega
  · have hlen := rv.length
    rw [List.length_map] at hlen
    have hi' : its[i]? = some v := by simpa using hi
    have hlt : i < its.length := (List.getElem?_eq_some_iff.mp hi').1
    obtain ⟨p, hpi, hv⟩ := PySem.W.HoldAll.at (α := Int × List Int) ⟨bs, rd⟩ hi'
    have ha : as[i]? = some (as[i]'(by omega)) := List.getElem?_eq_getElem _
    obtain ⟨v', hv', hrel⟩ := Vals.get (i := i) (x := V.ref (as[i]'(by omega))) rv (by rw [List.getElem?_map, ha]; rfl)
    rw [hi'] at hv'
    cases hv'
    obtain ⟨cs, h2⟩ := ho
    obtain ⟨ds, h3⟩ := hv.keeps k
    have e := toD_inj (reads_det (fun _ _ z _ => z) h2 h3).1
    refine ⟨.ref (as[i]'(by omega)), H, I.kept k, hrel, q _ ?_⟩
    rw [← e]
    exact hp i _ p ha hpi
/-- x < y of alike data -/
def rLtD (K : PySem.W.Frag) : R2 := fun x y H Q => ∃ d e, Dp K H x d ∧ Dp K H y e ∧ PySem.W.alike d e = true ∧ d ≠ .none ∧ d.depth ≤ 60 ∧ Q (.bl (PySem.W.dataLt d e)) H
theorem op_ltD (hu : X.A.units + 64 < cLine) : OpR X (compareOp .Lt) (rLtD X.K) := by
  intro pins s σ H x y v u Q I rx ry h
  obtain ⟨d, e, hd, he, al, nn, dp, q⟩ := h
  obtain ⟨as, r1⟩ := Dp.reads I d x v hd rx
  obtain ⟨bs, r2⟩ := Dp.reads I e y u he ry
  exact PySem.W.lt_data r1 r2 al nn (by omega) ⟨.bl _, H, I, rfl, q⟩
end
end Sp1

set_option Elab.async false
set_option linter.all false
set_option maxRecDepth 100000
set_option maxHeartbeats 4000000
namespace Sp1
open PySem PySem.Spec PyProof.Rows L2 Kp
/-- the costs between all places -/
def BtwAt (H : Hp) (b : Addr) (qs : List Int) : Prop := ∃ rows : List Addr, H b = some (.lst (rows.map V.ref)) ∧ rows.length = qs.length ∧ ∀ (i : Nat) (a : Addr), rows[i]? = some a → H a = some (.lst ((List.range qs.length).map fun j => V.int (btw qs i j)))
theorem BtwAt.same {H H' : Hp} {b : Addr} {qs : List Int} (h : BtwAt H b qs) (s : Same H H') : BtwAt H' b qs := by
  obtain ⟨rows, h1, h2, h3⟩ := h
  exact ⟨rows, s _ _ h1, h2, fun i a e => s _ _ (h3 i a e)⟩
/-- the dict of plans for the places from m on, n of them -/
def kvP (ad : Nat → Addr) (m n : Nat) : List (Key × V) := (List.range' m n).map fun (j : Nat) => (Sum.inl (j : Int), V.ref (ad j))
structure PlAt (H : Hp) (d : Addr) (m n : Nat) (f : Nat → Pr) (ad : Nat → Addr) : Prop where
  at_ : H d = some (.dK (kvP ad m n))
  pr : ∀ j, m ≤ j → j < m + n → PrAt H (ad j) (f j)
theorem val_map {F : Nat → V} {i : Nat} : ∀ {l : List Nat}, valV (l.map fun (j : Nat) => ((Sum.inl (j : Int) : Key), F j)) (Sum.inl (i : Int)) = if i ∈ l then some (F i) else none
  | [] => rfl
  | j :: l => by
    have ih := val_map (F := F) (i := i) (l := l)
    unfold valV at ih ⊢
    rw [List.map_cons, List.find?_cons]
    by_cases e : j = i
    · subst e
      simp
    · have e1 : ((Sum.inl (j : Int) : Key) = Sum.inl (i : Int)) = False := by
        simp
        omega
      simp only [e1, decide_false]
      rw [ih]
      have e2 : (i ∈ j :: l) ↔ i ∈ l := by
        rw [List.mem_cons]
        exact ⟨fun h => h.elim (fun z => absurd z.symm e) id, .inr⟩
      by_cases q : i ∈ l
      · rw [if_pos q, if_pos (e2.mpr q)]
      · rw [if_neg q, if_neg (fun z => q (e2.mp z))]
theorem kvP_val {ad : Nat → Addr} {m n i : Nat} : valV (kvP ad m n) (Sum.inl (i : Int)) = if m ≤ i ∧ i < m + n then some (.ref (ad i)) else none := by
  unfold kvP
  rw [val_map (F := fun j => V.ref (ad j))]
  by_cases h : m ≤ i ∧ i < m + n
  · rw [if_pos h, if_pos (List.mem_range'_1.mpr h)]
  · rw [if_neg h, if_neg fun z => h (List.mem_range'_1.mp z)]
/-- one more kept step -/
def stepF (qs : List Int) (f : Nat → Pr) (m i : Nat) : Pr := match others qs f m i with
  | [] => (0, [])
  | x :: r => ((PySem.W.minOf x r).1, (PySem.W.minOf x r).2 ++ [at_ qs i])
section
variable {P : Program} {w : World} {K : PySem.W.Frag} {mg : Str → Option Value} {base : Heap}
def sp_more (K : PySem.W.Frag) : Sp := fun vs H Q _ => ∃ (g b d : Addr) (qs : List Int) (f : Nat → Pr) (ad : Nat → Addr) (m : Nat), vs = [.ref g, .ref b, .ref d] ∧ H g = some (.lst (qs.map V.int)) ∧ qs.length ≤ 60 ∧ BtwAt H b qs ∧ PlAt H d m (qs.length - m) f ad ∧ m < qs.length ∧ (∀ j, m ≤ j → j < qs.length → (f j).2.length ≤ 60) ∧
  ∀ H' d' ad', Same H H' → PlAt H' d' (m + 1) (qs.length - (m + 1)) (stepF qs f m) ad' → Q (.ref d') H'
theorem ok_with_one_more (T : KpF K mg) : FnOk P w K mg base CX0 1 T.f_with_one_more T.fd_with_one_more ["queries", "between", "plans"] (sp_more K) := by
  refine T.D_with_one_more.F.ok sc_with_one_more (fun vs H Q E h => ?_) (fun cdv A outer s H vs Q E hr h => ?_)
  · obtain ⟨g, b, d, qs, f, ad, m, rfl, _⟩ := h
    rfl
  · obtain ⟨g, b, d, qs, f, ad, m, rfl, hg, hl, hb, hp, hm, hfl, q⟩ := h
    have nd := sc_with_one_more.nd
    refine ⟨_, (pss_cons (ps_set (i := 3) nd rfl (.inl rfl) pe_dnewK)
      (pss_cons (ps_for PassesOwn.never rfl (pi_range2 (by rfl) T.m_range (pa_cons pe_int (pa_cons (pe_callB call_len_seq (by rfl) T.m_len PySem.boot_len (pa_cons (pv 0) pa_nil)) pa_nil))) (pg_name (i := 4) nd rfl (.inr rfl))
      (pss_cons (ps_setLc (i := 5) (own := [("last", 8)]) (g := (gName 8)) rfl nd rfl rfl (sw_true rfl rfl rfl (by decide +kernel)) (pi_range1 (by rfl) T.m_range (pa_cons (pv 4) pa_nil)) (blkOk_by (N := N_with_one_more) (sc := defScope s_with_one_more) (by decide +kernel)) (fun _ _ _ _ _ => (pg_name (i := 8) nd rfl (.inl rfl))) (fun _ _ _ _ _ => (pts_one (pt_cmp (pc_din (hu_of hr) (pv 8) (pv 2))))) (fun _ _ _ _ _ => (pe_tup (pa_cons (pe_op op_add (pe_ix (r := rIxT K) ix_tup (pe_dget (hu_of hr) (pv 2) (pv 8) (fun _ _ => rfl)) pe_int (fun _ _ => rfl)) (pe_ix (r := rIxL K) ix_list (pe_ix (r := rIxL K) ix_list (pv 1) (pv 8) (fun _ _ => rfl)) (pv 4) (fun _ _ => rfl))) (pa_cons (pe_ix (r := rIxT K) ix_tup (pe_dget (hu_of hr) (pv 2) (pv 8) (fun _ _ => rfl)) pe_int (fun _ _ => rfl)) pa_nil)))))
        (pss_one (ps_if (pt_truth (pv 5) (by intro _; rfl))
        (pss_cons (ps_asg (pe_callB (cr_minP rfl hr.units) (by rfl) T.m_min (by decide +kernel) (pa_cons (pv 5) pa_nil)) (pg_tup rfl (pgs_cons (pg_name (i := 6) nd rfl (.inl rfl)) (pgs_cons (pg_name (i := 7) nd rfl (.inl rfl)) pgs_nil))))
          (pss_one (ps_dput (hu_of hr) (pv 3) (pv 4) (pe_tup (pa_cons (pv 6) (pa_cons (pe_lst (StX.pa_star (pv 7) (pa_cons (pe_ix (r := rIxL K) ix_list (pv 0) (pv 4) (fun _ _ => rfl)) pa_nil))) pa_nil))) rfl)))
        pss_nil))))
      (pss_one (ps_ret (pv 3))))), ?_⟩
    refine fun d' nd' => ?_
    have s1 := same_new (o := .dK []) nd'
    have hd1 : (upd H d' (.dK [])) d' = some (.dK []) := upd_same
    generalize upd H d' (.dK []) = H1 at s1 hd1 ⊢
    refine gn (σ' := [some (.ref g), some (.ref b), some (.ref d), some (.ref d'), none, none, none, none, none]) rfl ?_
    have hb1 := hb.same s1
    have hg1 := s1 _ _ hg
    have hp1 : PlAt H1 d m (qs.length - m) f ad := ⟨s1 _ _ hp.at_, fun j h1 h2 => (hp.pr j h1 h2).same s1⟩
    refine ⟨_, rfl, g, _, rfl, .inl (SqL.of hg1), ?_⟩
    refine ⟨1, (qs.length : Int), by rw [List.length_map], by omega, ?_⟩
    refine for_range (lo := 1) (n := ((qs.length : Int) - 1).toNat) (fun i σ H' => (∀ c o, c ≠ d' → H1 c = some o → H' c = some o) ∧ (∃ ad', H' d' = some (.dK (kvP ad' (m + 1) (i - m))) ∧ ∀ j, m + 1 ≤ j → j < m + 1 + (i - m) → PrAt H' (ad' j) (stepF qs f m j)) ∧ ∃ (y4 y5 y6 y7 y8 : Option V), σ = [some (.ref g), some (.ref b), some (.ref d), some (.ref d'), y4, y5, y6, y7, y8])
      ⟨(fun c o _ e => e), ⟨ad, by rw [Nat.zero_sub]; exact hd1, fun j h1 h2 => by omega⟩, _, _, _, _, _, rfl⟩ ?_ ?_
    · rintro i σ H2 hi ⟨k2, ⟨ad', hd2, hpr⟩, y4, y5, y6, y7, y8, rfl⟩
      have hi : i < qs.length - 1 := by omega
      have e1 : (1 : Int) + (i : Int) = ((i + 1 : Nat) : Int) := by omega
      rw [e1]
      have ne : ∀ {c : Addr} {o : HO}, H1 c = some o → (∀ kvs, o ≠ .dK kvs) → c ≠ d' := fun h1 h2 e => by
        rw [e, hd1] at h1
        cases h1
        exact h2 _ rfl
      have hg2 : H2 g = some (.lst (qs.map V.int)) := k2 _ _ (ne hg1 fun _ z => by cases z) hg1
      have dd' : d ≠ d' := fun e => by
        have := hp.at_
        rw [e, nd'] at this
        cases this
      have hb2 : BtwAt H2 b qs := by
        obtain ⟨rows, q1, q2, q3⟩ := hb1
        exact ⟨rows, k2 _ _ (ne q1 fun _ z => by cases z) q1, q2, fun i a e => k2 _ _ (ne (q3 i a e) fun _ z => by cases z) (q3 i a e)⟩
      have hp2 : PlAt H2 d m (qs.length - m) f ad := ⟨k2 _ _ dd' hp1.at_, fun j h1 h2 => by
        obtain ⟨l, q1, q2⟩ := hp1.pr j h1 h2
        exact ⟨l, k2 _ _ (ne q1 fun _ z => by cases z) q1, k2 _ _ (ne q2 fun _ z => by cases z) q2⟩⟩
      refine gn (σ' := [some (.ref g), some (.ref b), some (.ref d), some (.ref d'), some (.int ((i + 1 : Nat) : Int)), y5, y6, y7, y8]) rfl ?_
      refine ⟨_, rfl, ((i + 1 : Nat) : Int), rfl, by omega, by omega, fun D nD => ?_⟩
      have Dne : D ≠ d' := (ne_of_none hd2 nD).symm
      refine lc_range (lo := 0) (n := (((i + 1 : Nat) : Int)).toNat) (fun j H' => Same H2 H' ∧ ∃ ads : List Addr, H' D = some (.lst (ads.map V.ref)) ∧ ads.length = j - m ∧ ∀ (k : Nat) (a : Addr), ads[k]? = some a → ∃ l, H' a = some (.tup [.int ((f (m + k)).1 + btw qs (m + k) (i + 1)), .ref l]) ∧ H2 l = some (.lst ((f (m + k)).2.map V.int)))
        ⟨same_new nD, [], upd_same, (Nat.zero_sub m).symm, (fun k a e => by cases e)⟩ ?_ ?_
      · rintro j H3 hj ⟨s3, ads, hD3, hal, hapr⟩
        have hj : j < i + 1 := hj
        rw [Int.zero_add]
        refine ⟨rfl, ?_⟩
        refine ⟨_, rfl, _, rfl, d, _, rfl, DGet.k (k := Sum.inl (j : Int)) (s3 _ _ hp2.at_), _, rfl, ?_⟩
        rw [kvP_val]
        by_cases hmj : m ≤ j
        · have hin : m ≤ j ∧ j < m + (qs.length - m) := ⟨hmj, by omega⟩
          rw [if_pos hin]
          refine iteT ?_
          obtain ⟨l, h1, h2⟩ := hp2.pr j hmj (by omega)
          have h1 := s3 _ _ h1
          obtain ⟨rows, q1, q2, q3⟩ := hb2.same s3
          have hrow : rows[j]? = some (rows[j]'(by omega)) := List.getElem?_eq_getElem _
          have get : DGet H3 d (.int (j : Int)) (some (.ref (ad j))) := by
            have := DGet.k (H := H3) (a := d) (k := Sum.inl (j : Int)) (s3 _ _ hp2.at_)
            rw [kvP_val, if_pos hin] at this
            exact this
          refine ⟨_, rfl, _, rfl, d, _, rfl, get, ad j, _, 0, _, rfl, rfl, SqT.of h1, atI_nat (j := 0) rfl, ?_⟩
          refine ⟨_, rfl, _, rfl, b, _, _, _, rfl, rfl, SqL.of q1, atI_nat (j := j) (by rw [List.getElem?_map, hrow]; rfl), _, rfl, _, _, _, _, rfl, rfl, SqL.of (q3 j _ hrow), atI_nat (j := i + 1) (by rw [List.getElem?_map, List.getElem?_range (by omega)]; rfl), _, _, rfl, rfl, ?_⟩
          refine ⟨_, rfl, _, rfl, d, _, rfl, get, ad j, _, 1, _, rfl, rfl, SqT.of h1, atI_nat (j := 1) rfl, small (by show 2 ≤ 5000; decide), fun t nt => ?_⟩
          have s4 := same_new (o := HO.tup [.int ((f j).1 + btw qs j (i + 1)), .ref l]) nt
          have ht : (upd H3 t (HO.tup [.int ((f j).1 + btw qs j (i + 1)), .ref l])) t = some (HO.tup [.int ((f j).1 + btw qs j (i + 1)), .ref l]) := upd_same
          generalize upd H3 t (HO.tup [.int ((f j).1 + btw qs j (i + 1)), .ref l]) = H4 at s4 ht ⊢
          have hD4 := s4 _ _ hD3
          refine ⟨_, hD4, by rw [List.length_map, sizeLine_eq]; omega, same_at nD (s3.trans s4), ads ++ [t], by rw [upd_same, List.map_append]; rfl, by rw [List.length_append, hal]; show _ + 1 = _; omega, fun k a e => ?_⟩
          rcases Nat.lt_trichotomy k ads.length with hk | hk | hk
          · rw [List.getElem?_append_left hk] at e
            obtain ⟨l', w1, w2⟩ := hapr k a e
            have w1 := s4 _ _ w1
            exact ⟨l', by rw [upd_ne (fun z => by rw [z, hD4] at w1; cases w1)]; exact w1, w2⟩
          · rw [List.getElem?_append_right (by omega), hk, Nat.sub_self] at e
            cases e
            have ek : m + k = j := by omega
            rw [ek]
            exact ⟨l, by rw [upd_ne (fun z => by rw [z, hD4] at ht; cases ht)]; exact ht, h2⟩
          · rw [List.getElem?_eq_none (by rw [List.length_append]; show _ + 1 ≤ _; omega)] at e
            cases e
        · rw [if_neg (fun z => hmj z.1)]
          refine iteF ?_
          exact ⟨s3, ads, hD3, by omega, hapr⟩
      · rintro H3 ⟨s3, ads, hD3, hal, hapr⟩
        have hal : ads.length = i + 1 - m := hal
        refine gn (σ' := [some (.ref g), some (.ref b), some (.ref d), some (.ref d'), some (.int ((i + 1 : Nat) : Int)), some (.ref D), y6, y7, y8]) rfl ?_
        refine ⟨_, rfl, _, .inl ⟨_, SqL.of hD3, rfl⟩, ?_⟩
        have hd3 := s3 _ _ hd2
        by_cases hmi : i + 1 ≤ m
        · obtain rfl : ads = [] := List.eq_nil_of_length_eq_zero (by omega)
          refine iteF ?_
          refine ⟨fun c o hc e => s3 _ _ (k2 c o hc e), ⟨ad', ?_, fun j h1 h2 => by omega⟩, _, _, _, _, _, rfl⟩
          rw [show i + 1 - m = i - m by omega]
          exact hd3
        · have hoL : (others qs f m (i + 1)).length = i + 1 - m := by
            unfold others
            rw [List.length_map, List.length_range']
          obtain ⟨a0, as, rfl⟩ : ∃ a0 as, ads = a0 :: as := by
            cases ads with
            | nil => simp at hal; omega
            | cons a0 as => exact ⟨a0, as, rfl⟩
          obtain ⟨x, r, ho⟩ : ∃ x r, others qs f m (i + 1) = x :: r := by
            cases h : others qs f m (i + 1) with
            | nil => rw [h] at hoL; simp at hoL; omega
            | cons x r => exact ⟨x, r, rfl⟩
          refine iteT ?_
          refine ⟨_, rfl, D, a0 :: as, x, r, rfl, SqL.of hD3, by rw [hal, ← ho, hoL], fun k a p e1 e2 => ?_, fun a ha => ?_⟩
          · rw [← ho] at e2
            have hk : k < i + 1 - m := by
              have := (List.getElem?_eq_some_iff.mp e2).1
              rw [hoL] at this
              exact this
            have e3 : (others qs f m (i + 1))[k]? = some ((f (m + k)).1 + btw qs (m + k) (i + 1), (f (m + k)).2) := by
              unfold others
              rw [List.getElem?_map, List.getElem?_range' hk]
              simp
            rw [e3] at e2
            cases e2
            obtain ⟨l', w1, w2⟩ := hapr k a e1
            exact ⟨l', w1, s3 _ _ w2⟩
          · have hst : stepF qs f m (i + 1) = ((PySem.W.minOf x r).1, (PySem.W.minOf x r).2 ++ [at_ qs (i + 1)]) := by
              unfold stepF
              rw [ho]
            have hlen : (PySem.W.minOf x r).2.length ≤ 60 := by
              have h1 := (minOf_spec r x).1
              rw [← ho] at h1
              obtain ⟨j, hj, e⟩ := List.mem_map.mp h1
              obtain ⟨j1, j2⟩ := List.mem_range'_1.mp hj
              rw [← e]
              exact hfl j j1 (by omega)
            generalize PySem.W.minOf x r = p at ha hst hlen
            obtain ⟨l, w1, w2⟩ := ha
            refine ⟨a, _, rfl, SqT.of w1, rfl, _, _, rfl, _, _, rfl, rfl, ?_⟩
            dsimp only [List.set]
            refine ⟨_, rfl, _, rfl, l, _, rfl, .inr (SqL.of w2), _, rfl, _, rfl, g, _, _, _, rfl, rfl, SqL.of (s3 _ _ hg2), at_v (a := i + 1) (by omega), small (by rw [List.length_append, List.length_map]; show _ + 1 ≤ 5000; omega), fun l2 nl2 => ?_⟩
            have s4 := same_new (o := HO.lst (p.2.map V.int ++ [V.int (at_ qs (i + 1))])) nl2
            have hl2 : (upd H3 l2 (HO.lst (p.2.map V.int ++ [V.int (at_ qs (i + 1))]))) l2 = some (HO.lst (p.2.map V.int ++ [V.int (at_ qs (i + 1))])) := upd_same
            generalize upd H3 l2 (HO.lst (p.2.map V.int ++ [V.int (at_ qs (i + 1))])) = H4 at s4 hl2 ⊢
            refine ⟨small (by show 2 ≤ 5000; decide), fun t nt => ?_⟩
            have s5 := same_new (o := HO.tup [.int p.1, .ref l2]) nt
            have ht : (upd H4 t (HO.tup [.int p.1, .ref l2])) t = some (HO.tup [.int p.1, .ref l2]) := upd_same
            generalize upd H4 t (HO.tup [.int p.1, .ref l2]) = H5 at s5 ht ⊢
            have s35 := s4.trans s5
            have hd5 := s35 _ _ hd3
            refine ⟨_, rfl, _, rfl, d', _, rfl, DPut.k (k := Sum.inl ((i + 1 : Nat) : Int)) hd5 (by unfold kvP; rw [List.length_map, List.length_range', sizeLine_eq]; omega), ?_⟩
            have hnone : valV (kvP ad' (m + 1) (i - m)) (Sum.inl ((i + 1 : Nat) : Int)) = none := by
              rw [kvP_val, if_neg (by omega)]
            rw [putK_new _ hnone]
            have ekv : kvP ad' (m + 1) (i - m) ++ [(Sum.inl ((i + 1 : Nat) : Int), V.ref t)] = kvP (fun j => if j = i + 1 then t else ad' j) (m + 1) (i + 1 - m) := by
              unfold kvP
              rw [show i + 1 - m = (i - m) + 1 by omega, List.range'_1_concat, List.map_append, List.map_singleton, show m + 1 + (i - m) = i + 1 by omega]
              congr 1
              · refine List.map_congr_left fun j hj => ?_
                obtain ⟨j1, j2⟩ := List.mem_range'_1.mp hj
                dsimp only
                rw [if_neg (by omega)]
              · dsimp only
                rw [if_pos rfl]
            rw [ekv]
            have pu : ∀ {a : Addr} {z : Pr} {o : HO}, PrAt H5 a z → PrAt (upd H5 d' o) a z := fun {a z o} h => by
              obtain ⟨l', w1, w2⟩ := h
              exact ⟨l', by rw [upd_ne (fun e => by rw [e, hd5] at w1; cases w1)]; exact w1, by rw [upd_ne (fun e => by rw [e, hd5] at w2; cases w2)]; exact w2⟩
            refine ⟨fun c o hc e => by rw [upd_ne hc]; exact s35 _ _ (s3 _ _ (k2 c o hc e)), ⟨_, upd_same, fun j h1 h2 => ?_⟩, _, _, _, _, _, rfl⟩
            by_cases ej : j = i + 1
            · subst ej
              rw [if_pos rfl, hst]
              refine pu ⟨l2, ht, ?_⟩
              rw [s5 _ _ hl2, List.map_append]
              rfl
            · rw [if_neg ej]
              exact pu ((hpr j h1 (by omega)).same (s3.trans s35))
    · rintro σ H2 ⟨k2, ⟨ad', hd2, hpr⟩, y4, y5, y6, y7, y8, rfl⟩
      have en : ((qs.length : Int) - 1).toNat - m = qs.length - (m + 1) := by omega
      rw [en] at hd2 hpr
      refine ⟨_, rfl, q _ d' ad' (fun c o e => k2 c o (fun z => by rw [z, nd'] at e; cases e) (s1 c o e)) ⟨hd2, hpr⟩⟩
end
end Sp1

set_option Elab.async false
set_option linter.all false
set_option maxRecDepth 100000
set_option maxHeartbeats 4000000
/-! a range that is kept, and walked later -/
namespace Sp1
open PySem PySem.Spec PyProof.Rows L2
section
variable {X : Cx} {tg : Expr}
theorem cr_range1 : CallR X (.type "range") (fun vs H Q => ∃ j, vs = [V.int j] ∧ ∀ p, H p = none → Q (.ref p) (upd H p (.rng 0 j))) := by
  intro pins s σ H vs us Q I r h
  obtain ⟨j, rfl, q⟩ := h
  cases r with
  | cons r rr =>
    cases rr
    obtain ⟨t, rfl⟩ := r
    refine call_range_1 ⟨.ref s.heap.objs.size, upd H s.heap.objs.size (.rng 0 j), I.laid (t' := s.toks + 2) (fun b o e => Heap.get?_push_of_some _ e) (Nat.le_refl _) ?_, rfl, q _ (I.hok.fresh (Nat.le_refl _))⟩
    exact ⟨_, _, _, Heap.get?_push_size _ rfl⟩
/-- for i in r -/
def iRng (te : TE) : TI := fun σ H R => te σ H fun x H1 => ∃ (a : Addr) (lo hi : Int), x = .ref a ∧ H1 a = some (.rng lo hi) ∧ (-(2 ^ 62) ≤ lo ∧ lo < 2 ^ 62 ∧ -(2 ^ 62) ≤ hi ∧ hi < 2 ^ 62) ∧ R (Itr lo (hi - lo).toNat) H1
theorem pi_rng {l : Expr} {tl : TE} (hl : PE X l tl) : PI X tg l (iRng tl) := by
  refine ⟨fun pins s σ H R I h => ?_⟩
  refine thn (hl.run pins s σ H _ I h) fun v s1 ⟨x, H1, I1, r1, q1⟩ => ?_
  obtain ⟨a, lo, hi, e, hq, ⟨h1, h2, h3, h4⟩, q⟩ := q1
  subst e
  cases r1
  obtain ⟨t, u, w, ho⟩ := I1.hok a _ hq
  refine wpAny_pyIter_range ho (small_one h1 h2 h3 h4) ?_
  refine ⟨s1.heap.objs.size, [s1.heap.objs.size], _, _, H1, rfl, I1.kept (t' := s1.toks) fun b o e => Heap.get?_push_of_some _ e, turn_range _ lo (hi - lo).toNat, ?_, fun b hb => ?_, q⟩
  · have e1 : lo + ((0 : Nat) : Int) * 1 = lo := by simp
    have e2 : (((hi - lo).toNat : Nat) : Int) - ((0 : Nat) : Int) = Builtin.Range.rangeSize lo hi 1 := by rw [rangeSize_one]; split <;> omega
    show IsRangeIter _ _ (lo + ((0 : Nat) : Int) * 1) ((((hi - lo).toNat : Nat) : Int) - ((0 : Nat) : Int)) 1
    rw [e1, e2]
    exact Heap.get?_push_size _ rfl
  · have e : b = s1.heap.objs.size := by simpa using hb
    subst e
    exact I1.fpOk (Nat.le_refl _) (I1.hok.fresh (Nat.le_refl _))
end
end Sp1

set_option Elab.async false
set_option linter.all false
set_option maxRecDepth 100000
set_option maxHeartbeats 4000000
namespace Sp1
open PySem PySem.Spec PyProof.Rows L2 Kp
theorem asc_pw {qs : List Int} (h : Asc qs) : qs.Pairwise (· < ·) := h.1
theorem stepF_ok {qs : List Int} (asc : qs.Pairwise (· < ·)) {f : Nat → Pr} {m i : Nat} (hf : ∀ j, m ≤ j → j < qs.length → PlanOk qs (m + 1) j (f j)) (hmi : m < i) (hi : i < qs.length) : PlanOk qs (m + 2) i (stepF qs f m i) := by
  have hl : (others qs f m i).length = i - m := by
    unfold others
    rw [List.length_map, List.length_range']
  unfold stepF
  cases ho : others qs f m i with
  | nil => rw [ho] at hl; simp at hl; omega
  | cons x r => exact plan_step asc (fun j h1 h2 => hf j h1 (by omega)) hi ho
theorem kvP_snoc {ad : Nat → Addr} {i : Nat} {t : Addr} : kvP ad 0 i ++ [(Sum.inl (i : Int), V.ref t)] = kvP (fun j => if j = i then t else ad j) 0 (i + 1) := by
  unfold kvP
  rw [List.range'_1_concat, List.map_append, List.map_singleton, Nat.zero_add]
  congr 1
  · refine List.map_congr_left fun j hj => ?_
    obtain ⟨j1, j2⟩ := List.mem_range'_1.mp hj
    dsimp only
    rw [if_neg (by omega)]
  · dsimp only
    rw [if_pos rfl]
section
variable {P : Program} {w : World} {K : PySem.W.Frag} {mg : Str → Option Value} {base : Heap}
def sp_best (K : PySem.W.Frag) : Sp := fun vs H Q _ => ∃ (g : Addr) (qs : List Int) (c : Nat), vs = [.ref g, .int (c : Int)] ∧ H g = some (.lst (qs.map V.int)) ∧ Asc qs ∧ 1 ≤ qs.length ∧ qs.length ≤ 60 ∧ 1 ≤ c ∧ c ≤ 60 ∧
  ∀ H' a p, Same H H' → PrAt H' a p → BestOf qs (min c qs.length) p → Q (.ref a) H'
theorem ok_best_steps (T : KpF K mg) : FnOk P w K mg base CX0 4 T.f_best_steps T.fd_best_steps ["queries", "count"] (sp_best K) := by
  refine T.D_best_steps.F.ok sc_best_steps (fun vs H Q E h => ?_) (fun cdv A outer s H vs Q E hr h => ?_)
  · obtain ⟨g, qs, c, rfl, _⟩ := h
    rfl
  · obtain ⟨g, qs, c, rfl, hg, asc, n1, n60, c1, c60, q⟩ := h
    have nd := sc_best_steps.nd
    refine ⟨_, (pss_cons (ps_expr (pe_call ((ok_check_steps (k := 2) T.D_check_steps T.g_check_step T.k_check_step T.b_check_step (ok_check_step (k := 1) T.F_check_step T.D_is_integer (ok_is_integer (k := 0) T.D_is_integer T.m_isinstance T.m_int T.m_bool)) T.m_isinstance T.m_list).mono (by decide)) hr (by rfl) T.D_check_steps.g T.D_check_steps.kp T.D_check_steps.b .nil pass0 (pa_cons (pv 0) pa_nil)))
      (pss_cons (ps_if (pt_not (pt_chain op_le op_le pe_int (pe_callB call_len_seq (by rfl) T.m_len PySem.boot_len (pa_cons (pv 0) pa_nil)) (pe_glob (v := .int 60) rfl T.c_MAX_QUERIES ⟨_, rfl⟩) ))
      (pss_one ps_never)
      pss_nil)
      (pss_cons (ps_if (PW.pt (pw_or (pt_not (pt_val (pe_call ((ok_is_integer (k := 0) T.D_is_integer T.m_isinstance T.m_int T.m_bool).mono (by decide)) hr (by rfl) T.D_is_integer.g T.D_is_integer.kp T.D_is_integer.b .nil pass0 (pa_cons (pv 1) pa_nil)))) (pw_or1 (pt_not (pt_chain op_le op_le pe_int (pv 1) (pe_glob (v := .int 60) rfl T.c_MAX_QUERIES ⟨_, rfl⟩) )))))
      (pss_one ps_never)
      pss_nil)
      (pss_cons (ps_set (i := 2) nd rfl (.inr rfl) (pe_callTy cr_range1 (by rfl) T.m_range (by decide +kernel) (pa_cons (pe_callB call_len_seq (by rfl) T.m_len PySem.boot_len (pa_cons (pv 0) pa_nil)) pa_nil)))
      (pss_cons (ps_setLc (i := 3) (own := [("one", 6)]) (g := (gName 6)) (tt := tYes) rfl nd rfl rfl (sw_true rfl rfl rfl (by decide +kernel)) (pi_rng (pv 2)) (blkOk_by (N := N_best_steps) (sc := defScope s_best_steps) (by decide +kernel)) (fun _ _ _ _ _ => (pg_name (i := 6) nd rfl (.inr rfl))) (fun _ _ _ _ _ => pts_nil) (fun _ _ _ _ _ => (pe_lc (own := [("other", 8)]) (g := (gName 8)) (tt := tYes) rfl nd (pi_rng (pv 2)) (blkOk_by (N := N_best_steps) (sc := { kind := .function, names := [(PySem.Str.ofString ".0", .local), (PySem.Str.ofString "one", .cell), (PySem.Str.ofString "places", .cell), (PySem.Str.ofString "queries", .cell)], isGenerator := false, isCoroutine := false, more := [] }) (by decide +kernel)) (fun _ _ _ _ _ => (pg_name (i := 8) nd rfl (.inl rfl))) (fun _ _ _ _ _ => pts_nil) (fun _ _ _ _ _ => (pe_call ((ok_cost_between T).mono (by decide)) hr (by rfl) T.D_cost_between.g T.D_cost_between.kp T.D_cost_between.b .nil pass0 (pa_cons (pv 0) (pa_cons (pv 6) (pa_cons (pv 8) pa_nil))))))))
      (pss_cons (ps_set (i := 4) nd rfl (.inr rfl) (pe_dc (own := [("at", 7)]) (g := (gName 7)) (tt := tYes) rfl nd (pi_rng (pv 2)) (blkOk_by (N := N_best_steps) (sc := defScope s_best_steps) (by decide +kernel)) (fun _ _ _ _ _ => (pg_name (i := 7) nd rfl (.inl rfl))) (fun _ _ _ _ _ => pts_nil) (fun _ _ _ _ _ => (pv 7)) (fun _ _ _ _ _ => (pe_tup (pa_cons (pe_call ((ok_cost_before T).mono (by decide)) hr (by rfl) T.D_cost_before.g T.D_cost_before.kp T.D_cost_before.b .nil pass0 (pa_cons (pv 0) (pa_cons (pv 7) pa_nil))) (pa_cons (pe_lst (pa_cons (pe_ix (r := rIxL K) ix_list (pv 0) (pv 7) (fun _ _ => rfl)) pa_nil)) pa_nil))))))
      (pss_cons (ps_for PassesOwn.never rfl (pi_range1 (by rfl) T.m_range (pa_cons (pe_op op_sub (pe_callB (call_min2 rfl) (by rfl) T.m_min (by decide +kernel) (pa_cons (pv 1) (pa_cons (pe_callB call_len_seq (by rfl) T.m_len PySem.boot_len (pa_cons (pv 0) pa_nil)) pa_nil))) pe_int) pa_nil)) (pg_name (i := 5) nd rfl (.inl rfl))
      (pss_one (ps_set (i := 4) nd rfl (.inr rfl) (pe_call ((ok_with_one_more T).mono (by decide)) hr (by rfl) T.D_with_one_more.g T.D_with_one_more.kp T.D_with_one_more.b .nil pass0 (pa_cons (pv 0) (pa_cons (pv 3) (pa_cons (pv 4) pa_nil)))))))
      (pss_one (ps_ret (pe_callB (cr_minP rfl hr.units) (by rfl) T.m_min (by decide +kernel) (pa_cons (pe_lock (pe_lc (own := [("at", 7)]) (g := (gName 7)) (tt := tYes) rfl nd (pi_keys (pv 4)) (blkOk_by (N := N_best_steps) (sc := defScope s_best_steps) (by decide +kernel)) (fun _ _ _ _ _ => (pg_name (i := 7) nd rfl (.inl rfl))) (fun _ _ _ _ _ => pts_nil) (fun _ _ _ _ _ => (pe_tup (pa_cons (pe_op op_add (pe_ix (r := rIxT K) ix_tup (pe_dget (hu_of hr) (pv 4) (pv 7) (fun _ _ => rfl)) pe_int (fun _ _ => rfl)) (pe_call ((ok_cost_behind T).mono (by decide)) hr (by rfl) T.D_cost_behind.g T.D_cost_behind.kp T.D_cost_behind.b .nil pass0 (pa_cons (pv 0) (pa_cons (pv 7) pa_nil)))) (pa_cons (pe_ix (r := rIxT K) ix_tup (pe_dget (hu_of hr) (pv 4) (pv 7) (fun _ _ => rfl)) pe_int (fun _ _ => rfl)) pa_nil)))))) pa_nil))))))))))), ?_⟩
    refine ⟨_, rfl, g, qs, rfl, hg, asc, ?_⟩
    have pw := asc.1
    -- the checks
    refine ⟨_, rfl, g, _, rfl, .inl (SqL.of hg), _, _, rfl, rfl, _, rfl, ?_⟩
    rw [List.length_map, decide_eq_true (show (1 : Int) ≤ (qs.length : Int) by omega)]
    refine iteT ?_
    refine ⟨_, _, rfl, rfl, _, rfl, ?_⟩
    rw [decide_eq_true (show (qs.length : Int) ≤ 60 by omega)]
    refine iteF ?_
    refine tNextI ?_
    refine ⟨_, rfl, (c : Int), rfl, true, rfl, iteF ?_⟩
    refine ⟨_, rfl, _, _, rfl, rfl, _, rfl, ?_⟩
    rw [decide_eq_true (show (1 : Int) ≤ (c : Int) by omega)]
    refine iteT ?_
    refine ⟨_, _, rfl, rfl, _, rfl, ?_⟩
    rw [decide_eq_true (show (c : Int) ≤ 60 by omega)]
    refine iteF ?_
    refine tNextI ?_
    -- places
    refine ⟨_, rfl, g, _, rfl, .inl (SqL.of hg), _, rfl, fun r nr => ?_⟩
    rw [List.length_map]
    have s1 := same_new (o := .rng 0 (qs.length : Int)) nr
    have hr1 : (upd H r (.rng 0 (qs.length : Int))) r = some (.rng 0 (qs.length : Int)) := upd_same
    generalize upd H r (.rng 0 (qs.length : Int)) = H1 at s1 hr1 ⊢
    refine gn (σ' := [some (.ref g), some (.int (c : Int)), some (.ref r), none, none, none, none, none, none]) rfl ?_
    have hg1 := s1 _ _ hg
    have bds : -(2 ^ 62 : Int) ≤ 0 ∧ (0 : Int) < 2 ^ 62 ∧ -(2 ^ 62 : Int) ≤ (qs.length : Int) ∧ (qs.length : Int) < 2 ^ 62 := by omega
    have en : ((qs.length : Int) - 0).toNat = qs.length := by omega
    -- between
    refine ⟨_, rfl, r, 0, _, rfl, hr1, bds, fun D nD => ?_⟩
    refine lc_it (walk_range (lo := 0) (n := ((qs.length : Int) - 0).toNat)) (fun i H' => Same H1 H' ∧ ∃ rows : List Addr, H' D = some (.lst (rows.map V.ref)) ∧ rows.length = i ∧ ∀ (k : Nat) (a : Addr), rows[k]? = some a → a ≠ D ∧ H' a = some (.lst ((List.range qs.length).map fun j => V.int (btw qs k j))))
      ⟨same_new nD, [], upd_same, rfl, (fun k a e => by cases e)⟩ (fun _ _ _ _ => trivial) ?_ ?_
    · rintro i x Ha Hb hi ⟨sa, rows, eD, hl, hrows⟩ ⟨rfl, rfl⟩
      rw [en] at hi
      refine ⟨rfl, ?_⟩
      dsimp only [tYes]
      refine iteT ?_
      refine ⟨_, rfl, r, 0, _, rfl, sa _ _ hr1, bds, fun D2 nD2 => ?_⟩
      refine lc_it (walk_range (lo := 0) (n := ((qs.length : Int) - 0).toNat)) (Acc Hb D2 fun j => V.int (btw qs i j)) (Acc.start nD2) (fun _ _ _ _ => trivial) ?_ ?_
      · rintro j y Hc Hd hj ac ⟨rfl, rfl⟩
        rw [en] at hj
        refine ⟨rfl, ?_⟩
        dsimp only [tYes]
        refine iteT ?_
        exact ⟨_, rfl, _, rfl, _, rfl, g, qs, i, j, by simp, ac.1 _ _ (sa _ _ hg1), n60, hi, hj, fun He se => ac.turn nD2 se (by omega) rfl⟩
      · rintro Hc ⟨sc, eD2⟩
        rw [en] at eD2
        have eDc := sc _ _ eD
        have D2D : D2 ≠ D := fun z => by rw [z, eD] at nD2; cases nD2
        refine ⟨_, eDc, by rw [List.length_map, sizeLine_eq]; omega, same_at nD (sa.trans sc), rows ++ [D2], by rw [upd_same, List.map_append]; rfl, by rw [List.length_append, hl]; rfl, fun k a e => ?_⟩
        rcases Nat.lt_trichotomy k rows.length with hk | hk | hk
        · rw [List.getElem?_append_left hk] at e
          obtain ⟨q1, q2⟩ := hrows k a e
          exact ⟨q1, by rw [upd_ne q1]; exact sc _ _ q2⟩
        · rw [List.getElem?_append_right (by omega), hk, Nat.sub_self] at e
          cases e
          rw [hk, hl]
          exact ⟨D2D, by rw [upd_ne D2D]; exact eD2⟩
        · rw [List.getElem?_eq_none (by rw [List.length_append]; show _ + 1 ≤ _; omega)] at e
          cases e
    rintro H2 ⟨s2, rows, eD, hl, hrows⟩
    rw [en] at hl
    have hb2 : BtwAt H2 D qs := ⟨rows, eD, hl, fun k a e => (hrows k a e).2⟩
    refine gn (σ' := [some (.ref g), some (.int (c : Int)), some (.ref r), some (.ref D), none, none, none, none, none]) rfl ?_
    have s02 := s1.trans s2
    have hg2 := s2 _ _ hg1
    have hr2 := s2 _ _ hr1
    -- plans
    refine ⟨_, rfl, r, 0, _, rfl, hr2, bds, fun P0 nP => ?_⟩
    refine dc_it (walk_range (lo := 0) (n := ((qs.length : Int) - 0).toNat)) (fun i H' => Same H2 H' ∧ ∃ ad, H' P0 = some (.dK (kvP ad 0 i)) ∧ ∀ j, j < i → PrAt H' (ad j) (bef qs j, [at_ qs j]))
      ⟨same_new nP, fun _ => 0, upd_same, (fun j h => by omega)⟩ (fun _ _ _ _ => trivial) ?_ ?_
    · rintro i x Ha Hb hi ⟨sa, ad, eP, had⟩ ⟨rfl, rfl⟩
      rw [en] at hi
      have ez : (0 : Int) + (i : Int) = (i : Int) := Int.zero_add _
      simp only [ez]
      refine ⟨rfl, ?_⟩
      dsimp only [tYes]
      refine iteT ?_
      refine ⟨_, rfl, _, rfl, _, rfl, g, qs, i, rfl, sa _ _ hg2, n60, hi, fun Hc sc => ?_⟩
      have sac := sa.trans sc
      refine ⟨_, rfl, _, rfl, g, _, _, _, rfl, rfl, SqL.of (sac _ _ hg2), at_v hi, small (by show 1 ≤ 5000; decide), fun l nl => ?_⟩
      have sd := same_new (o := HO.lst [.int (at_ qs i)]) nl
      have hld : (upd Hc l (HO.lst [.int (at_ qs i)])) l = some (HO.lst [.int (at_ qs i)]) := upd_same
      generalize upd Hc l (HO.lst [.int (at_ qs i)]) = Hd at sd hld ⊢
      refine ⟨small (by show 2 ≤ 5000; decide), fun t nt => ?_⟩
      have se := same_new (o := HO.tup [.int (bef qs i), .ref l]) nt
      have hte : (upd Hd t (HO.tup [.int (bef qs i), .ref l])) t = some (HO.tup [.int (bef qs i), .ref l]) := upd_same
      generalize upd Hd t (HO.tup [.int (bef qs i), .ref l]) = He at se hte ⊢
      have sce := sc.trans (sd.trans se)
      have ePe := sce _ _ eP
      refine ⟨_, Sum.inl (i : Int), rfl, ePe, by unfold kvP; rw [List.length_map, List.length_range', sizeLine_eq]; omega, ?_⟩
      have hnone : valV (kvP ad 0 i) (Sum.inl (i : Int)) = none := by rw [kvP_val, if_neg (by omega)]
      rw [putK_new _ hnone, kvP_snoc]
      have pu : ∀ {a : Addr} {z : Pr} {o : HO}, PrAt He a z → PrAt (upd He P0 o) a z := fun {a z o} h => by
        obtain ⟨l', w1, w2⟩ := h
        exact ⟨l', by rw [upd_ne (fun e => by rw [e, ePe] at w1; cases w1)]; exact w1, by rw [upd_ne (fun e => by rw [e, ePe] at w2; cases w2)]; exact w2⟩
      refine ⟨same_at nP (sa.trans sce), _, upd_same, fun j hj => ?_⟩
      by_cases ej : j = i
      · subst ej
        rw [if_pos rfl]
        exact pu ⟨l, hte, se _ _ hld⟩
      · rw [if_neg ej]
        exact pu ((had j (by omega)).same sce)
    rintro H3 ⟨s3, ad, eP, had⟩
    rw [en] at eP had
    have hpl : PlAt H3 P0 0 (qs.length - 0) (fun j => (bef qs j, [at_ qs j])) ad := ⟨eP, fun j _ h => had j (by omega)⟩
    refine gn (σ' := [some (.ref g), some (.int (c : Int)), some (.ref r), some (.ref D), some (.ref P0), none, none, none, none]) rfl ?_
    have s03 := s02.trans s3
    have hg3 := s3 _ _ hg2
    have hb3 := hb2.same s3
    -- one more step each time
    refine ⟨_, rfl, _, rfl, g, _, rfl, .inl (SqL.of hg3), _, _, rfl, _, _, rfl, rfl, ?_⟩
    rw [List.length_map]
    obtain ⟨mn, hmn, hmn2⟩ : ∃ mn : Nat, (if (qs.length : Int) < (c : Int) then (qs.length : Int) else (c : Int)) - 1 = (mn : Int) ∧ mn + 1 = min c qs.length := ⟨min c qs.length - 1, by split <;> omega, by omega⟩
    refine ⟨(mn : Int), by rw [← hmn], by omega, by omega, ?_⟩
    refine for_range (lo := 0) (n := ((mn : Int)).toNat) (fun i σ H' => Same H3 H' ∧ ∃ (d : Addr) (f : Nat → Pr) (ad : Nat → Addr) (y5 y6 y7 y8 : Option V), σ = [some (.ref g), some (.int (c : Int)), some (.ref r), some (.ref D), some (.ref d), y5, y6, y7, y8] ∧ PlAt H' d i (qs.length - i) f ad ∧ ∀ j, i ≤ j → j < qs.length → PlanOk qs (i + 1) j (f j))
      ⟨Same.refl _, P0, _, ad, _, _, _, _, rfl, hpl, fun j _ hj => plan_one pw hj⟩ ?_ ?_
    · rintro i σ Ha hi ⟨sa, d, f, ad', y5, y6, y7, y8, rfl, hp, hf⟩
      have hi : i < mn := hi
      refine gn (σ' := [some (.ref g), some (.int (c : Int)), some (.ref r), some (.ref D), some (.ref d), some (.int (0 + (i : Int))), y6, y7, y8]) rfl ?_
      refine ⟨_, rfl, _, rfl, _, rfl, g, D, d, qs, f, ad', i, rfl, sa _ _ hg3, n60, hb3.same sa, hp, by omega, fun j h1 h2 => by rw [(hf j h1 h2).cand.len]; omega, fun Hb d' ad2 sb hp' => ?_⟩
      refine gn (σ' := [some (.ref g), some (.int (c : Int)), some (.ref r), some (.ref D), some (.ref d'), some (.int (0 + (i : Int))), y6, y7, y8]) rfl ?_
      exact ⟨sa.trans sb, d', _, ad2, _, _, _, _, rfl, hp', fun j h1 h2 => stepF_ok pw hf (by omega) h2⟩
    · rintro σ Ha ⟨sa, d, f, ad', y5, y6, y7, y8, rfl, hp, hf⟩
      rw [show ((mn : Int)).toNat = mn from rfl] at hp hf
      have hmn3 : mn < qs.length := by omega
      refine ⟨d, _, hp.at_, trivial, fun od => ?_⟩
      have hda := hp.at_
      generalize hHk : upd Ha d (.frz od (.dK (kvP ad' mn (qs.length - mn)))) = Hk
      have hkd : Hk d = some (.frz od (.dK (kvP ad' mn (qs.length - mn)))) := by rw [← hHk]; exact upd_same
      have kk : ∀ {b : Addr} {o : HO}, Ha b = some o → b ≠ d → Hk b = some o := fun h1 h2 => by
        rw [← hHk, upd_ne h2]
        exact h1
      have nd_t : ∀ {b : Addr} {xs : List V}, Ha b = some (.tup xs) → b ≠ d := fun h1 h2 => by
        rw [h2, hda] at h1
        cases h1
      have nd_l : ∀ {b : Addr} {xs : List V}, Ha b = some (.lst xs) → b ≠ d := fun h1 h2 => by
        rw [h2, hda] at h1
        cases h1
      have hga := sa _ _ hg3
      have hgk := kk hga (nd_l hga)
      have hpk : ∀ j, mn ≤ j → j < qs.length → ∃ l, Hk (ad' j) = some (.tup [.int (f j).1, .ref l]) ∧ Ha l = some (.lst ((f j).2.map V.int)) ∧ l ≠ d := fun j h1 h2 => by
        obtain ⟨l, w1, w2⟩ := hp.pr j h1 (by omega)
        exact ⟨l, kk w1 (nd_t w1), w2, nd_l w2⟩
      refine ⟨_, rfl, d, od, rfl, .inl ⟨_, hkd, fun L nL => ?_⟩⟩
      have Ld : L ≠ d := fun z => by rw [z, hkd] at nL; cases nL
      have kl : (kvP ad' mn (qs.length - mn)).length = qs.length - mn := by unfold kvP; rw [List.length_map, List.length_range']
      refine lc_it walk_keys (fun i H' => Same Hk H' ∧ ∃ ads : List Addr, H' L = some (.lst (ads.map V.ref)) ∧ ads.length = i ∧ ∀ (k : Nat) (a : Addr), ads[k]? = some a → ∃ l, H' a = some (.tup [.int ((f (mn + k)).1 + beh qs (mn + k)), .ref l]) ∧ Ha l = some (.lst ((f (mn + k)).2.map V.int)) ∧ l ≠ d)
        ⟨same_new nL, [], upd_same, rfl, (fun k a e => by cases e)⟩ (fun i H' _ h => h.1 _ _ hkd) ?_ ?_
      · rintro i x Hb Hc hi ⟨sb, ads, eL, hal, hapr⟩ ⟨rfl, k, v, hkv, rfl⟩
        rw [kl] at hi
        have hkv2 : (kvP ad' mn (qs.length - mn))[i]? = some (Sum.inl ((mn + i : Nat) : Int), .ref (ad' (mn + i))) := by
          unfold kvP
          rw [List.getElem?_map, List.getElem?_range' hi]
          simp
        rw [hkv2] at hkv
        cases hkv
        refine ⟨rfl, ?_⟩
        dsimp only [tYes]
        refine iteT ?_
        have hmi : mn + i < qs.length := by omega
        have get : ∀ {Hx : Hp}, Same Hk Hx → DGet Hx d (.int ((mn + i : Nat) : Int)) (some (.ref (ad' (mn + i)))) := fun {Hx} sx =>
          .inl ⟨_, Sum.inl ((mn + i : Nat) : Int), .inr ⟨od, sx _ _ hkd⟩, rfl, by rw [kvP_val, if_pos (by omega)]⟩
        obtain ⟨l, w1, w2, w3⟩ := hpk (mn + i) (by omega) hmi
        refine ⟨_, rfl, _, rfl, d, _, rfl, get sb, ad' (mn + i), _, 0, _, rfl, rfl, SqT.of (sb _ _ w1), atI_nat (j := 0) rfl, ?_⟩
        refine ⟨_, rfl, _, rfl, g, qs, mn + i, rfl, sb _ _ hgk, n60, hmi, fun Hd sd => ?_⟩
        have sbd := sb.trans sd
        refine ⟨_, _, rfl, rfl, _, rfl, _, rfl, d, _, rfl, get sbd, ad' (mn + i), _, 1, _, rfl, rfl, SqT.of (sbd _ _ w1), atI_nat (j := 1) rfl, small (by show 2 ≤ 5000; decide), fun t nt => ?_⟩
        have se := same_new (o := HO.tup [.int ((f (mn + i)).1 + beh qs (mn + i)), .ref l]) nt
        have hte : (upd Hd t (HO.tup [.int ((f (mn + i)).1 + beh qs (mn + i)), .ref l])) t = some (HO.tup [.int ((f (mn + i)).1 + beh qs (mn + i)), .ref l]) := upd_same
        generalize upd Hd t (HO.tup [.int ((f (mn + i)).1 + beh qs (mn + i)), .ref l]) = He at se hte ⊢
        have eLe := (sd.trans se) _ _ eL
        refine ⟨_, eLe, by rw [List.length_map, sizeLine_eq]; omega, same_at nL (sbd.trans se), ads ++ [t], by rw [upd_same, List.map_append]; rfl, by rw [List.length_append, hal]; rfl, fun k a e => ?_⟩
        rcases Nat.lt_trichotomy k ads.length with hk | hk | hk
        · rw [List.getElem?_append_left hk] at e
          obtain ⟨l', q1, q2, q3⟩ := hapr k a e
          have q1 := (sd.trans se) _ _ q1
          exact ⟨l', by rw [upd_ne (fun z => by rw [z, eLe] at q1; cases q1)]; exact q1, q2, q3⟩
        · rw [List.getElem?_append_right (by omega), hk, Nat.sub_self] at e
          cases e
          rw [hk, hal]
          exact ⟨l, by rw [upd_ne (fun z => by rw [z, eLe] at hte; cases hte)]; exact hte, w2, w3⟩
        · rw [List.getElem?_eq_none (by rw [List.length_append]; show _ + 1 ≤ _; omega)] at e
          cases e
      · rintro Hb ⟨sb, ads, eL, hal, hapr⟩
        rw [kl] at hal
        refine ⟨sb _ _ hkd, ?_⟩
        generalize hHz : upd Hb d (.dK (kvP ad' mn (qs.length - mn))) = Hz
        have sz : Same Ha Hz := fun b o e => by
          by_cases hbd : b = d
          · subst hbd
            rw [hda] at e
            cases e
            rw [← hHz]
            exact upd_same
          · rw [← hHz, upd_ne hbd]
            exact sb _ _ (kk e hbd)
        have eLz : Hz L = some (.lst (ads.map V.ref)) := by rw [← hHz, upd_ne Ld]; exact eL
        have hfL : (finals qs f mn).length = qs.length - mn := by
          unfold finals
          rw [List.length_map, List.length_range']
        obtain ⟨x, rr, hfin⟩ : ∃ x rr, finals qs f mn = x :: rr := by
          cases h : finals qs f mn with
          | nil => rw [h] at hfL; simp at hfL; omega
          | cons x rr => exact ⟨x, rr, rfl⟩
        refine ⟨L, ads, x, rr, rfl, SqL.of eLz, by rw [← hfin, hal, hfL], fun k a p e1 e2 => ?_, fun a ha => ?_⟩
        · rw [← hfin] at e2
          have hk : k < qs.length - mn := by
            have := (List.getElem?_eq_some_iff.mp e2).1
            rw [hfL] at this
            exact this
          have e3 : (finals qs f mn)[k]? = some ((f (mn + k)).1 + beh qs (mn + k), (f (mn + k)).2) := by
            unfold finals
            rw [List.getElem?_map, List.getElem?_range' hk]
            simp
          rw [e3] at e2
          cases e2
          obtain ⟨l', q1, q2, q3⟩ := hapr k a e1
          exact ⟨l', by rw [← hHz, upd_ne (fun z => by rw [z, sb _ _ hkd] at q1; cases q1)]; exact q1, sz _ _ q2⟩
        · refine q Hz a _ (s03.trans (sa.trans sz)) ha ?_
          rw [← hmn2]
          exact plan_final pw hf hfin
end
end Sp1

set_option Elab.async false
set_option linter.all false
set_option maxRecDepth 100000
set_option maxHeartbeats 4000000
namespace Sp1
open PySem PySem.Spec PyProof.Rows L2 Kp
section
variable {P : Program} {w : World} {K : PySem.W.Frag} {mg : Str → Option Value} {base : Heap}
def sp_lcost : Sp := fun vs H Q _ => ∃ (g k : Addr) (qs S : List Int), vs = [.ref g, .ref k] ∧ H g = some (.lst (qs.map V.int)) ∧ H k = some (.lst (S.map V.int)) ∧ qs.length ≤ 60 ∧ S.length ≤ 60 ∧ S ≠ [] ∧ ∀ H', Same H H' → Q (.int (cost qs S)) H'
theorem ok__law_cost (T : KpF K mg) : FnOk P w K mg base CX0 1 T.f__law_cost T.fd__law_cost ["_law_queries", "_law_kept"] sp_lcost := by
  refine T.D__law_cost.F.ok sc_l_cost (fun vs H Q E h => ?_) (fun cdv A outer s H vs Q E hr h => ?_)
  · obtain ⟨g, k, qs, S, rfl, _⟩ := h
    rfl
  · obtain ⟨g, k, qs, S, rfl, hg, hk, q60, s60, sne, q⟩ := h
    have nd := sc_l_cost.nd
    refine ⟨_, (pss_one (ps_ret (pe_callB (cr_sum rfl) (by rfl) T.m_sum (by decide +kernel) (pa_cons (pe_lc (own := [("_law_query", 2)]) (g := (gName 2)) (tt := tYes) rfl nd (pi_list (pv 0)) (blkOk_by (N := N_l_cost) (sc := defScope s_l_cost) (by decide +kernel)) (fun _ _ _ _ _ => (pg_name (i := 2) nd rfl (.inr rfl))) (fun _ _ _ _ _ => pts_nil) (fun _ _ _ _ _ => (pe_callB (id := "min") (r := rMin K) (cr_min rfl) (by rfl) T.m_min (by decide +kernel) (pa_cons (pe_lc (own := [("_law_step", 3)]) (g := (gName 3)) (tt := tYes) rfl nd (show PI _ _ _ (iList K _) from pi_list (pv 1)) (blkOk_by (N := N_l_cost) (sc := { kind := .function, names := [(PySem.Str.ofString ".0", .local), (PySem.Str.ofString "_law_query", .cell), (PySem.Str.ofString "min", .globalImplicit), (PySem.Str.ofString "_law_kept", .cell)], isGenerator := false, isCoroutine := false, more := [] }) (by decide +kernel)) (fun _ _ _ _ _ => (pg_name (i := 3) nd rfl (.inl rfl))) (fun _ _ _ _ _ => pts_nil) (fun _ _ _ _ _ => (pe_callB call_abs (by rfl) T.m_abs (by decide +kernel) (pa_cons (pe_op op_sub (pv 2) (pv 3)) pa_nil)))) pa_nil)))) pa_nil)))), ?_⟩
    refine ⟨_, rfl, g, rfl, ⟨_, SqL.of hg⟩, fun D nD => ?_⟩
    refine lc_it (walk_list (K := K) (a := g) (xs := qs.map V.int)) (AccI H D qs fun x => near x S) (AccI.start nD) (fun i H' _ h => Same.seq h.1 (SqL.of hg)) ?_ ?_
    · rintro i x Ha Hb hi ac ⟨rfl, hx⟩
      obtain ⟨hi, rfl⟩ := int_of hx
      refine ⟨rfl, ?_⟩
      dsimp only [tYes]
      refine iteT ?_
      refine ⟨_, rfl, k, rfl, ⟨_, SqL.of (ac.1 _ _ hk)⟩, fun D2 nD2 => ?_⟩
      generalize hx : qs[i] = x
      refine lc_it (walk_list (K := K) (a := k) (xs := S.map V.int)) (AccI Hb D2 S fun s => ((x - s).natAbs : Int)) (AccI.start nD2) (fun i H' _ h => Same.seq h.1 (SqL.of (ac.1 _ _ hk))) ?_ ?_
      · rintro j y Hc Hd hj ac2 ⟨rfl, hy⟩
        obtain ⟨hj, rfl⟩ := int_of hy
        refine ⟨rfl, ?_⟩
        dsimp only [tYes]
        refine iteT ?_
        refine ⟨_, rfl, _, rfl, _, _, rfl, rfl, _, rfl, ac2.turn nD2 (Same.refl _) hj (by omega) ?_⟩
        congr 1
        split <;> omega
      · intro Hc ac2
        obtain ⟨sc, hD2⟩ := ac2.done
        refine ⟨D2, _, rfl, SqL.of hD2, by rw [List.length_map]; exact List.length_pos_iff.mpr sne, fun m hm hle => ?_⟩
        refine ac.turn nD sc hi (by omega) ?_
        rw [hx]
        congr 1
        refine (near_eq ?_ fun s hs => ?_).symm
        · obtain ⟨s, hs, e⟩ := List.mem_map.mp hm
          exact ⟨s, hs, e.symm⟩
        · exact hle _ (List.mem_map.mpr ⟨s, hs, rfl⟩)
    · intro Hc ac
      obtain ⟨sc, hD⟩ := ac.done
      exact ⟨D, _, rfl, SqL.of hD, q _ sc⟩
end
end Sp1

set_option Elab.async false
set_option linter.all false
set_option maxRecDepth 100000
set_option maxHeartbeats 4000000
namespace Sp1
open PySem PySem.Spec PyProof.Rows L2 Kp
/-- (cost, how many, the list) stands there -/
def TrAt (H : Hp) (a : Addr) (qs S : List Int) : Prop := ∃ k, H a = some (.tup [.int (cost qs S), .int (S.length : Int), .ref k]) ∧ H k = some (.lst (S.map V.int))
theorem TrAt.same {H H' : Hp} {a : Addr} {qs S : List Int} (h : TrAt H a qs S) (s : Same H H') : TrAt H' a qs S := by
  obtain ⟨k, h1, h2⟩ := h
  exact ⟨k, s _ _ h1, s _ _ h2⟩
def trD (qs S : List Int) : PyData := .tuple [.int (cost qs S), .int (S.length : Int), .list (S.map PyData.int)]
theorem TrAt.dp {K : PySem.W.Frag} {H : Hp} {a : Addr} {qs S : List Int} (h : TrAt H a qs S) : Dp K H (.ref a) (trD qs S) := by
  obtain ⟨k, h1, h2⟩ := h
  exact .tup (SqT.of h1) (.cons (.int _) (.cons (.int _) (.cons (.lst (SqL.of h2) (dpAll_ints' _)) .nil)))
theorem alike_ints (S T : List Int) : PySem.W.alike (.list (S.map PyData.int)) (.list (T.map PyData.int)) = true := PySem.W.DatumOrd.alike (α := List Int) S T
theorem tr_alike (qs S T : List Int) : PySem.W.alike (trD qs S) (trD qs T) = true := by
  unfold trD
  have := alike_ints S T
  simp only [PySem.W.alike, PySem.W.alikeAll] at this ⊢
  simp [this]
theorem tr_lt (qs S T : List Int) : PySem.W.dataLt (trD qs S) (trD qs T) = lt3 (tri qs S) (tri qs T) := by
  have ai : ∀ x y : Int, PySem.W.alike (.int x) (.int y) = true := fun x y => PySem.W.DatumOrd.alike x y
  have ei : ∀ x y : Int, PyData.eqv (.int x) (.int y) = decide (x = y) := fun x y => PySem.W.Datum.eqv x y
  have el : PyData.eqv (.list (S.map PyData.int)) (.list (T.map PyData.int)) = decide (S = T) := PySem.W.Datum.eqv (α := List Int) S T
  unfold trD lt3
  rw [PySem.W.dataLt_tuple]
  by_cases h1 : cost qs S = cost qs T
  · rw [PySem.W.dataLt_all_yes (ai _ _) (by rw [ei]; exact decide_eq_true h1), if_pos (show (tri qs S).1 = (tri qs T).1 from h1)]
    by_cases h2 : (S.length : Int) = (T.length : Int)
    · rw [PySem.W.dataLt_all_yes (ai _ _) (by rw [ei]; exact decide_eq_true h2), if_pos (show (tri qs S).2.1 = (tri qs T).2.1 from h2)]
      by_cases h3 : S = T
      · rw [PySem.W.dataLt_all_yes (alike_ints S T) (by rw [el]; exact decide_eq_true h3)]
        subst h3
        exact (ll_irr S).symm
      · rw [PySem.W.dataLt_all_no (alike_ints S T) (by rw [el]; exact decide_eq_false h3)]
        exact PySem.W.DatumOrd.lt_eq (α := List Int) S T
    · rw [PySem.W.dataLt_all_no (ai _ _) (by rw [ei]; exact decide_eq_false h2), if_neg (show ¬ (tri qs S).2.1 = (tri qs T).2.1 from h2)]
      exact PySem.W.dataLt_int _ _
  · rw [PySem.W.dataLt_all_no (ai _ _) (by rw [ei]; exact decide_eq_false h1), if_neg (show ¬ (tri qs S).1 = (tri qs T).1 from h1)]
    exact PySem.W.dataLt_int _ _
theorem tr_depth (qs S : List Int) : (trD qs S).depth ≤ 60 := by
  have h : PyData.depthAll (S.map PyData.int) = 0 := by
    induction S with
    | nil => rfl
    | cons x r ih => simp only [List.map_cons, PyData.depthAll, PyData.depth, ih]; rfl
  unfold trD
  simp only [PyData.depth, PyData.depthAll, h]
  decide
theorem bit_eq (x i : Nat) : Builtin.bitAnd ((x : Int) / 2 ^ ((i : Int)).toNat) 1 = ((x / 2 ^ i % 2 : Nat) : Int) := by
  have e : (x : Int) / 2 ^ ((i : Int)).toNat = ((x / 2 ^ i : Nat) : Int) := by
    rw [Int.toNat_natCast]
    simp
  rw [e, PyProof.Rows.bitAnd_pp (Int.natCast_nonneg _) (by decide)]
  show (((x / 2 ^ i) &&& 1 : Nat) : Int) = _
  rw [Nat.and_one_is_mod]
section
variable {P : Program} {w : World} {K : PySem.W.Frag} {mg : Str → Option Value} {base : Heap}
def sp_lbest : Sp := fun vs H Q _ => ∃ (g : Addr) (qs : List Int) (c : Nat), vs = [.ref g, .int (c : Int)] ∧ H g = some (.lst (qs.map V.int)) ∧ 1 ≤ qs.length ∧ qs.length ≤ 7 ∧ 1 ≤ c ∧
  ∀ H' a n, Same H H' → PrAt H' a (cost qs (pick qs n), pick qs n) → 1 ≤ n → n < 2 ^ qs.length → (pick qs n).length ≤ c → (∀ j, 1 ≤ j → j < 2 ^ qs.length → (pick qs j).length ≤ c → lt3 (tri qs (pick qs j)) (tri qs (pick qs n)) = false) → Q (.ref a) H'
theorem ok__law_best (T : KpF K mg) : FnOk P w K mg base CX0 2 T.f__law_best T.fd__law_best ["_law_queries", "_law_count"] sp_lbest := by
  refine T.D__law_best.F.ok sc_l_best (fun vs H Q E h => ?_) (fun cdv A outer s H vs Q E hr h => ?_)
  · obtain ⟨g, qs, c, rfl, _⟩ := h
    rfl
  · obtain ⟨g, qs, c, rfl, hg, n1, n7, c1, q⟩ := h
    have nd := sc_l_best.nd
    refine ⟨_, (pss_cons (ps_set (i := 2) nd rfl (.inl rfl) pe_non)
      (pss_cons (ps_for PassesOwn.never rfl (pi_range2 (by rfl) T.m_range (pa_cons pe_int (pa_cons (pe_op op_shl pe_int (pe_callB call_len_seq (by rfl) T.m_len PySem.boot_len (pa_cons (pv 0) pa_nil))) pa_nil))) (pg_name (i := 3) nd rfl (.inr rfl))
      (pss_cons (ps_setLc (i := 4) (own := [("_law_place", 6), ("_law_query", 7)]) (g := (gTup K 2 (gCons (gName 6) (gCons (gName 7) gNil)))) rfl nd rfl rfl (sw_true rfl rfl rfl (by decide +kernel)) (pi_enum (by rfl) T.m_enumerate (pa_cons (pv 0) pa_nil)) (blkOk_by (N := N_l_best) (sc := defScope s_l_best) (by decide +kernel)) (fun _ _ _ _ _ => (pg_tup rfl (pgs_cons (pg_name (i := 6) nd rfl (.inl rfl)) (pgs_cons (pg_name (i := 7) nd rfl (.inl rfl)) pgs_nil)))) (fun _ _ _ _ _ => (pts_one (pt_cmpR op_eq (pe_op op_and (pe_op op_shr (pv 3) (pv 6)) pe_int) pe_int (nomark _)))) (fun _ _ _ _ _ => (pv 7)))
        (pss_one (ps_if (pt_cmpR op_le (pe_callB call_len_seq (by rfl) T.m_len PySem.boot_len (pa_cons (pv 4) pa_nil)) (pv 1) (nomark _))
        (pss_cons (ps_set (i := 5) nd rfl (.inl rfl) (pe_tup (pa_cons (pe_call ((ok__law_cost T).mono (by decide)) hr (by rfl) T.D__law_cost.g T.D__law_cost.kp T.D__law_cost.b .nil pass0 (pa_cons (pv 0) (pa_cons (pv 4) pa_nil))) (pa_cons (pe_callB call_len_seq (by rfl) T.m_len PySem.boot_len (pa_cons (pv 4) pa_nil)) (pa_cons (pv 4) pa_nil)))))
          (pss_one (ps_set (i := 2) nd rfl (.inl rfl) (pe_ifExp (PW.pt (pw_or (pt_cmpR op_isN (pv 2) pe_non (nomark _)) (pw_or1 (pt_cmpR (op_ltD hr.units) (pv 5) (pv 2) (nomark _))))) (pv 5) (pv 2)))))
        pss_nil))))
      (pss_one (ps_ret (pe_tup (pa_cons (pe_ix (r := rIxT K) ix_tup (pv 2) pe_int (fun _ _ => rfl)) (pa_cons (pe_ix (r := rIxT K) ix_tup (pv 2) pe_int (fun _ _ => rfl)) pa_nil))))))), ?_⟩
    refine gn (σ' := [some (.ref g), some (.int (c : Int)), some .non, none, none, none, none, none]) rfl ?_
    have hN : 2 ^ qs.length ≤ 128 := Nat.pow_le_pow_right (n := 2) (by decide) n7
    have hN2 : 2 ≤ 2 ^ qs.length := Nat.pow_le_pow_right (n := 2) (by decide) n1
    generalize hNN : 2 ^ qs.length = N at hN hN2 q
    refine ⟨_, rfl, g, _, rfl, .inl (SqL.of hg), _, _, rfl, rfl, ⟨by omega, by rw [List.length_map]; omega, by decide⟩, 1, (N : Int), by rw [List.length_map, ← hNN]; simp, by omega, ?_⟩
    refine for_range (lo := 1) (n := ((N : Int) - 1).toNat) (fun i σ H' => Same H H' ∧ ∃ (v2 : V) (y3 y4 y5 y6 y7 : Option V), σ = [some (.ref g), some (.int (c : Int)), some v2, y3, y4, y5, y6, y7] ∧
        ((v2 = .non ∧ ∀ j, 1 ≤ j → j ≤ i → ¬ (pick qs j).length ≤ c) ∨ ∃ a n, v2 = .ref a ∧ TrAt H' a qs (pick qs n) ∧ 1 ≤ n ∧ n ≤ i ∧ (pick qs n).length ≤ c ∧ ∀ j, 1 ≤ j → j ≤ i → (pick qs j).length ≤ c → lt3 (tri qs (pick qs j)) (tri qs (pick qs n)) = false))
      ⟨Same.refl _, .non, _, _, _, _, _, rfl, .inl ⟨rfl, fun j h1 h2 => by omega⟩⟩ ?_ ?_
    · rintro i σ Ha hi ⟨sa, v2, y3, y4, y5, y6, y7, rfl, hv⟩
      have hi : i + 1 < N := by omega
      have e1 : (1 : Int) + (i : Int) = ((i + 1 : Nat) : Int) := by omega
      rw [e1]
      generalize hx : i + 1 = x at *
      refine gn (σ' := [some (.ref g), some (.int (c : Int)), some v2, some (.int (x : Int)), y4, y5, y6, y7]) rfl ?_
      have hga := sa _ _ hg
      refine ⟨_, rfl, g, _, rfl, SqL.of hga, fun D nD => ?_⟩
      refine lc_it walk_enum (fun k H' => Same Ha H' ∧ H' D = some (.lst ((pick (qs.take k) x).map V.int))) ⟨same_new nD, by rw [List.take_zero]; exact upd_same⟩ (fun k H' _ h => SqL.of (h.1 _ _ hga)) ?_ ?_
      · rintro k z A1 A2 hk ⟨s1, eD⟩ ⟨T', x', y', rfl, nT, rfl, hx', hy'⟩
        have s2 := same_new (o := .tup [x', y']) nT
        have hT' : SqT K (upd A1 T' (.tup [x', y'])) T' [x', y'] := SqT.of upd_same
        generalize upd A1 T' (.tup [x', y']) = A2 at s2 hT' ⊢
        obtain rfl : x' = .int (k : Nat) := (Option.some.inj hx').symm
        rw [List.length_map] at hk
        have hy' : (qs.map V.int)[k]? = some y' := hy'
        obtain ⟨hk, rfl⟩ := int_of hy'
        refine ⟨T', _, rfl, hT', rfl, _, _, rfl, _, _, rfl, rfl, rfl, ?_⟩
        refine ⟨_, rfl, _, rfl, _, _, rfl, rfl, by omega, _, _, rfl, rfl, rfl, ?_⟩
        have ps := pick_snoc qs k x hk
        have eD2 := s2 _ _ eD
        refine ⟨_, rfl, ite2 (fun e => ?_) (fun e => ?_)⟩
        · have e3 : V.int (Builtin.bitAnd ((x : Int) / 2 ^ ((k : Int)).toNat) 1) = V.int 1 := of_decide_eq_true e
          rw [bit_eq] at e3
          have hb : x / 2 ^ k % 2 = 1 := by
            injection e3 with e3
            omega
          rw [if_pos hb] at ps
          refine ⟨_, rfl, _, eD2, ?_, same_at nD (s1.trans s2), ?_⟩
          · have := (pick_sub (qs.take k) x).length_le
            rw [List.length_take] at this
            rw [List.length_map, sizeLine_eq]
            omega
          · rw [upd_same, ps, List.map_append, at_get hk]
            rfl
        · have hb : ¬ x / 2 ^ k % 2 = 1 := fun z => e (decide_eq_true (by
            show V.int (Builtin.bitAnd ((x : Int) / 2 ^ ((k : Int)).toNat) 1) = V.int 1
            rw [bit_eq, z]
            rfl))
          rw [if_neg hb, List.append_nil] at ps
          exact ⟨s1.trans s2, by rw [ps]; exact eD2⟩
      · rintro Hb ⟨sb, eD⟩
        rw [List.length_map, List.take_length] at eD
        refine gn (σ' := [some (.ref g), some (.int (c : Int)), some v2, some (.int (x : Int)), some (.ref D), y5, y6, y7]) rfl ?_
        have psl := (pick_sub qs x).length_le
        refine ⟨_, rfl, D, _, rfl, .inl (SqL.of eD), _, rfl, _, _, rfl, rfl, ?_⟩
        rw [List.length_map]
        refine ⟨_, rfl, ite2 (fun e => ?_) (fun e => ?_)⟩
        · have hle : (pick qs x).length ≤ c := by
            have := of_decide_eq_true e
            omega
          have hne : pick qs x ≠ [] := pick_ne qs x (by omega) (by rw [hNN]; exact hi)
          refine ⟨_, rfl, _, rfl, g, D, qs, _, rfl, sb _ _ hga, eD, by omega, by omega, hne, fun Hc sc => ?_⟩
          have eDc := sc _ _ eD
          refine ⟨_, rfl, D, _, rfl, .inl (SqL.of eDc), _, rfl, small (by show 3 ≤ 5000; decide), fun t nt => ?_⟩
          rw [List.length_map]
          have sd := same_new (o := HO.tup [.int (cost qs (pick qs x)), .int ((pick qs x).length : Int), .ref D]) nt
          have ht : (upd Hc t (HO.tup [.int (cost qs (pick qs x)), .int ((pick qs x).length : Int), .ref D])) t = some (HO.tup [.int (cost qs (pick qs x)), .int ((pick qs x).length : Int), .ref D]) := upd_same
          generalize upd Hc t (HO.tup [.int (cost qs (pick qs x)), .int ((pick qs x).length : Int), .ref D]) = Hd at sd ht ⊢
          have htr : TrAt Hd t qs (pick qs x) := ⟨D, ht, sd _ _ eDc⟩
          refine gn (σ' := [some (.ref g), some (.int (c : Int)), some v2, some (.int (x : Int)), some (.ref D), some (.ref t), y6, y7]) rfl ?_
          have sad := sa.trans (sb.trans (sc.trans sd))
          have sbd := sb.trans (sc.trans sd)
          rcases hv with ⟨rfl, hno⟩ | ⟨a, n, rfl, ha, n1', n2', n3', n4'⟩
          · refine ⟨_, rfl, rfl, _, rfl, iteT (iteT ?_)⟩
            refine ⟨_, rfl, ?_⟩
            refine gn (σ' := [some (.ref g), some (.int (c : Int)), some (.ref t), some (.int (x : Int)), some (.ref D), some (.ref t), y6, y7]) rfl ?_
            refine ⟨sad, _, _, _, _, _, _, rfl, .inr ⟨t, x, rfl, htr, by omega, by omega, hle, fun j h1 h2 h3 => ?_⟩⟩
            by_cases ej : j = x
            · rw [ej]
              exact lt3_irr _
            · exact absurd h3 (hno j h1 (by omega))
          · have ha' := ha.same sbd
            refine ⟨_, rfl, rfl, _, rfl, iteF ?_⟩
            refine ⟨_, rfl, _, rfl, _, _, htr.dp, ha'.dp, tr_alike _ _ _, (fun z => by cases z), tr_depth _ _, ?_⟩
            rw [tr_lt]
            cases hlt : lt3 (tri qs (pick qs x)) (tri qs (pick qs n)) with
            | true =>
              refine ⟨_, rfl, iteT ?_⟩
              refine ⟨_, rfl, ?_⟩
              refine gn (σ' := [some (.ref g), some (.int (c : Int)), some (.ref t), some (.int (x : Int)), some (.ref D), some (.ref t), y6, y7]) rfl ?_
              refine ⟨sad, _, _, _, _, _, _, rfl, .inr ⟨t, x, rfl, htr, by omega, by omega, hle, fun j h1 h2 h3 => ?_⟩⟩
              by_cases ej : j = x
              · rw [ej]
                exact lt3_irr _
              · exact lt3_le_trans (lt3_anti hlt) (n4' j h1 (by omega) h3)
            | false =>
              refine ⟨_, rfl, iteF ?_⟩
              refine ⟨_, rfl, ?_⟩
              refine gn (σ' := [some (.ref g), some (.int (c : Int)), some (.ref a), some (.int (x : Int)), some (.ref D), some (.ref t), y6, y7]) rfl ?_
              refine ⟨sad, _, _, _, _, _, _, rfl, .inr ⟨a, n, rfl, ha', n1', by omega, n3', fun j h1 h2 h3 => ?_⟩⟩
              by_cases ej : j = x
              · rw [ej]
                exact hlt
              · exact n4' j h1 (by omega) h3
        · have hgt : ¬ (pick qs x).length ≤ c := fun z => e (decide_eq_true (by omega))
          refine tNextI ?_
          refine ⟨sa.trans sb, _, _, _, _, _, _, rfl, ?_⟩
          rcases hv with ⟨rfl, hno⟩ | ⟨a, n, rfl, ha, n1', n2', n3', n4'⟩
          · refine .inl ⟨rfl, fun j h1 h2 => ?_⟩
            by_cases ej : j = x
            · rw [ej]
              exact hgt
            · exact hno j h1 (by omega)
          · refine .inr ⟨a, n, rfl, ha.same sb, n1', by omega, n3', fun j h1 h2 h3 => ?_⟩
            by_cases ej : j = x
            · rw [ej] at h3
              exact absurd h3 hgt
            · exact n4' j h1 (by omega) h3
    · rintro σ Ha ⟨sa, v2, y3, y4, y5, y6, y7, rfl, hv⟩
      have en : ((N : Int) - 1).toNat = N - 1 := by omega
      rw [en] at hv
      rcases hv with ⟨rfl, hno⟩ | ⟨a, n, rfl, ⟨k, ha, hk⟩, n1', n2', n3', n4'⟩
      · exfalso
        refine hno 1 (Nat.le_refl _) (by omega) ?_
        match qs, n1 with
        | z :: r, _ =>
          have : ∀ l : List Int, pick l 0 = [] := fun l => by
            induction l with
            | nil => rfl
            | cons x r ih =>
              show [] ++ pick r (0 / 2) = []
              exact ih
          show ([z] ++ pick r (1 / 2)).length ≤ c
          rw [show 1 / 2 = 0 from rfl, this]
          exact c1
      · refine ⟨_, rfl, a, _, 0, _, rfl, rfl, SqT.of ha, atI_nat (j := 0) rfl, _, rfl, a, _, 2, _, rfl, rfl, SqT.of ha, atI_nat (j := 2) rfl, small (by show 2 ≤ 5000; decide), fun t nt => ?_⟩
        have st := same_new (o := .tup [.int (cost qs (pick qs n)), .ref k]) nt
        exact q _ t n (sa.trans st) ⟨k, upd_same, st _ _ hk⟩ n1' (by omega) n3' fun j h1 h2 h3 => n4' j h1 (by omega) h3
end
end Sp1

set_option Elab.async false
set_option linter.all false
set_option maxRecDepth 100000
set_option maxHeartbeats 4000000
namespace Sp1
open PySem PySem.Spec PyProof.Rows L2 Kp
abbrev k2 (a b : Nat) : List Key := [Sum.inl (a : Int), Sum.inl (b : Int)]
theorem k2_inj {a b a' b' : Nat} : k2 a b = k2 a' b' ↔ a = a' ∧ b = b' := by
  constructor
  · intro h
    injection h with h1 h2
    injection h2 with h2 _
    injection h1 with h1
    injection h2 with h2
    omega
  · rintro ⟨rfl, rfl⟩
    rfl
section
variable {P : Program} {w : World} {K : PySem.W.Frag} {mg : Str → Option Value} {base : Heap}
def sp_lparts : Sp := fun vs H Q _ => ∃ (g : Addr) (qs : List Int), vs = [.ref g] ∧ H g = some (.lst (qs.map V.int)) ∧ qs.length ≤ 60 ∧
  ∀ H' d (kvs : List (List Key × V)), Same H H' → H' d = some (.dT kvs) → (∀ a b, a ≤ b → b < qs.length → valV kvs (k2 a b) = some (.int (pt qs a b))) → Q (.ref d) H'
theorem ok__law_parts (T : KpF K mg) : FnOk P w K mg base CX0 1 T.f__law_parts T.fd__law_parts ["_law_queries"] sp_lparts := by
  refine T.D__law_parts.F.ok sc_l_parts (fun vs H Q E h => ?_) (fun cdv A outer s H vs Q E hr h => ?_)
  · obtain ⟨g, qs, rfl, _⟩ := h
    rfl
  · obtain ⟨g, qs, rfl, hg, n60, q⟩ := h
    have nd := sc_l_parts.nd
    refine ⟨_, (pss_cons (ps_set (i := 1) nd rfl (.inl rfl) pe_dnewT)
      (pss_cons (ps_for PassesOwn.never rfl (pi_range1 (by rfl) T.m_range (pa_cons (pe_callB call_len_seq (by rfl) T.m_len PySem.boot_len (pa_cons (pv 0) pa_nil)) pa_nil)) (pg_name (i := 2) nd rfl (.inl rfl))
      (pss_one (ps_for PassesOwn.never rfl (pi_range2 (by rfl) T.m_range (pa_cons (pv 2) (pa_cons (pe_callB call_len_seq (by rfl) T.m_len PySem.boot_len (pa_cons (pv 0) pa_nil)) pa_nil))) (pg_name (i := 3) nd rfl (.inl rfl))
        (pss_cons (ps_set (i := 4) nd rfl (.inr rfl) (pe_ix (r := rIxL K) ix_list (pv 0) (pe_op op_fdiv (pe_op op_add (pv 2) (pv 3)) pe_int) (fun _ _ => rfl)))
          (pss_one (ps_dput (hu_of hr) (pv 1) (pe_tup (pa_cons (pv 2) (pa_cons (pv 3) pa_nil))) (pe_callB (cr_sum rfl) (by rfl) T.m_sum (by decide +kernel) (pa_cons (pe_lc (own := [("_law_query", 5)]) (g := (gName 5)) (tt := tYes) rfl nd (pi_list (pe_slice sl_list (pv 0) (po_some (pv 2)) (po_some (pe_op op_add (pv 3) pe_int)))) (blkOk_by (N := N_l_parts) (sc := defScope s_l_parts) (by decide +kernel)) (fun _ _ _ _ _ => (pg_name (i := 5) nd rfl (.inl rfl))) (fun _ _ _ _ _ => pts_nil) (fun _ _ _ _ _ => (pe_callB call_abs (by rfl) T.m_abs (by decide +kernel) (pa_cons (pe_op op_sub (pv 5) (pv 4)) pa_nil)))) pa_nil)) rfl))))))
      (pss_one (ps_ret (pv 1))))), ?_⟩
    refine fun d nd' => ?_
    have s1 := same_new (o := .dT []) nd'
    have hd1 : (upd H d (.dT [])) d = some (.dT []) := upd_same
    generalize upd H d (.dT []) = H1 at s1 hd1 ⊢
    refine gn (σ' := [some (.ref g), some (.ref d), none, none, none, none]) rfl ?_
    have hg1 := s1 _ _ hg
    refine ⟨_, rfl, g, _, rfl, .inl (SqL.of hg1), (qs.length : Int), by rw [List.length_map], by omega, by omega, ?_⟩
    refine for_range (lo := 0) (n := ((qs.length : Int)).toNat) (fun i σ H' => (∀ c o, c ≠ d → H1 c = some o → H' c = some o) ∧ ∃ (kvs : List (List Key × V)) (y2 y3 y4 y5 : Option V), σ = [some (.ref g), some (.ref d), y2, y3, y4, y5] ∧ H' d = some (.dT kvs) ∧ kvs.length ≤ 60 * i ∧
        (∀ a b, a ≤ b → b < qs.length → a < i → valV kvs (k2 a b) = some (.int (pt qs a b))) ∧ (∀ a b, i ≤ a → valV kvs (k2 a b) = none))
      ⟨(fun c o _ e => e), [], _, _, _, _, rfl, hd1, by simp, (fun a b _ _ h => by omega), fun a b _ => rfl⟩ ?_ ?_
    · rintro i σ Ha hi ⟨ka, kvs, y2, y3, y4, y5, rfl, hda, kl, kv1, kv2⟩
      have hi : i < qs.length := hi
      rw [Int.zero_add]
      have gd : g ≠ d := fun z => by rw [z, hd1] at hg1; cases hg1
      have hga := ka _ _ gd hg1
      refine gn (σ' := [some (.ref g), some (.ref d), some (.int (i : Int)), y3, y4, y5]) rfl ?_
      refine ⟨_, rfl, _, rfl, g, _, rfl, .inl (SqL.of hga), (i : Int), (qs.length : Int), by rw [List.length_map], by omega, ?_⟩
      refine for_range (lo := (i : Int)) (n := ((qs.length : Int) - (i : Int)).toNat) (fun j σ H' => (∀ c o, c ≠ d → H1 c = some o → H' c = some o) ∧ ∃ (kvs : List (List Key × V)) (y3 y4 y5 : Option V), σ = [some (.ref g), some (.ref d), some (.int (i : Int)), y3, y4, y5] ∧ H' d = some (.dT kvs) ∧ kvs.length ≤ 60 * i + j ∧
          (∀ a b, a ≤ b → b < qs.length → (a < i ∨ (a = i ∧ b < i + j)) → valV kvs (k2 a b) = some (.int (pt qs a b))) ∧ (∀ a b, (i < a ∨ (a = i ∧ i + j ≤ b)) → valV kvs (k2 a b) = none))
        ⟨ka, kvs, _, _, _, rfl, hda, by omega, (fun a b h1 h2 h3 => kv1 a b h1 h2 (by omega)), fun a b h => kv2 a b (by omega)⟩ ?_ ?_
      · rintro j σ Hb hj ⟨kb, kvs, y3, y4, y5, rfl, hdb, kl, kv1, kv2⟩
        have hj : i + j < qs.length := by omega
        have e1 : (i : Int) + (j : Int) = ((i + j : Nat) : Int) := by omega
        rw [e1]
        generalize hb : i + j = b at *
        have hgb := kb _ _ gd hg1
        refine gn (σ' := [some (.ref g), some (.ref d), some (.int (i : Int)), some (.int (b : Int)), y4, y5]) rfl ?_
        have em : ((i : Int) + (b : Int)) / 2 = (((i + b) / 2 : Nat) : Int) := by omega
        have hm : (i + b) / 2 < qs.length := by omega
        refine ⟨_, rfl, _, rfl, _, rfl, _, _, rfl, rfl, _, _, rfl, rfl, ⟨by decide, by decide⟩, g, _, _, _, rfl, rfl, SqL.of hgb, by rw [em]; exact at_v hm, ?_⟩
        refine gn (σ' := [some (.ref g), some (.ref d), some (.int (i : Int)), some (.int (b : Int)), some (.int (at_ qs ((i + b) / 2))), y5]) rfl ?_
        refine ⟨_, rfl, _, rfl, _, rfl, _, rfl, _, _, rfl, rfl, _, rfl, g, _, rfl, SqL.of hgb, fun l nl => ?_⟩
        have e2 : (b : Int) + 1 = ((b + 1 : Nat) : Int) := by omega
        rw [e2, cut_seg (by rw [List.length_map]; omega) (by rw [List.length_map]; omega), map_seg]
        have hsl : ((qs.take (b + 1)).drop i).length ≤ 1000 := by
          rw [List.length_drop, List.length_take]
          omega
        have hpt : (((qs.take (b + 1)).drop i).map fun x => ((x - at_ qs ((i + b) / 2)).natAbs : Int)).sum = pt qs i b := sm_seg _ (by omega) (by omega)
        generalize (qs.take (b + 1)).drop i = us at hsl hpt ⊢
        have sc := same_new (o := HO.lst (us.map V.int)) nl
        have hl : (upd Hb l (HO.lst (us.map V.int))) l = some (HO.lst (us.map V.int)) := upd_same
        generalize upd Hb l (HO.lst (us.map V.int)) = Hc at sc hl ⊢
        refine ⟨l, rfl, ⟨_, SqL.of hl⟩, fun D nD => ?_⟩
        refine lc_it (walk_list (K := K) (a := l) (xs := us.map V.int)) (AccI Hc D us fun x => ((x - at_ qs ((i + b) / 2)).natAbs : Int)) (AccI.start nD) (fun _ H' _ h => Same.seq h.1 (SqL.of hl)) ?_ ?_
        · rintro k x H3 H4 hk ac ⟨rfl, hx⟩
          obtain ⟨hk, rfl⟩ := int_of hx
          refine ⟨rfl, ?_⟩
          dsimp only [tYes]
          refine iteT ?_
          refine ⟨_, rfl, _, rfl, _, _, rfl, rfl, _, rfl, ac.turn nD (Same.refl _) hk hsl ?_⟩
          congr 1
          split <;> omega
        · intro H3 ac
          obtain ⟨s3, hD⟩ := ac.done
          refine ⟨D, _, rfl, SqL.of hD, ?_⟩
          rw [hpt]
          have s3' := sc.trans s3
          have hd3 := s3' _ _ hdb
          refine ⟨_, rfl, _, rfl, _, rfl, small (by show 2 ≤ 5000; decide), fun tk ntk => ?_⟩
          have s4 := same_new (o := HO.tup [.int (i : Int), .int (b : Int)]) ntk
          have htk : (upd H3 tk (HO.tup [.int (i : Int), .int (b : Int)])) tk = some (HO.tup [.int (i : Int), .int (b : Int)]) := upd_same
          generalize upd H3 tk (HO.tup [.int (i : Int), .int (b : Int)]) = H4 at s4 htk ⊢
          have hd4 := s4 _ _ hd3
          refine ⟨d, _, rfl, DPut.t (k := k2 i b) hd4 htk (by rw [sizeLine_eq]; omega), ?_⟩
          have hnone : valV kvs (k2 i b) = none := kv2 i b (by omega)
          rw [putK_new _ hnone]
          have hval : ∀ a' b', valV (kvs ++ [(k2 i b, V.int (pt qs i b))]) (k2 a' b') = if k2 a' b' = k2 i b then some (V.int (pt qs i b)) else valV kvs (k2 a' b') := fun a' b' => by
            rw [← putK_new _ hnone, valV_put]
          refine ⟨fun c o hc e => by rw [upd_ne hc]; exact s4 _ _ (s3' _ _ (kb c o hc e)), _, _, _, _, rfl, upd_same, by rw [List.length_append]; show _ + 1 ≤ _; omega, fun a' b' h1 h2 h3 => ?_, fun a' b' h3 => ?_⟩
          · rw [hval]
            by_cases e : k2 a' b' = k2 i b
            · obtain ⟨rfl, rfl⟩ := k2_inj.mp e
              rw [if_pos rfl]
            · rw [if_neg e]
              refine kv1 a' b' h1 h2 ?_
              by_cases ea : a' = i
              · have : b' ≠ b := fun z => e (k2_inj.mpr ⟨ea, z⟩)
                omega
              · omega
          · rw [hval, if_neg (fun e => by obtain ⟨q1, q2⟩ := k2_inj.mp e; omega)]
            exact kv2 a' b' (by omega)
      · rintro σ Hb ⟨kb, kvs, y3, y4, y5, rfl, hdb, kl, kv1, kv2⟩
        have en : ((qs.length : Int) - (i : Int)).toNat = qs.length - i := by omega
        rw [en] at kl kv1 kv2
        exact ⟨kb, kvs, _, _, _, _, rfl, hdb, by omega, (fun a b h1 h2 h3 => kv1 a b h1 h2 (by omega)), fun a b h => kv2 a b (by omega)⟩
    · rintro σ Ha ⟨ka, kvs, y2, y3, y4, y5, rfl, hda, kl, kv1, kv2⟩
      exact ⟨_, rfl, q _ d kvs (fun c o e => ka c o (fun z => by rw [z, nd'] at e; cases e) (s1 c o e)) hda fun a b h1 h2 => kv1 a b h1 h2 (by show a < qs.length; omega)⟩
end
end Sp1

set_option Elab.async false
set_option linter.all false
set_option maxRecDepth 100000
set_option maxHeartbeats 4000000
namespace Sp1
open PySem PySem.Spec PyProof.Rows L2 Kp
theorem ixnat {n j : Nat} (hj : j < n) : ixN n (j : Int) = some j := by
  unfold ixN
  rw [if_pos (by omega), if_pos (by omega)]
  simp
theorem at_last {xs : List V} {z : V} (h : xs[xs.length - 1]? = some z) : atI xs (-1) = some z := by
  have hl : 0 < xs.length := by
    cases xs with
    | nil => simp at h
    | cons _ _ => simp
  have e : xs = xs.dropLast ++ [z] := by
    have h2 := List.dropLast_concat_getLast (l := xs) (List.ne_nil_of_length_pos hl)
    rw [List.getLast_eq_getElem] at h2
    rw [List.getElem?_eq_getElem (by omega)] at h
    injection h with h
    rw [h] at h2
    exact h2.symm
  rw [e]
  exact atI_last _ _
theorem set_range {n b : Nat} {F G : Nat → V} {v : V} (hb : b < n) (h1 : G b = v) (h2 : ∀ x, x ≠ b → G x = F x) : ((List.range n).map F).set b v = (List.range n).map G := by
  refine List.ext_getElem (by simp) fun i q1 q2 => ?_
  rw [List.getElem_set]
  simp only [List.getElem_map, List.getElem_range]
  by_cases e : b = i
  · rw [if_pos e, ← e, h1]
  · rw [if_neg e, h2 i fun z => e z.symm]
section
variable {P : Program} {w : World} {K : PySem.W.Frag} {mg : Str → Option Value} {base : Heap}
def sp_lleast : Sp := fun vs H Q _ => ∃ (g : Addr) (qs : List Int) (c : Nat), vs = [.ref g, .int (c : Int)] ∧ H g = some (.lst (qs.map V.int)) ∧ qs.Pairwise (· < ·) ∧ 1 ≤ qs.length ∧ qs.length ≤ 60 ∧ 1 ≤ c ∧ c ≤ 6 ∧
  ∀ H' B, Same H H' → Tbl qs (c - 1) B → Q (.int (B (qs.length - 1))) H'
theorem ok__law_least (T : KpF K mg) : FnOk P w K mg base CX0 2 T.f__law_least T.fd__law_least ["_law_queries", "_law_count"] sp_lleast := by
  refine T.D__law_least.F.ok sc_l_least (fun vs H Q E h => ?_) (fun cdv A outer s H vs Q E hr h => ?_)
  · obtain ⟨g, qs, c, rfl, _⟩ := h
    rfl
  · obtain ⟨g, qs, c, rfl, hg, pw, n1, n60, c1, c6, q⟩ := h
    have nd := sc_l_least.nd
    refine ⟨_, (pss_cons (ps_asg (pe_tup (pa_cons (pe_call ((ok__law_parts T).mono (by decide)) hr (by rfl) T.D__law_parts.g T.D__law_parts.kp T.D__law_parts.b .nil pass0 (pa_cons (pv 0) pa_nil)) (pa_cons (pe_callB call_len_seq (by rfl) T.m_len PySem.boot_len (pa_cons (pv 0) pa_nil)) pa_nil))) (pg_tup rfl (pgs_cons (pg_name (i := 2) nd rfl (.inr rfl)) (pgs_cons (pg_name (i := 3) nd rfl (.inl rfl)) pgs_nil))))
      (pss_cons (ps_set (i := 4) nd rfl (.inr rfl) (pe_lc (own := [("_law_last", 7)]) (g := (gName 7)) (tt := tYes) rfl nd (pi_range1 (by rfl) T.m_range (pa_cons (pv 3) pa_nil)) (blkOk_by (N := N_l_least) (sc := defScope s_l_least) (by decide +kernel)) (fun _ _ _ _ _ => (pg_name (i := 7) nd rfl (.inl rfl))) (fun _ _ _ _ _ => pts_nil) (fun _ _ _ _ _ => (pe_dget (hu_of hr) (pv 2) (pe_tup (pa_cons pe_int (pa_cons (pv 7) pa_nil))) (fun _ _ => rfl)))))
      (pss_cons (ps_for PassesOwn.never rfl (pi_range1 (by rfl) T.m_range (pa_cons (pe_op op_sub (pv 1) pe_int) pa_nil)) (pg_name (i := 5) nd rfl (.inl rfl))
      (pss_cons (ps_set (i := 6) nd rfl (.inl rfl) (pe_callTy call_list_of (by rfl) T.m_list (by decide +kernel) (pa_cons (pv 4) pa_nil)))
        (pss_cons (ps_for PassesOwn.never rfl (pi_range2 (by rfl) T.m_range (pa_cons pe_int (pa_cons (pv 3) pa_nil))) (pg_name (i := 7) nd rfl (.inr rfl))
        (pss_cons (ps_setLc (i := 8) (own := [("_law_cut", 9)]) (g := (gName 9)) (tt := tYes) rfl nd rfl rfl (sw_true rfl rfl rfl (by decide +kernel)) (pi_range1 (by rfl) T.m_range (pa_cons (pv 7) pa_nil)) (blkOk_by (N := N_l_least) (sc := defScope s_l_least) (by decide +kernel)) (fun _ _ _ _ _ => (pg_name (i := 9) nd rfl (.inl rfl))) (fun _ _ _ _ _ => pts_nil) (fun _ _ _ _ _ => (pe_op op_add (pe_ix (r := rIxL K) ix_list (pv 4) (pv 9) (fun _ _ => rfl)) (pe_dget (hu_of hr) (pv 2) (pe_tup (pa_cons (pe_op op_add (pv 9) pe_int) (pa_cons (pv 7) pa_nil))) (fun _ _ => rfl)))))
          (pss_one (ps_asg (pe_callB (cr_min rfl) (by rfl) T.m_min (by decide +kernel) (pa_cons (pe_op op_cat (pe_lst (pa_cons (pe_ix (r := rIxL K) ix_list (pv 4) (pv 7) (fun _ _ => rfl)) pa_nil)) (pv 8)) pa_nil)) (pg_sub (pv 6) (pv 7) set_list)))))
        (pss_one (ps_set (i := 4) nd rfl (.inr rfl) (pv 6))))))
      (pss_one (ps_ret (pe_ix (r := rIxL K) ix_list (pv 4) (pe_un un_neg pe_int) (fun _ _ => rfl))))))), ?_⟩
    refine ⟨_, rfl, g, qs, rfl, hg, n60, fun H1 d kvs s1 hd hkv => ?_⟩
    have hg1 := s1 _ _ hg
    refine ⟨_, rfl, g, _, rfl, .inl (SqL.of hg1), small (by show 2 ≤ 5000; decide), fun t nt => ?_⟩
    rw [List.length_map]
    have s2 := same_new (o := HO.tup [.ref d, .int (qs.length : Int)]) nt
    have ht : (upd H1 t (HO.tup [.ref d, .int (qs.length : Int)])) t = some (HO.tup [.ref d, .int (qs.length : Int)]) := upd_same
    generalize upd H1 t (HO.tup [.ref d, .int (qs.length : Int)]) = H2 at s2 ht ⊢
    refine ⟨t, _, rfl, SqT.of ht, rfl, _, _, rfl, _, _, rfl, rfl, ?_⟩
    dsimp only [List.set]
    have hd2 := s2 _ _ hd
    have s02 := s1.trans s2
    -- the first row
    refine ⟨_, rfl, (qs.length : Int), rfl, by omega, by omega, fun D nD => ?_⟩
    refine lc_it (walk_range (lo := 0) (n := ((qs.length : Int)).toNat)) (Acc H2 D fun j => V.int (pt qs 0 j)) (Acc.start nD) (fun _ _ _ _ => trivial) ?_ ?_
    · rintro j y Hc Hd hj ac ⟨rfl, rfl⟩
      have hj : j < qs.length := hj
      have ez : (0 : Int) + (j : Int) = (j : Int) := Int.zero_add _
      simp only [ez]
      refine ⟨rfl, ?_⟩
      dsimp only [tYes]
      refine iteT ?_
      refine ⟨_, rfl, _, rfl, small (by show 2 ≤ 5000; decide), fun tk ntk => ?_⟩
      have se := same_new (o := HO.tup [.int 0, .int (j : Int)]) ntk
      have htk : (upd Hd tk (HO.tup [.int 0, .int (j : Int)])) tk = some (HO.tup [.int 0, .int (j : Int)]) := upd_same
      generalize upd Hd tk (HO.tup [.int 0, .int (j : Int)]) = He at se htk ⊢
      have get := DGet.t (k := k2 0 j) (se _ _ (ac.1 _ _ hd2)) htk
      rw [hkv 0 j (Nat.zero_le _) hj] at get
      exact ⟨d, _, rfl, get, ac.turn nD se (by omega) rfl⟩
    rintro H3 ⟨s3, eD⟩
    have en : ((qs.length : Int)).toNat = qs.length := rfl
    rw [en] at eD
    refine gn (σ' := [some (.ref g), some (.int (c : Int)), some (.ref d), some (.int (qs.length : Int)), some (.ref D), none, none, none, none, none]) rfl ?_
    have hd3 := s3 _ _ hd2
    have s03 := s02.trans s3
    -- the turns
    have ec : (c : Int) - 1 = ((c - 1 : Nat) : Int) := by omega
    refine ⟨_, rfl, _, _, rfl, rfl, ((c - 1 : Nat) : Int), by rw [← ec], by omega, by omega, ?_⟩
    refine for_range (lo := 0) (n := (((c - 1 : Nat) : Int)).toNat) (fun i σ H' => Same H3 H' ∧ ∃ (bs : Addr) (B : Nat → Int) (y5 y6 y7 y8 y9 : Option V), σ = [some (.ref g), some (.int (c : Int)), some (.ref d), some (.int (qs.length : Int)), some (.ref bs), y5, y6, y7, y8, y9] ∧ H' bs = some (.lst ((List.range qs.length).map fun b => V.int (B b))) ∧ Tbl qs i B)
      ⟨Same.refl _, D, pt qs 0, _, _, _, _, _, rfl, eD, tbl_zero pw⟩ ?_ ?_
    · rintro i σ Ha hi ⟨sa, bs, B, y5, y6, y7, y8, y9, rfl, hbs, tb⟩
      refine gn (σ' := [some (.ref g), some (.int (c : Int)), some (.ref d), some (.int (qs.length : Int)), some (.ref bs), some (.int (0 + (i : Int))), y6, y7, y8, y9]) rfl ?_
      refine ⟨_, rfl, bs, _, rfl, .inl (SqL.of hbs), fun L nL => ?_⟩
      have sb := same_new (o := HO.lst ((List.range qs.length).map fun b => V.int (B b))) nL
      have hL : (upd Ha L (HO.lst ((List.range qs.length).map fun b => V.int (B b)))) L = some (HO.lst ((List.range qs.length).map fun b => V.int (B b))) := upd_same
      generalize upd Ha L (HO.lst ((List.range qs.length).map fun b => V.int (B b))) = Hb at sb hL ⊢
      refine gn (σ' := [some (.ref g), some (.int (c : Int)), some (.ref d), some (.int (qs.length : Int)), some (.ref bs), some (.int (0 + (i : Int))), some (.ref L), y7, y8, y9]) rfl ?_
      have Lbs : L ≠ bs := fun z => by rw [z, hbs] at nL; cases nL
      have dL : d ≠ L := fun z => by rw [← z, sa _ _ hd3] at nL; cases nL
      have hbsb := sb _ _ hbs
      have hdb := sb _ _ (sa _ _ hd3)
      refine ⟨_, rfl, 1, (qs.length : Int), rfl, by omega, ?_⟩
      refine for_range (lo := 1) (n := ((qs.length : Int) - 1).toNat) (fun j σ H' => (∀ c o, c ≠ L → Hb c = some o → H' c = some o) ∧ ∃ (B' : Nat → Int) (y7 y8 y9 : Option V), σ = [some (.ref g), some (.int (c : Int)), some (.ref d), some (.int (qs.length : Int)), some (.ref bs), some (.int (0 + (i : Int))), some (.ref L), y7, y8, y9] ∧
          H' L = some (.lst ((List.range qs.length).map fun b => V.int (if b < 1 + j then B' b else B b))) ∧ B' 0 = B 0 ∧
          ∀ b, 1 ≤ b → b < 1 + j → B' b ≤ B b ∧ (∀ c, c < b → B' b ≤ B c + pt qs (c + 1) b) ∧ (B' b = B b ∨ ∃ c, c < b ∧ B' b = B c + pt qs (c + 1) b))
        ⟨(fun c o _ e => e), B, _, _, _, rfl, by rw [hL]; congr 3; funext b; split <;> rfl, rfl, fun b h1 h2 => by omega⟩ ?_ ?_
      · rintro j σ Hc hj ⟨kc, B', y7, y8, y9, rfl, hLc, hB0, hB'⟩
        have hj : 1 + j < qs.length := by omega
        have e1 : (1 : Int) + (j : Int) = ((1 + j : Nat) : Int) := by omega
        rw [e1]
        generalize hb : 1 + j = b at *
        refine gn (σ' := [some (.ref g), some (.int (c : Int)), some (.ref d), some (.int (qs.length : Int)), some (.ref bs), some (.int (0 + (i : Int))), some (.ref L), some (.int (b : Int)), y8, y9]) rfl ?_
        have hbsc := kc _ _ Lbs.symm hbsb
        have hdc := kc _ _ dL hdb
        refine ⟨_, rfl, (b : Int), rfl, by omega, by omega, fun F nF => ?_⟩
        refine lc_it (walk_range (lo := 0) (n := ((b : Int)).toNat)) (Acc Hc F fun x => V.int (B x + pt qs (x + 1) b)) (Acc.start nF) (fun _ _ _ _ => trivial) ?_ ?_
        · rintro x y He Hf hx ac ⟨rfl, rfl⟩
          have hx : x < b := hx
          have ez : (0 : Int) + (x : Int) = (x : Int) := Int.zero_add _
          simp only [ez]
          refine ⟨rfl, ?_⟩
          dsimp only [tYes]
          refine iteT ?_
          refine ⟨_, rfl, _, rfl, bs, _, _, _, rfl, rfl, SqL.of (ac.1 _ _ hbsc), atI_nat (j := x) (by rw [List.getElem?_map, List.getElem?_range (by omega)]; rfl), ?_⟩
          refine ⟨_, rfl, _, rfl, _, _, rfl, rfl, _, rfl, small (by show 2 ≤ 5000; decide), fun tk ntk => ?_⟩
          have ex : (x : Int) + 1 = ((x + 1 : Nat) : Int) := by omega
          simp only [ex]
          have sh := same_new (o := HO.tup [.int ((x + 1 : Nat) : Int), .int (b : Int)]) ntk
          have htk : (upd Hf tk (HO.tup [.int ((x + 1 : Nat) : Int), .int (b : Int)])) tk = some (HO.tup [.int ((x + 1 : Nat) : Int), .int (b : Int)]) := upd_same
          generalize upd Hf tk (HO.tup [.int ((x + 1 : Nat) : Int), .int (b : Int)]) = Hh at sh htk ⊢
          have get := DGet.t (k := k2 (x + 1) b) (sh _ _ (ac.1 _ _ hdc)) htk
          rw [hkv (x + 1) b (by omega) hj] at get
          exact ⟨d, _, rfl, get, _, _, rfl, rfl, ac.turn nF sh (by omega) rfl⟩
        · rintro He ⟨se, eF⟩
          have enb : ((b : Int)).toNat = b := rfl
          rw [enb] at eF
          refine gn (σ' := [some (.ref g), some (.int (c : Int)), some (.ref d), some (.int (qs.length : Int)), some (.ref bs), some (.int (0 + (i : Int))), some (.ref L), some (.int (b : Int)), some (.ref F), y9]) rfl ?_
          have hbse := se _ _ hbsc
          refine ⟨_, rfl, _, rfl, bs, _, _, _, rfl, rfl, SqL.of hbse, atI_nat (j := b) (by rw [List.getElem?_map, List.getElem?_range hj]; rfl), small (by show 1 ≤ 5000; decide), fun l1 nl1 => ?_⟩
          have sf := same_new (o := HO.lst [.int (B b)]) nl1
          have hl1 : (upd He l1 (HO.lst [.int (B b)])) l1 = some (HO.lst [.int (B b)]) := upd_same
          generalize upd He l1 (HO.lst [.int (B b)]) = Hf at sf hl1 ⊢
          refine ⟨_, rfl, l1, F, _, _, rfl, rfl, hl1, sf _ _ eF, by rw [List.length_map, List.length_range, sizeLine_eq]; show 1 + b ≤ _; omega, fun l2 nl2 => ?_⟩
          have sg := same_new (o := HO.lst ([V.int (B b)] ++ (List.range b).map fun x => V.int (B x + pt qs (x + 1) b))) nl2
          have hl2 : (upd Hf l2 (HO.lst ([V.int (B b)] ++ (List.range b).map fun x => V.int (B x + pt qs (x + 1) b)))) l2 = some (HO.lst ([V.int (B b)] ++ (List.range b).map fun x => V.int (B x + pt qs (x + 1) b))) := upd_same
          generalize upd Hf l2 (HO.lst ([V.int (B b)] ++ (List.range b).map fun x => V.int (B x + pt qs (x + 1) b))) = Hg at sg hl2 ⊢
          have hl2' : Hg l2 = some (.lst ((B b :: (List.range b).map fun x => B x + pt qs (x + 1) b).map V.int)) := by
            rw [hl2, List.map_cons, List.map_map]
            rfl
          refine ⟨l2, _, rfl, SqL.of hl2', by simp, fun m hm hle => ?_⟩
          have seg := se.trans (sf.trans sg)
          refine ⟨_, rfl, _, rfl, L, _, _, b, rfl, rfl, seg _ _ hLc, by rw [List.length_map, List.length_range]; exact ixnat hj, ?_⟩
          refine ⟨fun c o hc e => by rw [upd_ne hc]; exact seg _ _ (kc c o hc e), fun x => if x = b then m else B' x, _, _, _, rfl, ?_, ?_, fun b' h1 h2 => ?_⟩
          · rw [upd_same]
            congr 2
            refine set_range hj ?_ fun x hx => ?_
            · dsimp only
              rw [if_pos (by omega), if_pos rfl]
            · dsimp only
              rw [if_neg hx]
              by_cases q : x < b
              · rw [if_pos q, if_pos (by omega)]
              · rw [if_neg q, if_neg (by omega)]
          · dsimp only
            rw [if_neg (by omega)]
            exact hB0
          · dsimp only
            by_cases eb : b' = b
            · subst eb
              rw [if_pos rfl]
              refine ⟨hle _ List.mem_cons_self, fun c hc => hle _ (List.mem_cons_of_mem _ (List.mem_map.mpr ⟨c, List.mem_range.mpr hc, rfl⟩)), ?_⟩
              rcases List.mem_cons.mp hm with hm | hm
              · exact .inl hm
              · obtain ⟨c, hc, e⟩ := List.mem_map.mp hm
                exact .inr ⟨c, List.mem_range.mp hc, e.symm⟩
            · rw [if_neg eb]
              exact hB' b' h1 (by omega)
      · rintro σ Hc ⟨kc, B', y7, y8, y9, rfl, hLc, hB0, hB'⟩
        have enn : 1 + ((qs.length : Int) - 1).toNat = qs.length := by omega
        rw [enn] at hLc hB'
        refine ⟨_, rfl, ?_⟩
        refine gn (σ' := [some (.ref g), some (.int (c : Int)), some (.ref d), some (.int (qs.length : Int)), some (.ref L), some (.int (0 + (i : Int))), some (.ref L), y7, y8, y9]) rfl ?_
        refine ⟨fun c o e => kc c o (fun z => by have e' := sa _ _ e; rw [z, nL] at e'; cases e') (sb _ _ (sa _ _ e)), L, B', _, _, _, _, _, rfl, ?_, tbl_step pw tb hB0 hB'⟩
        rw [hLc]
        congr 2
        refine List.map_congr_left fun x hx => ?_
        rw [if_pos (List.mem_range.mp hx)]
    · rintro σ Ha ⟨sa, bs, B, y5, y6, y7, y8, y9, rfl, hbs, tb⟩
      have en2 : (((c - 1 : Nat) : Int)).toNat = c - 1 := rfl
      rw [en2] at tb
      refine ⟨_, rfl, _, rfl, bs, _, _, _, rfl, rfl, SqL.of hbs, at_last (z := .int (B (qs.length - 1))) (by rw [List.length_map, List.length_range, List.getElem?_map, List.getElem?_range (by omega)]; rfl), ?_⟩
      exact q _ B (s03.trans sa) tb
end
end Sp1

set_option Elab.async false
set_option linter.all false
set_option maxRecDepth 100000
set_option maxHeartbeats 4000000
namespace Sp1
open PySem PySem.Spec PyProof.Rows L2 Kp
theorem asc_ext : ∀ {a b : List Int}, a.Pairwise (· < ·) → b.Pairwise (· < ·) → (∀ x, x ∈ a ↔ x ∈ b) → a = b
  | [], [], _, _, _ => rfl
  | [], y :: b, _, _, h => by
    have := (h y).mpr List.mem_cons_self
    cases this
  | x :: a, [], _, _, h => by
    have := (h x).mp List.mem_cons_self
    cases this
  | x :: a, y :: b, ha, hb, h => by
    obtain ⟨a1, a2⟩ := List.pairwise_cons.mp ha
    obtain ⟨b1, b2⟩ := List.pairwise_cons.mp hb
    have exy : x = y := by
      rcases List.mem_cons.mp ((h x).mp List.mem_cons_self) with e | hx
      · exact e
      · rcases List.mem_cons.mp ((h y).mpr List.mem_cons_self) with e | hy
        · exact e.symm
        · have := a1 y hy
          have := b1 x hx
          omega
    subst exy
    congr 1
    refine asc_ext a2 b2 fun z => ?_
    constructor
    · intro hz
      rcases List.mem_cons.mp ((h z).mp (List.mem_cons_of_mem _ hz)) with e | hz'
      · have := a1 z hz
        omega
      · exact hz'
    · intro hz
      rcases List.mem_cons.mp ((h z).mpr (List.mem_cons_of_mem _ hz)) with e | hz'
      · have := b1 z hz
        omega
      · exact hz'
theorem sh_ints (ns : List Int) : SeqAt.shaped (.list (ns.map PyData.int)) = true := Pg.shaped_list (fun d hd => by
  obtain ⟨i, _, rfl⟩ := List.mem_map.mp hd
  rfl) fun d hd => by
  obtain ⟨i, _, rfl⟩ := List.mem_map.mp hd
  simp only [PyData.depth]
  omega
theorem dp_il {K : PySem.W.Frag} {H : Hp} {a : Addr} {ns : List Int} (h : H a = some (.lst (ns.map V.int))) : Dp K H (.ref a) (.list (ns.map PyData.int)) := .lst (SqL.of h) (dpAll_ints' _)
theorem inV_int {x : Int} {qs : List Int} (h : x ∈ qs) : inV (.int x) (qs.map V.int) = true := by
  unfold inV
  rw [List.any_eq_true]
  refine ⟨.int x, List.mem_map.mpr ⟨x, h, rfl⟩, ?_⟩
  show (x == x) = true
  simp
theorem flat_ints (qs : List Int) : (qs.map V.int).all flatV = true := List.all_eq_true.mpr fun z hz => by
  obtain ⟨y, _, rfl⟩ := List.mem_map.mp hz
  rfl
section
variable {P : Program} {w : World} {K : PySem.W.Frag} {mg : Str → Option Value} {base : Heap}
def sp_many : Sp := fun vs H Q _ => ∃ (p : Addr), vs = [.ref p] ∧ PoolAt H p ∧ ∀ H', SX p H H' → PoolAt H' p → Q (.bl true) H'
theorem ok__law_many_right (T : KpF K mg) : FnOk P w K mg base CX0 5 T.f__law_many_right T.fd__law_many_right ["_law_stream_here"] sp_many := by
  refine T.D__law_many_right.F.ok sc_l_many_right (fun vs H Q E h => ?_) (fun cdv A outer s H vs Q E hr h => ?_)
  · obtain ⟨p, rfl, _⟩ := h
    rfl
  · obtain ⟨p, rfl, hp, q⟩ := h
    have nd := sc_l_many_right.nd
    refine ⟨_, (pss_cons (ps_set (i := 1) nd rfl (.inr rfl) (pe_call ((ok_choose (k := 1) T.D__law_choose T.D__law_draw (ok_draw (k := 0) T.D__law_draw) T.m_len).mono (by decide)) hr (by rfl) T.D__law_choose.g T.D__law_choose.kp T.D__law_choose.b .nil pass0 (pa_cons (pv 0) (pa_cons (pe_lst (pa_cons pe_int (pa_cons (pe_op op_pow pe_int pe_int) pa_nil))) pa_nil))))
      (pss_cons (ps_set (i := 2) nd rfl (.inr rfl) (pe_callB (r := rSortedSet w) (cr_sortedSet rfl) (by rfl) T.m_sorted (by decide +kernel) (pa_cons (pe_callTy (r := rSetI K w) (cr_setI rfl) (by rfl) T.m_set (by decide +kernel) (pa_cons (pe_lc (own := [("_law_turn", 7)]) (g := (gName 7)) (tt := tYes) rfl nd (pi_range1 (by rfl) T.m_range (pa_cons (pe_op op_add pe_int (pe_call ((ok_draw (k := 0) T.D__law_draw).mono (by decide)) hr (by rfl) T.D__law_draw.g T.D__law_draw.kp T.D__law_draw.b .nil pass0 (pa_cons (pv 0) (pa_cons pe_int pa_nil)))) pa_nil)) (blkOk_by (N := N_l_many_right) (sc := defScope s_l_many_right) (by decide +kernel)) (fun _ _ _ _ _ => (pg_name (i := 7) nd rfl (.inl rfl))) (fun _ _ _ _ _ => pts_nil) (fun _ _ _ _ _ => (pe_call ((ok_draw (k := 0) T.D__law_draw).mono (by decide)) hr (by rfl) T.D__law_draw.g T.D__law_draw.kp T.D__law_draw.b .nil pass0 (pa_cons (pv 0) (pa_cons (pv 1) pa_nil))))) pa_nil)) pa_nil)))
      (pss_cons (ps_set (i := 3) nd rfl (.inl rfl) (pe_op op_add pe_int (pe_call ((ok_draw (k := 0) T.D__law_draw).mono (by decide)) hr (by rfl) T.D__law_draw.g T.D__law_draw.kp T.D__law_draw.b .nil pass0 (pa_cons (pv 0) (pa_cons (pe_call ((ok_choose (k := 1) T.D__law_choose T.D__law_draw (ok_draw (k := 0) T.D__law_draw) T.m_len).mono (by decide)) hr (by rfl) T.D__law_choose.g T.D__law_choose.kp T.D__law_choose.b .nil pass0 (pa_cons (pv 0) (pa_cons (pe_lst (pa_cons pe_int (pa_cons pe_int pa_nil))) pa_nil))) pa_nil)))))
      (pss_cons (ps_set (i := 4) nd rfl (.inl rfl) (pe_callTy call_list_of (by rfl) T.m_list (by decide +kernel) (pa_cons (pv 2) pa_nil)))
      (pss_cons (ps_asg (pe_call ((ok_best_steps T).mono (by decide)) hr (by rfl) T.D_best_steps.g T.D_best_steps.kp T.D_best_steps.b .nil pass0 (pa_cons (pv 2) (pa_cons (pv 3) pa_nil))) (pg_tup rfl (pgs_cons (pg_name (i := 5) nd rfl (.inl rfl)) (pgs_cons (pg_name (i := 6) nd rfl (.inl rfl)) pgs_nil))))
      (pss_cons (ps_if (PW.pt (pw_or (pt_cmpR (op_neD hr.units) (pv 2) (pv 4) (nomark _)) (pw_or (pt_cmpR (op_neD hr.units) (pv 6) (pe_callB (r := rSortedSet w) (cr_sortedSet rfl) (by rfl) T.m_sorted (by decide +kernel) (pa_cons (pe_callTy (r := rSetI K w) (cr_setI rfl) (by rfl) T.m_set (by decide +kernel) (pa_cons (pv 6) pa_nil)) pa_nil)) (nomark _)) (pw_or1 (pt_not (pt_chain op_le op_le pe_int (pe_callB call_len_seq (by rfl) T.m_len PySem.boot_len (pa_cons (pv 6) pa_nil)) (pv 3) ))))))
      (pss_one (ps_ret pe_bl))
      pss_nil)
      (pss_cons (ps_if (PW.pt (pw_or (pt_cmpR (op_neD hr.units) (pe_lc (own := [("_law_step", 8)]) (g := (gName 8)) rfl nd (pi_list (pv 6)) (blkOk_by (N := N_l_many_right) (sc := defScope s_l_many_right) (by decide +kernel)) (fun _ _ _ _ _ => (pg_name (i := 8) nd rfl (.inl rfl))) (fun _ _ _ _ _ => (pts_one (pt_cmpR (r := rIn K true) op_notIn_seq (pv 8) (pv 2) (by with_unfolding_all rfl)))) (fun _ _ _ _ _ => (pv 8))) (pe_lst pa_nil) (nomark _)) (pw_or1 (pt_cmpR op_ne (pv 5) (pe_call ((ok__law_cost T).mono (by decide)) hr (by rfl) T.D__law_cost.g T.D__law_cost.kp T.D__law_cost.b .nil pass0 (pa_cons (pv 2) (pa_cons (pv 6) pa_nil))) (nomark _)))))
      (pss_one (ps_ret pe_bl))
      pss_nil)
      (pss_one (ps_ret (pe_ifExp (pt_cmpR op_le (pv 3) pe_int (nomark _)) (pe_cmpR op_eq (pv 5) (pe_call ((ok__law_least T).mono (by decide)) hr (by rfl) T.D__law_least.g T.D__law_least.kp T.D__law_least.b .nil pass0 (pa_cons (pv 2) (pa_cons (pe_callB (call_min2 rfl) (by rfl) T.m_min (by decide +kernel) (pa_cons (pv 3) (pa_cons pe_int pa_nil))) pa_nil))) (nomark _)) (pe_cmpR op_le (pv 5) (pe_call ((ok__law_least T).mono (by decide)) hr (by rfl) T.D__law_least.g T.D__law_least.kp T.D__law_least.b .nil pass0 (pa_cons (pv 2) (pa_cons pe_int pa_nil))) (nomark _)))))))))))), ?_⟩
    refine ⟨_, rfl, _, _, rfl, rfl, ⟨by decide, by decide, by decide⟩, small (by show 2 ≤ 5000; decide), fun l nl => ?_⟩
    have npl := hp.ne nl
    have sl := same_new (o := HO.lst [.int 100, .int (10 ^ (30 : Int).toNat)]) nl
    have hl : (upd H l (HO.lst [.int 100, .int (10 ^ (30 : Int).toNat)])) l = some (HO.lst [.int 100, .int (10 ^ (30 : Int).toNat)]) := upd_same
    generalize upd H l (HO.lst [.int 100, .int (10 ^ (30 : Int).toNat)]) = H1 at sl hl ⊢
    have hl : H1 l = some (.lst ([100, 10 ^ (30 : Int).toNat].map V.int)) := hl
    have hp1 := hp.same sl
    refine ⟨p, l, _, rfl, hp1, npl.symm, hl, by decide, by decide, fun far H2 hfar sx2 hp2 => ?_⟩
    obtain ⟨far0, far1⟩ : 0 < far ∧ far ≤ 10 ^ 30 := by
      simp only [List.mem_cons, List.not_mem_nil, or_false] at hfar
      rcases hfar with rfl | rfl
      · exact ⟨by decide, by decide⟩
      · exact ⟨by decide, by decide⟩
    have far2 : far < 2 ^ 100 := Int.lt_of_le_of_lt far1 (by decide)
    have s02 := (Same.sx (p := p) sl).trans sx2
    refine gn (σ' := [some (.ref p), some (.int far), none, none, none, none, none, none, none]) rfl ?_
    -- the queries
    refine ⟨_, rfl, p, 30, rfl, hp2, by decide, by decide, fun r H3 r0 r1 sx3 hp3 => ?_⟩
    refine ⟨_, _, rfl, rfl, 1 + r, rfl, by omega, by omega, fun C nC => ?_⟩
    have npC := hp3.ne nC
    refine lc_it (walk_range (lo := 0) (n := (1 + r).toNat)) (fun i H' => SX p H3 H' ∧ PoolAt H' p ∧ ∃ ns : List Int, H' C = some (.lst (ns.map V.int)) ∧ ns.length = i ∧ ∀ n ∈ ns, 0 ≤ n ∧ n < far)
      ⟨Same.sx (same_new nC), hp3.new nC, [], upd_same, rfl, (fun n hn => by cases hn)⟩ (fun _ _ _ _ => trivial) ?_ ?_
    · rintro i x Ha Hb hi ⟨sa, hpa, ns, eC, hlen, hns⟩ ⟨rfl, rfl⟩
      refine ⟨rfl, ?_⟩
      dsimp only [tYes]
      refine iteT ?_
      refine ⟨_, rfl, _, rfl, p, far, rfl, hpa, far0, far2, fun n Hc n0 n1 sc hpc => ?_⟩
      have eC2 := sc _ _ npC.symm eC
      refine ⟨_, eC2, small1000 (by rw [List.length_map, hlen]; omega), (sa.trans sc).new nC, hpc.put npC, ns ++ [n], by rw [upd_same, List.map_append]; rfl, by rw [List.length_append, hlen]; rfl, fun m hm => ?_⟩
      rcases List.mem_append.mp hm with hm | hm
      · exact hns m hm
      · rw [List.mem_singleton.mp hm]
        exact ⟨n0, n1⟩
    rintro H4 ⟨sx4, hp4, ns, eC, hlen, hns⟩
    have hlen2 : ns.length ≤ 30 ∧ 1 ≤ ns.length := by omega
    refine ⟨C, ns, rfl, SqL.of eC, by omega, fun S n nS hnS => ?_⟩
    refine ⟨S, _, n, rfl, upd_same, by omega, fun qs g pw mem len ng => ?_⟩
    have hp5 := hp4.new (o := SetO w S (fun j => decide (j ∈ ns)) n) nS
    have sx5 : SX p H4 (upd H4 S (SetO w S (fun j => decide (j ∈ ns)) n)) := Same.sx (same_new nS)
    generalize upd H4 S (SetO w S (fun j => decide (j ∈ ns)) n) = H5 at hp5 sx5 ng ⊢
    have npg := hp5.ne ng
    have s6 := same_new (o := HO.lst (qs.map V.int)) ng
    have hg : (upd H5 g (HO.lst (qs.map V.int))) g = some (HO.lst (qs.map V.int)) := upd_same
    generalize upd H5 g (HO.lst (qs.map V.int)) = H6 at s6 hg ⊢
    have hp6 := hp5.same s6
    have n30 : qs.length ≤ 30 := by omega
    have hqs : ∀ m ∈ qs, 0 ≤ m ∧ m < far := fun m hm => hns m (of_decide_eq_true ((mem m).mp hm))
    have asc : Asc qs := ⟨pw, fun m hm => (hqs m hm).1⟩
    have n1 : 1 ≤ qs.length := by
      cases ns with
      | nil => simp at hlen2
      | cons z rr =>
        have : z ∈ qs := (mem z).mpr (decide_eq_true List.mem_cons_self)
        exact List.length_pos_of_mem this
    have s06 := ((s02.trans sx3).trans (sx4.trans sx5)).trans (Same.sx s6)
    refine gn (σ' := [some (.ref p), some (.int far), some (.ref g), none, none, none, none, none, none]) rfl ?_
    -- how many
    refine ⟨_, rfl, _, rfl, small (by show 2 ≤ 5000; decide), fun l2 nl2 => ?_⟩
    have npl2 := hp6.ne nl2
    have s7 := same_new (o := HO.lst [.int 5, .int 60]) nl2
    have hl2 : (upd H6 l2 (HO.lst [.int 5, .int 60])) l2 = some (HO.lst [.int 5, .int 60]) := upd_same
    generalize upd H6 l2 (HO.lst [.int 5, .int 60]) = H7 at s7 hl2 ⊢
    have hl2 : H7 l2 = some (.lst ([5, 60].map V.int)) := hl2
    refine ⟨p, l2, _, rfl, hp6.same s7, npl2.symm, hl2, by decide, by decide, fun lim H8 hlim sx8 hp8 => ?_⟩
    obtain ⟨lim0, lim1⟩ : 0 < lim ∧ lim ≤ 60 := by
      simp only [List.mem_cons, List.not_mem_nil, or_false] at hlim
      rcases hlim with rfl | rfl
      · exact ⟨by decide, by decide⟩
      · exact ⟨by decide, by decide⟩
    refine ⟨p, lim, rfl, hp8, lim0, by omega, fun cr H9 c0 c1 sx9 hp9 => ?_⟩
    refine ⟨_, _, rfl, rfl, ?_⟩
    obtain ⟨c, hc⟩ : ∃ c : Nat, 1 + cr = (c : Int) := ⟨(1 + cr).toNat, by omega⟩
    refine gn (σ' := [some (.ref p), some (.int far), some (.ref g), some (.int (c : Int)), none, none, none, none, none]) (by rw [← hc]; rfl) ?_
    have hg9 := sx9 _ _ npg.symm (sx8 _ _ npg.symm (s7 _ _ hg))
    have s09 := ((s06.trans (Same.sx s7)).trans sx8).trans sx9
    have hc1 : 1 ≤ c := by omega
    have hc60 : c ≤ 60 := by omega
    clear hp hp1 hp2 hp3 hp4 hp5 hp6 hp8 hg sx2 s02 sx3 sx4 sx5 s06 sx8 sx9 eC
    -- the best
    refine ⟨_, rfl, g, _, rfl, .inl (SqL.of hg9), fun hh nhh => ?_⟩
    have s10 := same_new (o := HO.lst (qs.map V.int)) nhh
    have hhh : (upd H9 hh (HO.lst (qs.map V.int))) hh = some (HO.lst (qs.map V.int)) := upd_same
    generalize upd H9 hh (HO.lst (qs.map V.int)) = H10 at s10 hhh ⊢
    refine gn (σ' := [some (.ref p), some (.int far), some (.ref g), some (.int (c : Int)), some (.ref hh), none, none, none, none]) rfl ?_
    refine ⟨_, rfl, _, rfl, g, qs, c, rfl, s10 _ _ hg9, asc, n1, by omega, hc1, hc60, fun H11 a pr s11 hpr best => ?_⟩
    obtain ⟨k, ha, hk⟩ := hpr
    have s911 := s10.trans s11
    have hg11 := s911 _ _ hg9
    have hh11 := s11 _ _ hhh
    have kl : pr.2.length ≤ c ∧ 1 ≤ pr.2.length ∧ pr.2.length ≤ 30 := by
      rw [best.len]
      omega
    have kne : pr.2 ≠ [] := fun z => by rw [z] at kl; simp at kl
    refine ⟨a, _, rfl, SqT.of ha, rfl, _, _, rfl, _, _, rfl, rfl, ?_⟩
    dsimp only [List.set]
    refine ⟨_, rfl, _, rfl, _, _, dp_il hg11, dp_il hh11, sh_ints _, sh_ints _, _, rfl, ?_⟩
    rw [ne_same (sh_ints _)]
    refine iteF ?_
    refine ⟨_, rfl, _, rfl, k, pr.2, rfl, SqL.of hk, by omega, fun S2 n2 nS2 hn2 => ?_⟩
    refine ⟨S2, _, n2, rfl, upd_same, by omega, fun ms g2 pw2 mem2 len2 ng2 => ?_⟩
    have s12 : Same H11 (upd H11 S2 (SetO w S2 (fun j => decide (j ∈ pr.2)) n2)) := same_new nS2
    generalize upd H11 S2 (SetO w S2 (fun j => decide (j ∈ pr.2)) n2) = H12 at s12 ng2 ⊢
    have pwk : pr.2.Pairwise (· < ·) := List.Pairwise.sublist best.sub pw
    obtain rfl : ms = pr.2 := asc_ext pw2 pwk fun x => by rw [mem2 x, decide_eq_true_eq]
    have s13 := same_new (o := HO.lst (pr.2.map V.int)) ng2
    have hg2 : (upd H12 g2 (HO.lst (pr.2.map V.int))) g2 = some (HO.lst (pr.2.map V.int)) := upd_same
    generalize upd H12 g2 (HO.lst (pr.2.map V.int)) = H13 at s13 hg2 ⊢
    have s1113 := s12.trans s13
    have hk13 := s1113 _ _ hk
    refine ⟨_, _, dp_il hk13, dp_il hg2, sh_ints _, sh_ints _, _, rfl, ?_⟩
    rw [ne_same (sh_ints _)]
    refine iteF ?_
    refine ⟨_, rfl, k, _, rfl, .inl (SqL.of hk13), _, _, rfl, rfl, _, rfl, ?_⟩
    rw [List.length_map, decide_eq_true (show (1 : Int) ≤ (pr.2.length : Int) by omega)]
    refine iteT ?_
    refine ⟨_, rfl, _, _, rfl, rfl, _, rfl, ?_⟩
    rw [decide_eq_true (show (pr.2.length : Int) ≤ (c : Int) by omega)]
    refine iteF ?_
    refine tNextI ?_
    -- steps are queries
    have hg13 := s1113 _ _ hg11
    refine ⟨_, rfl, k, rfl, ⟨_, SqL.of hk13⟩, fun F nF => ?_⟩
    refine lc_it (walk_list (K := K) (a := k) (xs := pr.2.map V.int)) (fun i H' => Same H13 H' ∧ H' F = some (.lst (([] : List Int).map V.int))) ⟨same_new nF, upd_same⟩ (fun i H' _ h => SqL.of (h.1 _ _ hk13)) ?_ ?_
    · rintro i x Ha Hb hi ⟨sa, eF⟩ ⟨rfl, hx⟩
      obtain ⟨hi, rfl⟩ := int_of hx
      refine ⟨rfl, ?_⟩
      refine ⟨_, rfl, _, rfl, g, _, rfl, .inl (SqL.of (sa _ _ hg13)), rfl, flat_ints _, ?_⟩
      have : (if (true : Bool) = true then !inV (.int pr.2[i]) (qs.map V.int) else inV (.int pr.2[i]) (qs.map V.int)) = false := by
        rw [inV_int (best.sub.subset (List.getElem_mem hi))]
        rfl
      rw [this]
      exact ⟨_, rfl, iteF ⟨sa, eF⟩⟩
    rintro H14 ⟨s14, eF⟩
    refine ⟨small (Nat.zero_le _), fun z nz => ?_⟩
    have s15 := same_new (o := HO.lst []) nz
    have hz : (upd H14 z (HO.lst [])) z = some (HO.lst []) := upd_same
    generalize upd H14 z (HO.lst []) = H15 at s15 hz ⊢
    refine ⟨_, _, dp_il (s15 _ _ eF), dp_il (ns := []) hz, sh_ints _, sh_ints _, _, rfl, ?_⟩
    rw [ne_same (sh_ints _)]
    refine iteF ?_
    have s1315 := s14.trans s15
    have hg15 := s1315 _ _ hg13
    refine ⟨_, rfl, _, rfl, _, rfl, g, k, qs, pr.2, rfl, hg15, s1315 _ _ hk13, by omega, by omega, kne, fun H16 s16 => ?_⟩
    refine ⟨rfl, _, rfl, ?_⟩
    have enq : (!decide (V.int pr.1 = V.int (cost qs pr.2))) = false := by
      rw [best.eq]
      simp
    rw [enq]
    refine iteF ?_
    refine tNextI ?_
    -- the law's table
    have hg16 := s16 _ _ hg15
    have sAll : Same H9 H16 := s911.trans (s1113.trans (s1315.trans s16))
    have fin : ∀ H', Same H16 H' → Q (.bl true) H' := fun H' s' => q _ (s09.trans (Same.sx (sAll.trans s'))) (hp9.same (sAll.trans s'))
    refine ⟨_, rfl, _, _, rfl, rfl, _, rfl, ite2 (fun e => ?_) (fun e => ?_)⟩
    · have hc6 : c ≤ 6 := by
        have := of_decide_eq_true e
        omega
      refine ⟨_, rfl, _, rfl, _, rfl, _, _, rfl, g, qs, c, by rw [if_neg (by omega)]; rfl, hg16, pw, n1, by omega, hc1, hc6, fun H' B s' tb => ?_⟩
      refine ⟨rfl, ?_⟩
      have := (tbl_best pw tb best (by omega) rfl hc1 (by omega)).2 (by omega)
      rw [this, decide_eq_true rfl]
      exact fin _ s'
    · refine ⟨_, rfl, _, rfl, g, qs, 6, rfl, hg16, pw, n1, by omega, by decide, by decide, fun H' B s' tb => ?_⟩
      refine ⟨_, _, rfl, rfl, ?_⟩
      have hc6 : ¬ (c : Int) ≤ 6 := fun z => e (decide_eq_true z)
      have := (tbl_best pw tb best (by omega) rfl hc1 (by omega)).1
      show Q (V.bl (decide (pr.1 ≤ B (qs.length - 1)))) H'
      rw [decide_eq_true this]
      exact fin _ s'
end
end Sp1

set_option Elab.async false
set_option linter.all false
set_option maxRecDepth 100000
set_option maxHeartbeats 4000000
namespace Kp
def L60 : List Int := (List.range 60).map fun (j : Nat) => 3 * (j : Int)
theorem L60_asc : L60.Pairwise (· < ·) ∧ ∀ n ∈ L60, 0 ≤ n := by
  constructor
  · decide +kernel
  · intro n hn
    obtain ⟨j, _, rfl⟩ := List.mem_map.mp hn
    omega
theorem cost_self (qs : List Int) : cost qs qs = 0 := by
  have h : ∀ l : List Int, (∀ x ∈ l, near x qs = 0) → (l.map fun x => near x qs).sum = 0 := fun l => by
    induction l with
    | nil => exact fun _ => rfl
    | cons x r ih =>
      intro h
      simp only [List.map_cons, List.sum_cons]
      rw [h x List.mem_cons_self, ih fun y hy => h y (List.mem_cons_of_mem _ hy)]
      rfl
  exact h qs fun x hx => near_self hx
theorem best_all {qs : List Int} {p : Pr} (b : BestOf qs qs.length p) : p = (0, qs) := by
  obtain ⟨c, S⟩ := p
  have h := b.sub.eq_of_length b.len
  have h : S = qs := h
  subst h
  have e : c = cost S S := b.eq
  rw [e, cost_self]
theorem near_ge {S l : List Int} {x : Int} (hS : S ≠ []) (hx : x ∈ l) : near x S ≤ (l.map fun y => near y S).sum := by
  induction l with
  | nil => cases hx
  | cons y r ih =>
    have hnn : 0 ≤ (r.map fun y => near y S).sum := by
      clear ih hx
      induction r with
      | nil => exact Int.le_refl _
      | cons z r ih =>
        have := near_nn (x := z) hS
        simp only [List.map_cons, List.sum_cons]
        omega
    have hy := near_nn (x := y) hS
    simp only [List.map_cons, List.sum_cons]
    rcases List.mem_cons.mp hx with rfl | hx
    · omega
    · have := ih hx
      omega
theorem best_59 {p : Pr} (b : BestOf L60 59 p) (hne : ∀ {a c : List Int}, a.Pairwise (· < ·) → c.Pairwise (· < ·) → (∀ x, x ∈ a ↔ x ∈ c) → a = c) : p.1 = 3 := by
  have hl := b.len
  have ne : p.2 ≠ [] := fun z => by rw [z] at hl; simp at hl
  have up : p.1 ≤ 3 := by
    have h := (b.least L60.tail (List.tail_sublist _) (by decide +kernel)).le
    have e : cost L60 L60.tail = 3 := by decide +kernel
    have h : p.1 ≤ cost L60 L60.tail := h
    omega
  have lo : ∃ x ∈ L60, x ∉ p.2 := by
    refine Classical.byContradiction fun hno => ?_
    have : p.2 = L60 := hne (List.Pairwise.sublist b.sub L60_asc.1) L60_asc.1 fun x => ⟨fun h => b.sub.subset h, fun h => Classical.byContradiction fun z => hno ⟨x, h, z⟩⟩
    rw [this] at hl
    revert hl
    decide +kernel
  obtain ⟨x, hx, hx2⟩ := lo
  have h1 := near_ge (l := L60) ne hx
  obtain ⟨s, hs, e⟩ := near_mem (x := x) ne
  obtain ⟨i, _, rfl⟩ := List.mem_map.mp hx
  obtain ⟨j, _, rfl⟩ := List.mem_map.mp (b.sub.subset hs)
  have hij : i ≠ j := fun z => hx2 (z ▸ hs)
  have e2 := b.eq
  unfold cost at e2
  omega
theorem near_bd {x M : Int} {S : List Int} (hS : S ≠ []) (hx : 0 ≤ x ∧ x < M) (h : ∀ s ∈ S, 0 ≤ s ∧ s < M) : near x S ≤ M := by
  obtain ⟨s, hs, e⟩ := near_mem (x := x) hS
  have := h s hs
  omega
theorem cost_bd {M : Int} {S qs : List Int} (hS : S ≠ []) (hq : ∀ x ∈ qs, 0 ≤ x ∧ x < M) (h : ∀ s ∈ S, 0 ≤ s ∧ s < M) : 0 ≤ cost qs S ∧ cost qs S ≤ (qs.length : Int) * M := by
  unfold cost
  induction qs with
  | nil => simp
  | cons x r ih =>
    obtain ⟨h1, h2⟩ := ih fun y hy => hq y (List.mem_cons_of_mem _ hy)
    have h3 := near_nn (x := x) hS
    have h4 := near_bd hS (hq x List.mem_cons_self) h
    simp only [List.map_cons, List.sum_cons, List.length_cons]
    have e : ((r.length + 1 : Nat) : Int) * M = (r.length : Int) * M + M := by
      rw [Int.natCast_add, Int.add_mul]
      simp
    omega
end Kp
namespace Sp1
open PySem PySem.Spec PyProof.Rows L2 Kp
def prD (p : Pr) : PyData := .tuple [.int p.1, .list (p.2.map PyData.int)]
theorem PrAt.dq {K : PySem.W.Frag} {H : Hp} {a : Addr} {p : Pr} (h : PrAt H a p) : Dp K H (.ref a) (prD p) := h.dp
theorem prD_ok {p : Pr} (h1 : p.1.natAbs ≤ 10 ^ 30) (h2 : ∀ k ∈ p.2, k.natAbs ≤ 10 ^ 20) (hl : p.2.length ≤ 60) : ReprOk (prD p) := by
  obtain ⟨i1, i2, i3, i4, i5⟩ := ints_leaves h2
  have hl0 : p.1.natAbs.log2 < 101 := log2_lt' (by decide) (Nat.lt_of_le_of_lt h1 (by decide +kernel))
  have hl1 : p.1.natAbs.log2 < 1920 := by omega
  have h3 := PyProof.Rows.int_text_len_1921 hl1
  have hw : (PyData.int p.1).weight ≤ 102 := by
    simp only [PyData.weight]
    split
    · omega
    · omega
  refine ⟨?_, ?_, ?_, ?_⟩
  · simp only [prD, PyData.showable, PyData.showableAll, i1, hl1, decide_true, Bool.and_true]
  · simp only [prD, PyData.hasDict, PyData.hasDictAll, i3, Bool.or_false]
  · simp only [prD, PyData.depth, PyData.depthAll, i5]
    decide
  · have h := PyData.shown_le 1921 (by decide) (prD p) (by simp only [prD, PyData.leavesShort, PyData.leavesShortAll, i2, Bool.and_true, decide_eq_true_eq]; exact h3)
    have hw2 : (prD p).weight ≤ 8000 := by
      simp only [prD, PyData.weight, PyData.weightAll] at hw ⊢
      omega
    have h4 : (1921 + 2) * (prD p).weight ≤ (1921 + 2) * 8000 := Nat.mul_le_mul_left _ hw2
    rw [sizeLine_eq]
    omega
theorem sh_pr (p : Pr) : SeqAt.shaped (prD p) = true := by
  have h : PyData.canLayAll0 (p.2.map PyData.int) = true := by
    induction p.2 with
    | nil => rfl
    | cons x r ih => simp only [List.map_cons, PyData.canLayAll0, PyData.canLay0, ih, Bool.and_true]
  have h2 : PyData.depthAll (p.2.map PyData.int) = 0 := by
    induction p.2 with
    | nil => rfl
    | cons x r ih => simp only [List.map_cons, PyData.depthAll, PyData.depth, ih]; rfl
  unfold SeqAt.shaped prD
  simp only [PyData.canLay0, PyData.canLayAll0, h, Bool.and_true, PyData.depth, PyData.depthAll, h2]
  decide
section
variable {P : Program} {w : World} {K : PySem.W.Frag} {mg : Str → Option Value} {base : Heap}
def sp_law (K : PySem.W.Frag) : Sp := fun vs H Q _ => ∃ (a : Addr) (ns : List Int), vs = [.ref a] ∧ SqL K H a (ns.map V.int) ∧ ns.length ≤ 63 ∧ ∀ H', Q (.bl true) H'
theorem ok_law {f : Addr} {fd : FuncData} (D0 : Dn K mg "law" s_law ["_law_script"] f fd) (T : KpF K mg) : FnOkG P w K mg base CX0 6 f fd ["_law_script"] (sp_law K) := by
  refine Sp1.Fun.okG D0.F sc_law (fun vs H Q E h => ?_) (fun cdv A outer s H vs Q E hG hr h => ?_)
  · obtain ⟨a, ns, rfl, _⟩ := h
    rfl
  · obtain ⟨a, ns, rfl, hS, hlen, q⟩ := h
    have nd := sc_law.nd
    refine ⟨_, (pss_cons (ps_for PassesOwn.never rfl (pi_range1 (by rfl) T.m_range (pa_cons (pe_callB (call_max2 rfl) (by rfl) T.m_max (by decide +kernel) (pa_cons pe_int (pa_cons (pe_callB (call_min2 rfl) (by rfl) T.m_min (by decide +kernel) (pa_cons pe_int (pa_cons (pe_callB call_len_seq (by rfl) T.m_len PySem.boot_len (pa_cons (pv 0) pa_nil)) pa_nil))) pa_nil))) pa_nil)) (pg_name (i := 1) nd rfl (.inl rfl))
      (pss_cons (ps_set (i := 2) nd rfl (.inr rfl) (pe_call ((ok_stream (k := 0) T.D__law_stream T.m_len T.m_max T.m_int).mono (by decide)) hr (by rfl) T.D__law_stream.g T.D__law_stream.kp T.D__law_stream.b .nil pass0 (pa_cons (pv 0) (pa_cons (pv 1) pa_nil))))
        (pss_cons (ps_for PassesOwn.never rfl (pi_range1 (by rfl) T.m_range (pa_cons pe_int pa_nil)) (pg_name (i := 3) nd rfl (.inl rfl))
        (pss_cons (ps_set (i := 4) nd rfl (.inr rfl) (pe_call ((ok_choose (k := 1) T.D__law_choose T.D__law_draw (ok_draw (k := 0) T.D__law_draw) T.m_len).mono (by decide)) hr (by rfl) T.D__law_choose.g T.D__law_choose.kp T.D__law_choose.b .nil pass0 (pa_cons (pv 2) (pa_cons (pe_lst (pa_cons pe_int (pa_cons pe_int (pa_cons pe_int (pa_cons (pe_op op_pow pe_int pe_int) pa_nil))))) pa_nil))))
          (pss_cons (ps_set (i := 5) nd rfl (.inl rfl) (pe_callB (r := rSortedSet w) (cr_sortedSet rfl) (by rfl) T.m_sorted (by decide +kernel) (pa_cons (pe_callTy (r := rSetI K w) (cr_setI rfl) (by rfl) T.m_set (by decide +kernel) (pa_cons (pe_lc (own := [("_law_place", 8)]) (g := (gName 8)) (tt := tYes) rfl nd (pi_range1 (by rfl) T.m_range (pa_cons (pe_op op_add pe_int (pe_call ((ok_draw (k := 0) T.D__law_draw).mono (by decide)) hr (by rfl) T.D__law_draw.g T.D__law_draw.kp T.D__law_draw.b .nil pass0 (pa_cons (pv 2) (pa_cons pe_int pa_nil)))) pa_nil)) (blkOk_by (N := N_law) (sc := defScope s_law) (by decide +kernel)) (fun _ _ _ _ _ => (pg_name (i := 8) nd rfl (.inl rfl))) (fun _ _ _ _ _ => pts_nil) (fun _ _ _ _ _ => (pe_call ((ok_draw (k := 0) T.D__law_draw).mono (by decide)) hr (by rfl) T.D__law_draw.g T.D__law_draw.kp T.D__law_draw.b .nil pass0 (pa_cons (pv 2) (pa_cons (pv 4) pa_nil))))) pa_nil)) pa_nil)))
          (pss_cons (ps_set (i := 6) nd rfl (.inl rfl) (pe_op op_add pe_int (pe_call ((ok_draw (k := 0) T.D__law_draw).mono (by decide)) hr (by rfl) T.D__law_draw.g T.D__law_draw.kp T.D__law_draw.b .nil pass0 (pa_cons (pv 2) (pa_cons (pe_call ((ok_choose (k := 1) T.D__law_choose T.D__law_draw (ok_draw (k := 0) T.D__law_draw) T.m_len).mono (by decide)) hr (by rfl) T.D__law_choose.g T.D__law_choose.kp T.D__law_choose.b .nil pass0 (pa_cons (pv 2) (pa_cons (pe_lst (pa_cons pe_int (pa_cons pe_int pa_nil))) pa_nil))) pa_nil)))))
          (pss_one (ps_if (pt_cmpR op_ne (pe_callB (cr_reprF hG hr.units) (by rfl) T.m_repr (by decide +kernel) (pa_cons (pe_call ((ok_best_steps T).mono (by decide)) hr (by rfl) T.D_best_steps.g T.D_best_steps.kp T.D_best_steps.b .nil pass0 (pa_cons (pv 5) (pa_cons (pv 6) pa_nil))) pa_nil)) (pe_callB (cr_reprF hG hr.units) (by rfl) T.m_repr (by decide +kernel) (pa_cons (pe_call ((ok__law_best T).mono (by decide)) hr (by rfl) T.D__law_best.g T.D__law_best.kp T.D__law_best.b .nil pass0 (pa_cons (pv 5) (pa_cons (pv 6) pa_nil))) pa_nil)) (nomark _))
          (pss_one (ps_ret pe_bl))
          pss_nil))))))
        (pss_one (ps_if (pt_not (pt_val (pe_call ((ok__law_many_right T).mono (by decide)) hr (by rfl) T.D__law_many_right.g T.D__law_many_right.kp T.D__law_many_right.b .nil pass0 (pa_cons (pv 2) pa_nil))))
        (pss_one (ps_ret pe_bl))
        pss_nil)))))
      (pss_cons (ps_setLc (i := 7) (own := [("_law_number", 9)]) (g := (gName 9)) (tt := tYes) rfl nd rfl rfl (sw_true rfl rfl rfl (by decide +kernel)) (pi_range1 (by rfl) T.m_range (pa_cons pe_int pa_nil)) (blkOk_by (N := N_law) (sc := defScope s_law) (by decide +kernel)) (fun _ _ _ _ _ => (pg_name (i := 9) nd rfl (.inl rfl))) (fun _ _ _ _ _ => pts_nil) (fun _ _ _ _ _ => (pe_op op_mul pe_int (pv 9))))
      (pss_one (ps_ret (pe_and (pe_cmpR (op_eqD hr.units) (pe_call ((ok_best_steps T).mono (by decide)) hr (by rfl) T.D_best_steps.g T.D_best_steps.kp T.D_best_steps.b .nil pass0 (pa_cons (pv 7) (pa_cons pe_int pa_nil))) (pe_tup (pa_cons pe_int (pa_cons (pv 7) pa_nil))) (nomark _)) (pe_and (pe_cmpR op_eq (pe_ix (r := rIxT K) ix_tup (pe_call ((ok_best_steps T).mono (by decide)) hr (by rfl) T.D_best_steps.g T.D_best_steps.kp T.D_best_steps.b .nil pass0 (pa_cons (pv 7) (pa_cons pe_int pa_nil))) pe_int (fun _ _ => rfl)) pe_int (nomark _)) (pe_one (pe_cmpR (op_eqD hr.units) (pe_call ((ok_best_steps T).mono (by decide)) hr (by rfl) T.D_best_steps.g T.D_best_steps.kp T.D_best_steps.b .nil pass0 (pa_cons (pe_lst (pa_cons pe_int pa_nil)) (pa_cons pe_int pa_nil))) (pe_tup (pa_cons pe_int (pa_cons (pe_lst (pa_cons pe_int pa_nil)) pa_nil))) (nomark _))))))))), ?_⟩
    obtain ⟨m, hm1, hm2, hm3⟩ : ∃ m : Int, (if (if (ns.length : Int) < 6 then (ns.length : Int) else 6) > 1 then (if (ns.length : Int) < 6 then (ns.length : Int) else 6) else 1) = m ∧ 1 ≤ m ∧ m ≤ 6 := ⟨_, rfl, by split <;> split <;> omega, by split <;> split <;> omega⟩
    refine ⟨_, rfl, a, _, rfl, .inl hS, _, _, rfl, _, _, rfl, ?_⟩
    rw [List.length_map]
    refine ⟨m, by rw [← hm1], by omega, by omega, ?_⟩
    refine for_range (lo := 0) (n := m.toNat) (fun i σ H' => Same H H' ∧ ∃ (y1 y2 y3 y4 y5 y6 : Option V), σ = [some (.ref a), y1, y2, y3, y4, y5, y6, none, none, none]) ⟨Same.refl _, _, _, _, _, _, _, rfl⟩ ?_ ?_
    · rintro i σ H0 hi ⟨s0, y1, y2, y3, y4, y5, y6, rfl⟩
      rw [Int.zero_add]
      refine gn (σ' := [some (.ref a), some (.int (i : Int)), y2, y3, y4, y5, y6, none, none, none]) rfl ?_
      refine ⟨_, rfl, _, rfl, a, ns, i, rfl, s0.seq hS, by omega, fun p H1 s1 np hp1 => ?_⟩
      refine gn (σ' := [some (.ref a), some (.int (i : Int)), some (.ref p), y3, y4, y5, y6, none, none, none]) rfl ?_
      have keep : ∀ {H' : Hp}, SX p H1 H' → Same H H' := fun sx b o e => sx b o (ne_of_none (s0 b o e) np) (s1 b o (s0 b o e))
      refine ⟨3, rfl, by decide, by decide, ?_⟩
      refine for_range (lo := 0) (n := ((3 : Int)).toNat) (fun j σ H' => SX p H1 H' ∧ PoolAt H' p ∧ ∃ (y3 y4 y5 y6 : Option V), σ = [some (.ref a), some (.int (i : Int)), some (.ref p), y3, y4, y5, y6, none, none, none]) ⟨SX.refl _ _, hp1, _, _, _, _, rfl⟩ ?_ ?_
      · rintro j σ Hi hj ⟨sxi, hpi, y3, y4, y5, y6, rfl⟩
        refine gn (σ' := [some (.ref a), some (.int (i : Int)), some (.ref p), some (.int (0 + (j : Int))), y4, y5, y6, none, none, none]) rfl ?_
        refine ⟨_, rfl, _, _, rfl, rfl, ⟨by decide, by decide, by decide⟩, small (by show 4 ≤ 5000; decide), fun l nl => ?_⟩
        have npl := hpi.ne nl
        have sl := same_new (o := HO.lst [.int 10, .int 14, .int 40, .int (10 ^ (20 : Int).toNat)]) nl
        have hl : (upd Hi l (HO.lst [.int 10, .int 14, .int 40, .int (10 ^ (20 : Int).toNat)])) l = some (HO.lst [.int 10, .int 14, .int 40, .int (10 ^ (20 : Int).toNat)]) := upd_same
        generalize upd Hi l (HO.lst [.int 10, .int 14, .int 40, .int (10 ^ (20 : Int).toNat)]) = Hj at sl hl ⊢
        have hl : Hj l = some (.lst ([10, 14, 40, 10 ^ (20 : Int).toNat].map V.int)) := hl
        have hpj := hpi.same sl
        refine ⟨p, l, _, rfl, hpj, npl.symm, hl, by decide, by decide, fun far H2 hfar sx2 hp2 => ?_⟩
        obtain ⟨far0, far1⟩ : 0 < far ∧ far ≤ 10 ^ 20 := by
          simp only [List.mem_cons, List.not_mem_nil, or_false] at hfar
          rcases hfar with rfl | rfl | rfl | rfl
          · exact ⟨by decide, by decide⟩
          · exact ⟨by decide, by decide⟩
          · exact ⟨by decide, by decide⟩
          · exact ⟨by decide, by decide⟩
        have far2 : far < 2 ^ 100 := Int.lt_of_le_of_lt far1 (by decide)
        have s02 := (sxi.trans (Same.sx (p := p) sl)).trans sx2
        refine gn (σ' := [some (.ref a), some (.int (i : Int)), some (.ref p), some (.int (0 + (j : Int))), some (.int far), y5, y6, none, none, none]) rfl ?_
        -- the queries
        refine ⟨_, rfl, p, 7, rfl, hp2, by decide, by decide, fun r H3 r0 r1 sx3 hp3 => ?_⟩
        refine ⟨_, _, rfl, rfl, 1 + r, rfl, by omega, by omega, fun C nC => ?_⟩
        have npC := hp3.ne nC
        refine lc_it (walk_range (lo := 0) (n := (1 + r).toNat)) (fun i H' => SX p H3 H' ∧ PoolAt H' p ∧ ∃ ns : List Int, H' C = some (.lst (ns.map V.int)) ∧ ns.length = i ∧ ∀ n ∈ ns, 0 ≤ n ∧ n < far)
          ⟨Same.sx (same_new nC), hp3.new nC, [], upd_same, rfl, (fun n hn => by cases hn)⟩ (fun _ _ _ _ => trivial) ?_ ?_
        · rintro i' x Ha Hb hi' ⟨sa, hpa, ns, eC, hlen, hns⟩ ⟨rfl, rfl⟩
          refine ⟨rfl, ?_⟩
          dsimp only [tYes]
          refine iteT ?_
          refine ⟨_, rfl, _, rfl, p, far, rfl, hpa, far0, far2, fun n Hc n0 n1 sc hpc => ?_⟩
          have eC2 := sc _ _ npC.symm eC
          refine ⟨_, eC2, small1000 (by rw [List.length_map, hlen]; omega), (sa.trans sc).new nC, hpc.put npC, ns ++ [n], by rw [upd_same, List.map_append]; rfl, by rw [List.length_append, hlen]; rfl, fun m hm => ?_⟩
          rcases List.mem_append.mp hm with hm | hm
          · exact hns m hm
          · rw [List.mem_singleton.mp hm]
            exact ⟨n0, n1⟩
        rintro H4 ⟨sx4, hp4, nq, eC, hlenq, hns⟩
        have hlen2 : nq.length ≤ 7 ∧ 1 ≤ nq.length := by omega
        refine ⟨C, nq, rfl, SqL.of eC, by omega, fun S n nS hnS => ?_⟩
        refine ⟨S, _, n, rfl, upd_same, by omega, fun qs g pw mem len ng => ?_⟩
        have hp5 := hp4.new (o := SetO w S (fun j => decide (j ∈ nq)) n) nS
        have sx5 : SX p H4 (upd H4 S (SetO w S (fun j => decide (j ∈ nq)) n)) := Same.sx (same_new nS)
        generalize upd H4 S (SetO w S (fun j => decide (j ∈ nq)) n) = H5 at hp5 sx5 ng ⊢
        have npg := hp5.ne ng
        have s6 := same_new (o := HO.lst (qs.map V.int)) ng
        have hg : (upd H5 g (HO.lst (qs.map V.int))) g = some (HO.lst (qs.map V.int)) := upd_same
        generalize upd H5 g (HO.lst (qs.map V.int)) = H6 at s6 hg ⊢
        have hp6 := hp5.same s6
        have n7 : qs.length ≤ 7 := by omega
        have hqs : ∀ m ∈ qs, 0 ≤ m ∧ m < far := fun m hm => hns m (of_decide_eq_true ((mem m).mp hm))
        have asc : Asc qs := ⟨pw, fun m hm => (hqs m hm).1⟩
        have n1 : 1 ≤ qs.length := by
          cases nq with
          | nil => simp at hlen2
          | cons z rr =>
            have : z ∈ qs := (mem z).mpr (decide_eq_true List.mem_cons_self)
            exact List.length_pos_of_mem this
        have s06 := ((s02.trans sx3).trans (sx4.trans sx5)).trans (Same.sx s6)
        refine gn (σ' := [some (.ref a), some (.int (i : Int)), some (.ref p), some (.int (0 + (j : Int))), some (.int far), some (.ref g), y6, none, none, none]) rfl ?_
        -- how many
        refine ⟨_, rfl, _, rfl, small (by show 2 ≤ 5000; decide), fun l2 nl2 => ?_⟩
        have npl2 := hp6.ne nl2
        have s7 := same_new (o := HO.lst [.int 3, .int 10]) nl2
        have hl2 : (upd H6 l2 (HO.lst [.int 3, .int 10])) l2 = some (HO.lst [.int 3, .int 10]) := upd_same
        generalize upd H6 l2 (HO.lst [.int 3, .int 10]) = H7 at s7 hl2 ⊢
        have hl2 : H7 l2 = some (.lst ([3, 10].map V.int)) := hl2
        refine ⟨p, l2, _, rfl, hp6.same s7, npl2.symm, hl2, by decide, by decide, fun lim H8 hlim sx8 hp8 => ?_⟩
        obtain ⟨lim0, lim1⟩ : 0 < lim ∧ lim ≤ 10 := by
          simp only [List.mem_cons, List.not_mem_nil, or_false] at hlim
          rcases hlim with rfl | rfl
          · exact ⟨by decide, by decide⟩
          · exact ⟨by decide, by decide⟩
        refine ⟨p, lim, rfl, hp8, lim0, by omega, fun cr H9 c0 c1 sx9 hp9 => ?_⟩
        refine ⟨_, _, rfl, rfl, ?_⟩
        obtain ⟨c, hc⟩ : ∃ c : Nat, 1 + cr = (c : Int) := ⟨(1 + cr).toNat, by omega⟩
        refine gn (σ' := [some (.ref a), some (.int (i : Int)), some (.ref p), some (.int (0 + (j : Int))), some (.int far), some (.ref g), some (.int (c : Int)), none, none, none]) (by rw [← hc]; rfl) ?_
        have hg9 := sx9 _ _ npg.symm (sx8 _ _ npg.symm (s7 _ _ hg))
        have s09 := ((s06.trans (Same.sx s7)).trans sx8).trans sx9
        have hc1 : 1 ≤ c := by omega
        -- both ways
        refine ⟨_, rfl, _, rfl, g, qs, c, rfl, hg9, asc, n1, by omega, hc1, by omega, fun H11 a1 pr s11 hpr best => ?_⟩
        have k1 : 1 ≤ min c qs.length := by omega
        have pl := best.len
        have pne : pr.2 ≠ [] := fun z => by rw [z] at pl; simp at pl; omega
        have psub : ∀ s ∈ pr.2, 0 ≤ s ∧ s < far := fun s hs => hqs s (best.sub.subset hs)
        have ok : ReprOk (prD pr) := by
          refine prD_ok ?_ (fun s hs => by have := psub s hs; omega) (by omega)
          obtain ⟨b1, b2⟩ := cost_bd (M := 10 ^ 20) pne (fun x hx => by have := hqs x hx; omega) (fun s hs => by have := psub s hs; omega)
          rw [best.eq]
          omega
        refine ⟨a1, _, rfl, hpr.dq, ok, ?_⟩
        refine ⟨_, rfl, _, rfl, g, qs, c, rfl, s11 _ _ hg9, n1, n7, hc1, fun H12 a2 nn s12 hpr2 b1 b2 b3 b4 => ?_⟩
        obtain ⟨e1, e2⟩ := law_best pw best rfl k1 b1 b2 b3 b4
        have epr : (cost qs (pick qs nn), pick qs nn) = pr := by
          obtain ⟨pc, ps⟩ := pr
          rw [e1, e2]
        rw [epr] at hpr2
        refine ⟨a2, _, rfl, hpr2.dq, ok, ?_⟩
        refine ⟨rfl, _, rfl, ?_⟩
        have nes : (!decide (V.str (prD pr).shown = V.str (prD pr).shown)) = false := by simp
        rw [nes]
        refine iteF ?_
        refine tNextI ?_
        have s912 := s11.trans s12
        exact ⟨s09.trans (Same.sx s912), hp9.same s912, _, _, _, _, rfl⟩
      · rintro σ H2 ⟨sx2, hp2, y3, y4, y5, y6, rfl⟩
        refine ⟨_, rfl, p, rfl, hp2, fun H3 sx3 hp3 => ?_⟩
        refine ⟨_, rfl, ?_⟩
        refine iteF ?_
        exact ⟨keep (sx2.trans sx3), _, _, _, _, _, _, rfl⟩
    · rintro σ H0 ⟨s0, y1, y2, y3, y4, y5, y6, rfl⟩
      refine ⟨60, rfl, by decide, by decide, fun D nD => ?_⟩
      refine lc_it (walk_range (lo := 0) (n := ((60 : Int)).toNat)) (Acc H0 D fun j => V.int (3 * (j : Int))) (Acc.start nD) (fun _ _ _ _ => trivial) ?_ ?_
      · rintro j y Hc Hd hj ac ⟨rfl, rfl⟩
        have hj : j < 60 := hj
        have ez : (0 : Int) + (j : Int) = (j : Int) := Int.zero_add _
        simp only [ez]
        refine ⟨rfl, ?_⟩
        dsimp only [tYes]
        refine iteT ?_
        exact ⟨_, rfl, _, _, rfl, rfl, .inl ⟨by decide, by decide⟩, ac.turn nD (Same.refl _) (by omega) rfl⟩
      rintro H1 ⟨s1, eD⟩
      have eD : H1 D = some (.lst (L60.map V.int)) := by
        rw [eD]
        unfold L60
        rw [List.map_map]
        rfl
      refine gn (σ' := [some (.ref a), y1, y2, y3, y4, y5, y6, some (.ref D), none, none]) rfl ?_
      have l60 : L60.length = 60 := by decide +kernel
      refine ⟨_, rfl, D, L60, 60, rfl, eD, L60_asc, by omega, by omega, by decide, by decide, fun H2 a1 pr s2 hpr best => ?_⟩
      have e60 : min 60 L60.length = L60.length := by omega
      rw [e60] at best
      obtain rfl := best_all best
      have pa : ∀ {H' : Hp} {t l : Addr} {qs : List Int}, H' t = some (.tup [.int 0, .ref l]) → H' l = some (.lst (qs.map V.int)) → PrAt H' t (0, qs) := fun h1 h2 => ⟨_, h1, h2⟩
      refine ⟨_, rfl, small (by show 2 ≤ 5000; decide), fun t nt => ?_⟩
      have s3 := same_new (o := HO.tup [.int 0, .ref D]) nt
      have ht : (upd H2 t (HO.tup [.int 0, .ref D])) t = some (HO.tup [.int 0, .ref D]) := upd_same
      generalize upd H2 t (HO.tup [.int 0, .ref D]) = H3 at s3 ht ⊢
      have eD3 := s3 _ _ (s2 _ _ eD)
      refine ⟨_, _, (hpr.same s3).dq, (pa ht eD3).dq, sh_pr _, sh_pr _, _, rfl, ?_⟩
      rw [eqv_same (sh_pr _)]
      refine iteT ?_
      refine ⟨_, rfl, D, L60, 59, rfl, eD3, L60_asc, by omega, by omega, by decide, by decide, fun H4 a2 pr2 s4 hpr2 best2 => ?_⟩
      have e59 : min 59 L60.length = 59 := by omega
      rw [e59] at best2
      have h3 := best_59 best2 asc_ext
      obtain ⟨k, h1, h2⟩ := hpr2
      refine ⟨a2, _, 0, _, rfl, rfl, SqT.of h1, atI_nat (j := 0) rfl, rfl, _, rfl, ?_⟩
      have hd : decide (V.int pr2.1 = V.int 3) = true := by rw [h3]; decide
      rw [hd]
      refine iteT ?_
      refine ⟨small (by show 1 ≤ 5000; decide), fun l nl => ?_⟩
      have s5 := same_new (o := HO.lst [.int 7]) nl
      have hl : (upd H4 l (HO.lst [.int 7])) l = some (HO.lst [.int 7]) := upd_same
      generalize upd H4 l (HO.lst [.int 7]) = H5 at s5 hl ⊢
      have hl : H5 l = some (.lst (([7] : List Int).map V.int)) := hl
      refine ⟨l, [7], 60, rfl, hl, ⟨by decide, by decide⟩, by decide, by decide, by decide, by decide, fun H6 a3 pr3 s6 hpr3 best3 => ?_⟩
      have e7 : min 60 ([7] : List Int).length = ([7] : List Int).length := by decide
      rw [e7] at best3
      obtain rfl := best_all best3
      refine ⟨small (by show 1 ≤ 5000; decide), fun l' nl' => ?_⟩
      have s7 := same_new (o := HO.lst [.int 7]) nl'
      have hl' : (upd H6 l' (HO.lst [.int 7])) l' = some (HO.lst [.int 7]) := upd_same
      generalize upd H6 l' (HO.lst [.int 7]) = H7 at s7 hl' ⊢
      have hl' : H7 l' = some (.lst (([7] : List Int).map V.int)) := hl'
      refine ⟨small (by show 2 ≤ 5000; decide), fun t' nt' => ?_⟩
      have s8 := same_new (o := HO.tup [.int 0, .ref l']) nt'
      have ht' : (upd H7 t' (HO.tup [.int 0, .ref l'])) t' = some (HO.tup [.int 0, .ref l']) := upd_same
      generalize upd H7 t' (HO.tup [.int 0, .ref l']) = H8 at s8 ht' ⊢
      refine ⟨_, _, (hpr3.same (s7.trans s8)).dq, (pa ht' (s8 _ _ hl')).dq, sh_pr _, sh_pr _, ?_⟩
      rw [eqv_same (sh_pr _)]
      exact q _
end
end Sp1

set_option Elab.async false
set_option linter.all false
set_option maxRecDepth 100000
set_option maxHeartbeats 4000000
namespace Sp1
open PySem PySem.Spec PyProof.Rows L2
theorem all_mk {l : PySem.W.OpenLaw} {w : World} {K : PySem.W.Frag} {h : Heap} {mg : Str → Option Value} {fa : Addr} {fS TD : Addr} {ocS kVS dcS pmS cdS ctS : Value} {odS anS : Option Addr} {slS : Array (Option Value)} {oT : Obj} {nT : Nat} {t0 : Tok} {zQ : Int} {tQ : Tok}
    {f0 f1 f2 f3 f4 f5 f6 f7 f8 f9 f10 f11 f12 f13 f14 f15 : Addr} {fd0 fd1 fd2 fd3 fd4 fd5 fd6 fd7 fd8 fd9 fd10 fd11 fd12 fd13 fd14 fd15 : FuncData}
    (X : K.In h) (G : h.Ns mainGlobals mg) (hfa : mg "law" = some (.ref fa))
    (a0 : PySem.W.nsIn K mainGlobals "is_integer" = some (some (.ref f0))) (F0 : Fun K "is_integer" "is_integer" s_is_integer f0 fd0)
    (a1 : PySem.W.nsIn K mainGlobals "check_steps" = some (some (.ref f1))) (F1 : Fun K "check_steps" "check_steps" s_check_steps f1 fd1)
    (a2 : PySem.W.nsIn K mainGlobals "cost_between" = some (some (.ref f2))) (F2 : Fun K "cost_between" "cost_between" s_cost_between f2 fd2)
    (a3 : PySem.W.nsIn K mainGlobals "cost_before" = some (some (.ref f3))) (F3 : Fun K "cost_before" "cost_before" s_cost_before f3 fd3)
    (a4 : PySem.W.nsIn K mainGlobals "cost_behind" = some (some (.ref f4))) (F4 : Fun K "cost_behind" "cost_behind" s_cost_behind f4 fd4)
    (a5 : PySem.W.nsIn K mainGlobals "with_one_more" = some (some (.ref f5))) (F5 : Fun K "with_one_more" "with_one_more" s_with_one_more f5 fd5)
    (a6 : PySem.W.nsIn K mainGlobals "best_steps" = some (some (.ref f6))) (F6 : Fun K "best_steps" "best_steps" s_best_steps f6 fd6)
    (a7 : PySem.W.nsIn K mainGlobals "_law_stream" = some (some (.ref f7))) (F7 : Fun K "_law_stream" "_law_stream" s_l_stream f7 fd7)
    (a8 : PySem.W.nsIn K mainGlobals "_law_draw" = some (some (.ref f8))) (F8 : Fun K "_law_draw" "_law_draw" s_l_draw f8 fd8)
    (a9 : PySem.W.nsIn K mainGlobals "_law_choose" = some (some (.ref f9))) (F9 : Fun K "_law_choose" "_law_choose" s_l_choose f9 fd9)
    (a10 : PySem.W.nsIn K mainGlobals "_law_cost" = some (some (.ref f10))) (F10 : Fun K "_law_cost" "_law_cost" s_l_cost f10 fd10)
    (a11 : PySem.W.nsIn K mainGlobals "_law_best" = some (some (.ref f11))) (F11 : Fun K "_law_best" "_law_best" s_l_best f11 fd11)
    (a12 : PySem.W.nsIn K mainGlobals "_law_parts" = some (some (.ref f12))) (F12 : Fun K "_law_parts" "_law_parts" s_l_parts f12 fd12)
    (a13 : PySem.W.nsIn K mainGlobals "_law_least" = some (some (.ref f13))) (F13 : Fun K "_law_least" "_law_least" s_l_least f13 fd13)
    (a14 : PySem.W.nsIn K mainGlobals "_law_many_right" = some (some (.ref f14))) (F14 : Fun K "_law_many_right" "_law_many_right" s_l_many_right f14 fd14)
    (a15 : PySem.W.nsIn K mainGlobals "law" = some (some (.ref f15))) (F15 : Fun K "law" "law" s_law f15 fd15)
    (aS : PySem.W.nsIn K mainGlobals "check_step" = some (some (.ref fS)))
    (lS : K.lookup fS = some ⟨ocS, odS, .func (PySem.W.fnOf "check_step" "check_step" (defArgs s_check_step) (defBody s_check_step) (defScope s_check_step) (.ref TD) kVS dcS pmS anS cdS ctS), slS⟩)
    (cS : PySem.W.codeIn K cdS "check_step" = true)
    (kS : PySem.W.keepIn K (.ref fS) = true)
    (lT : K.lookup TD = some oT)
    (dT : oT.data = .seq #[.int 0 t0] nT)
    (cQ : PySem.W.nsIn K mainGlobals "MAX_QUERIES" = some (some (.int zQ tQ)))
    (eQ : zQ = 60)
    (z_isinstance : PySem.W.nsIn K mainGlobals "isinstance" = some none) (z_int : PySem.W.nsIn K mainGlobals "int" = some none) (z_bool : PySem.W.nsIn K mainGlobals "bool" = some none) (z_list : PySem.W.nsIn K mainGlobals "list" = some none) (z_len : PySem.W.nsIn K mainGlobals "len" = some none) (z_min : PySem.W.nsIn K mainGlobals "min" = some none) (z_max : PySem.W.nsIn K mainGlobals "max" = some none) (z_sum : PySem.W.nsIn K mainGlobals "sum" = some none) (z_range : PySem.W.nsIn K mainGlobals "range" = some none) (z_sorted : PySem.W.nsIn K mainGlobals "sorted" = some none) (z_set : PySem.W.nsIn K mainGlobals "set" = some none) (z_abs : PySem.W.nsIn K mainGlobals "abs" = some none) (z_enumerate : PySem.W.nsIn K mainGlobals "enumerate" = some none) (z_repr : PySem.W.nsIn K mainGlobals "repr" = some none) :
    ∃ fd : FuncData, (∀ (s : Shared) (v : Value), BindsTo s fd ⟨[v], []⟩ [("_law_script", v)]) ∧ ∀ base : Heap, K.In base → base.Ns mainGlobals mg → FnOkG l.prog w K mg base CX0 6 fa fd ["_law_script"] (sp_law K) := by
  have e := hfa.symm.trans (PySem.W.mg_of X G a15)
  cases e
  have m_isinstance := PySem.W.mg_none_of X G z_isinstance
  have m_int := PySem.W.mg_none_of X G z_int
  have m_bool := PySem.W.mg_none_of X G z_bool
  have m_list := PySem.W.mg_none_of X G z_list
  have m_len := PySem.W.mg_none_of X G z_len
  have m_min := PySem.W.mg_none_of X G z_min
  have m_max := PySem.W.mg_none_of X G z_max
  have m_sum := PySem.W.mg_none_of X G z_sum
  have m_range := PySem.W.mg_none_of X G z_range
  have m_sorted := PySem.W.mg_none_of X G z_sorted
  have m_set := PySem.W.mg_none_of X G z_set
  have m_abs := PySem.W.mg_none_of X G z_abs
  have m_enumerate := PySem.W.mg_none_of X G z_enumerate
  have m_repr := PySem.W.mg_none_of X G z_repr
  have D0 : Dn K mg "is_integer" s_is_integer ["value"] f0 fd0 := ⟨F0, PySem.W.mg_of X G a0, F0.binds (ps := ["value"]) fun _ _ _ _ _ _ us hl => match us, hl with | [_], _ => rfl⟩
  have D1 : Dn K mg "check_steps" s_check_steps ["candidate"] f1 fd1 := ⟨F1, PySem.W.mg_of X G a1, F1.binds (ps := ["candidate"]) fun _ _ _ _ _ _ us hl => match us, hl with | [_], _ => rfl⟩
  have D2 : Dn K mg "cost_between" s_cost_between ["queries", "one", "other"] f2 fd2 := ⟨F2, PySem.W.mg_of X G a2, F2.binds (ps := ["queries", "one", "other"]) fun _ _ _ _ _ _ us hl => match us, hl with | [_, _, _], _ => rfl⟩
  have D3 : Dn K mg "cost_before" s_cost_before ["queries", "at"] f3 fd3 := ⟨F3, PySem.W.mg_of X G a3, F3.binds (ps := ["queries", "at"]) fun _ _ _ _ _ _ us hl => match us, hl with | [_, _], _ => rfl⟩
  have D4 : Dn K mg "cost_behind" s_cost_behind ["queries", "at"] f4 fd4 := ⟨F4, PySem.W.mg_of X G a4, F4.binds (ps := ["queries", "at"]) fun _ _ _ _ _ _ us hl => match us, hl with | [_, _], _ => rfl⟩
  have D5 : Dn K mg "with_one_more" s_with_one_more ["queries", "between", "plans"] f5 fd5 := ⟨F5, PySem.W.mg_of X G a5, F5.binds (ps := ["queries", "between", "plans"]) fun _ _ _ _ _ _ us hl => match us, hl with | [_, _, _], _ => rfl⟩
  have D6 : Dn K mg "best_steps" s_best_steps ["queries", "count"] f6 fd6 := ⟨F6, PySem.W.mg_of X G a6, F6.binds (ps := ["queries", "count"]) fun _ _ _ _ _ _ us hl => match us, hl with | [_, _], _ => rfl⟩
  have D7 : Dn K mg "_law_stream" s_l_stream ["_law_script", "_law_k"] f7 fd7 := ⟨F7, PySem.W.mg_of X G a7, F7.binds (ps := ["_law_script", "_law_k"]) fun _ _ _ _ _ _ us hl => match us, hl with | [_, _], _ => rfl⟩
  have D8 : Dn K mg "_law_draw" s_l_draw ["_law_stream_here", "_law_count"] f8 fd8 := ⟨F8, PySem.W.mg_of X G a8, F8.binds (ps := ["_law_stream_here", "_law_count"]) fun _ _ _ _ _ _ us hl => match us, hl with | [_, _], _ => rfl⟩
  have D9 : Dn K mg "_law_choose" s_l_choose ["_law_stream_here", "_law_some"] f9 fd9 := ⟨F9, PySem.W.mg_of X G a9, F9.binds (ps := ["_law_stream_here", "_law_some"]) fun _ _ _ _ _ _ us hl => match us, hl with | [_, _], _ => rfl⟩
  have D10 : Dn K mg "_law_cost" s_l_cost ["_law_queries", "_law_kept"] f10 fd10 := ⟨F10, PySem.W.mg_of X G a10, F10.binds (ps := ["_law_queries", "_law_kept"]) fun _ _ _ _ _ _ us hl => match us, hl with | [_, _], _ => rfl⟩
  have D11 : Dn K mg "_law_best" s_l_best ["_law_queries", "_law_count"] f11 fd11 := ⟨F11, PySem.W.mg_of X G a11, F11.binds (ps := ["_law_queries", "_law_count"]) fun _ _ _ _ _ _ us hl => match us, hl with | [_, _], _ => rfl⟩
  have D12 : Dn K mg "_law_parts" s_l_parts ["_law_queries"] f12 fd12 := ⟨F12, PySem.W.mg_of X G a12, F12.binds (ps := ["_law_queries"]) fun _ _ _ _ _ _ us hl => match us, hl with | [_], _ => rfl⟩
  have D13 : Dn K mg "_law_least" s_l_least ["_law_queries", "_law_count"] f13 fd13 := ⟨F13, PySem.W.mg_of X G a13, F13.binds (ps := ["_law_queries", "_law_count"]) fun _ _ _ _ _ _ us hl => match us, hl with | [_, _], _ => rfl⟩
  have D14 : Dn K mg "_law_many_right" s_l_many_right ["_law_stream_here"] f14 fd14 := ⟨F14, PySem.W.mg_of X G a14, F14.binds (ps := ["_law_stream_here"]) fun _ _ _ _ _ _ us hl => match us, hl with | [_], _ => rfl⟩
  have D15 : Dn K mg "law" s_law ["_law_script"] fa fd15 := ⟨F15, PySem.W.mg_of X G a15, F15.binds (ps := ["_law_script"]) fun _ _ _ _ _ _ us hl => match us, hl with | [_], _ => rfl⟩
  have FS : FunD K "check_step" "check_step" (defArgs s_check_step) (defBody s_check_step) (defScope s_check_step) [V.int 0] [] fS (PySem.W.fnOf "check_step" "check_step" (defArgs s_check_step) (defBody s_check_step) (defScope s_check_step) (.ref TD) kVS dcS pmS anS cdS ctS) := ⟨⟨ocS, odS, .ref TD, kVS, dcS, pmS, anS, cdS, ctS, slS, rfl, lS, cS, .inr ⟨by simp, TD, oT, [.int 0 t0], nT, rfl, lT, dT, .cons ⟨t0, rfl⟩ .nil⟩, .inl rfl⟩, kS⟩
  have b2 : Binds K (PySem.W.fnOf "check_step" "check_step" (defArgs s_check_step) (defBody s_check_step) (defScope s_check_step) (.ref TD) kVS dcS pmS anS cdS ctS) ["candidate", "lowest"] [] := by
    obtain ⟨ds, rv, hb⟩ := FunD.binds1 (ps := ["candidate", "lowest"]) FS 2 1 (by simp) rfl fun _ _ _ _ _ _ _ us its hl hi => match us, its, hl, hi with | [_, _], [_], _, _ => ⟨_, rfl, rfl⟩
    cases rv
    exact hb
  have gS := PySem.W.mg_of X G aS
  let T : KpF K mg := { m_isinstance := m_isinstance, m_int := m_int, m_bool := m_bool, m_list := m_list, m_len := m_len, m_min := m_min, m_max := m_max, m_sum := m_sum, m_range := m_range, m_sorted := m_sorted, m_set := m_set, m_abs := m_abs, m_enumerate := m_enumerate, m_repr := m_repr, f_is_integer := f0, fd_is_integer := fd0, D_is_integer := D0, f_check_steps := f1, fd_check_steps := fd1, D_check_steps := D1, f_cost_between := f2, fd_cost_between := fd2, D_cost_between := D2, f_cost_before := f3, fd_cost_before := fd3, D_cost_before := D3, f_cost_behind := f4, fd_cost_behind := fd4, D_cost_behind := D4, f_with_one_more := f5, fd_with_one_more := fd5, D_with_one_more := D5, f_best_steps := f6, fd_best_steps := fd6, D_best_steps := D6, f__law_stream := f7, fd__law_stream := fd7, D__law_stream := D7, f__law_draw := f8, fd__law_draw := fd8, D__law_draw := D8, f__law_choose := f9, fd__law_choose := fd9, D__law_choose := D9, f__law_cost := f10, fd__law_cost := fd10, D__law_cost := D10, f__law_best := f11, fd__law_best := fd11, D__law_best := D11, f__law_parts := f12, fd__law_parts := fd12, D__law_parts := D12, f__law_least := f13, fd__law_least := fd13, D__law_least := D13, f__law_many_right := f14, fd__law_many_right := fd14, D__law_many_right := D14, t_MAX_QUERIES := tQ, c_MAX_QUERIES := by rw [← eQ]; exact PySem.W.mg_of X G cQ, f_check_step := fS, fd_check_step := (PySem.W.fnOf "check_step" "check_step" (defArgs s_check_step) (defBody s_check_step) (defScope s_check_step) (.ref TD) kVS dcS pmS anS cdS ctS), F_check_step := FS, g_check_step := gS, k_check_step := kS, b_check_step := b2 }
  obtain ⟨oc, od, kV, doc, pm, an, cdv, ct, osl, rfl, _, _⟩ := id F15.ex
  refine ⟨PySem.W.fnOf "law" "law" (defArgs s_law) (defBody s_law) (defScope s_law) .none kV doc pm an cdv ct, fun s v => .of_eq rfl, fun base _ _ => ?_⟩
  exact ok_law D15 T
end Sp1

set_option Elab.async false
set_option linter.all false
set_option maxRecDepth 100000
open PySem PySem.W PyProof.Rows in
set_option maxRecDepth 100000 in
set_option maxHeartbeats 0 in
theorem PySem.Challenge.cw_frugaltape_k83_best_steps_to_keep_holds : PySem.Challenge.rw_frugaltape_k83_best_steps_to_keep.Holds := by
  w_on; o_law; k_head; (case hw => w_witness2)
  k_fill
  refine Sp1.walk_ofG (l := PySem.Challenge.rw_frugaltape_k83_best_steps_to_keep) (n := 63) (k := 6) (x := "_law_script") (CX := fun _ => L2.CX0) (sp := fun w => Sp1.sp_law _) rfl (by decide) rfl ⟨rfl, by decide, by decide⟩ (fun w h Y => PySem.W.kIn_of Y) ?F (fun _ _ a ns hl _ _ hS => ⟨a, ns, rfl, hS, hl, fun _ => rfl⟩) fun _ _ _ _ _ z => z
  case F =>
    intro w mg fa h KX G hmg
    refine' Sp1.all_mk KX G hmg ?a0 ?F0 ?a1 ?F1 ?a2 ?F2 ?a3 ?F3 ?a4 ?F4 ?a5 ?F5 ?a6 ?F6 ?a7 ?F7 ?a8 ?F8 ?a9 ?F9 ?a10 ?F10 ?a11 ?F11 ?a12 ?F12 ?a13 ?F13 ?a14 ?F14 ?a15 ?F15 ?aS ?lS ?cS ?kS ?lT ?dT ?cQ ?eQ ?z_isinstance ?z_int ?z_bool ?z_list ?z_len ?z_min ?z_max ?z_sum ?z_range ?z_sorted ?z_set ?z_abs ?z_enumerate ?z_repr
    (case a0 => k_is)
    (case F0 => exact L2.fun_mk (by k_is) (by k_is) (by k_is))
    (case a1 => k_is)
    (case F1 => exact L2.fun_mk (by k_is) (by k_is) (by k_is))
    (case a2 => k_is)
    (case F2 => exact L2.fun_mk (by k_is) (by k_is) (by k_is))
    (case a3 => k_is)
    (case F3 => exact L2.fun_mk (by k_is) (by k_is) (by k_is))
    (case a4 => k_is)
    (case F4 => exact L2.fun_mk (by k_is) (by k_is) (by k_is))
    (case a5 => k_is)
    (case F5 => exact L2.fun_mk (by k_is) (by k_is) (by k_is))
    (case a6 => k_is)
    (case F6 => exact L2.fun_mk (by k_is) (by k_is) (by k_is))
    (case a7 => k_is)
    (case F7 => exact L2.fun_mk (by k_is) (by k_is) (by k_is))
    (case a8 => k_is)
    (case F8 => exact L2.fun_mk (by k_is) (by k_is) (by k_is))
    (case a9 => k_is)
    (case F9 => exact L2.fun_mk (by k_is) (by k_is) (by k_is))
    (case a10 => k_is)
    (case F10 => exact L2.fun_mk (by k_is) (by k_is) (by k_is))
    (case a11 => k_is)
    (case F11 => exact L2.fun_mk (by k_is) (by k_is) (by k_is))
    (case a12 => k_is)
    (case F12 => exact L2.fun_mk (by k_is) (by k_is) (by k_is))
    (case a13 => k_is)
    (case F13 => exact L2.fun_mk (by k_is) (by k_is) (by k_is))
    (case a14 => k_is)
    (case F14 => exact L2.fun_mk (by k_is) (by k_is) (by k_is))
    (case a15 => k_is)
    (case F15 => exact L2.fun_mk (by k_is) (by k_is) (by k_is))
    (case aS => k_is)
    (case lS => k_is)
    (case cS => k_is)
    (case kS => k_is)
    (case lT => k_is)
    (case dT => rfl)
    (case cQ => k_is)
    (case eQ => (first | rfl | decide +kernel))
    (case z_isinstance => k_is)
    (case z_int => k_is)
    (case z_bool => k_is)
    (case z_list => k_is)
    (case z_len => k_is)
    (case z_min => k_is)
    (case z_max => k_is)
    (case z_sum => k_is)
    (case z_range => k_is)
    (case z_sorted => k_is)
    (case z_set => k_is)
    (case z_abs => k_is)
    (case z_enumerate => k_is)
    (case z_repr => k_is)

