import PyProof.Rows.All
import Wide.All
import OpenK.AllK
import Wide.FinOn
import HandS.ForMost
import HandS.Walk
import HandS.Zip
import HandS.Gcd
import HandS.Wide
import HandS.WideMore
import HandS.Defaults
import HandS.Property
import HandS.Style
import HandS.Star
import HandS.TupAny
import HandS.IsInst
import HandS.Flow
import HandS.EndBits
import HandS.SetFor
import HandS.Strs
import HandS.TryOnly
import HandS.ForExc
import HandS.ExcInit
import HandS.RaiseMore
import KE.SortKeyHeap
import KE.DatumOrd
import KE.DataMinMax
import HandS.OwnEq
import KE.KEqDeep
import PyProof.InstNe
import HandS.List
import HandS.Exc
import PyProof.ExcBaseAll.LookupError
import PyProof.ExcBaseAll.ValueError
import KE.KExcIs
import PyProof.EqKinds
import PyProof.P3In
import PyProof.FactsAll.dict_1
import PyProof.Rows.SortStr
import PyProof.Rows.IntBool
import PyProof.StrOps2
import HandS.Text
import HandS.TupLe
import PyProof.CollectIter
import PyProof.WalksMore
import HandS.TupMul
import PySem.Challenge.RW_frugaltape_k52_invalid_programs
set_option Elab.async false
set_option linter.all false
set_option maxRecDepth 100000
namespace Sp1
open PySem PySem.Spec PyProof.Rows L2
/-- a def of the top: where it stands -/
structure Dn (K : PySem.W.Frag) (mg : Str → Option Value) (name : Str) (st : Stmt) (ps : List Str) (f : Addr) (fd : FuncData) : Prop where
  F : Fun K name name st f fd
  g : mg name = some (.ref f)
  b : Binds K fd ps []
theorem Dn.kp {K : PySem.W.Frag} {mg : Str → Option Value} {name : Str} {st : Stmt} {ps : List Str} {f : Addr} {fd : FuncData} (D : Dn K mg name st ps f fd) : PySem.W.keepIn K (.ref f) = true := D.F.kp
/-! heaps -/
theorem Same.sqt {K : PySem.W.Frag} {H H' : Hp} {a : Addr} {xs : List V} (e : Same H H') (h : SqT K H a xs) : SqT K H' a xs := by
  rcases h with (h | ⟨o, h⟩) | h
  · exact .inl (.inl (e _ _ h))
  · exact .inl (.inr ⟨o, e _ _ h⟩)
  · exact .inr h
theorem same_new {H : Hp} {p : Addr} {o : HO} (h : H p = none) : Same H (upd H p o) := fun b x e => by
  rw [upd_ne (ne_of_none e h)]
  exact e
theorem same_at {H0 H : Hp} {p : Addr} {o : HO} (h0 : H0 p = none) (s : Same H0 H) : Same H0 (upd H p o) := fun b x e => by
  rw [upd_ne (ne_of_none e h0)]
  exact s b x e
theorem pe_ty {X : Cx} {x : Str} {n : String} {pos : Pos} (hg : Gl X x) (hm : X.mg x = none) (hb : bootBuiltins x = some (.type n)) (hn : x ≠ "__name__" := by decide) (hd : (x == ("__debug__" : Str)) = false := by decide) : PE X (.Name x pos) (tC (.ty n)) := pe_bltn hg hm hb rfl hn hd
/-! tuples stay -/
def TK (H H' : Hp) : Prop := (∀ b xs, H b = some (.tup xs) → H' b = some (.tup xs)) ∧ ∀ b o u, H b = some (.frz o u) → H' b = some (.frz o u)
theorem TK.refl (H : Hp) : TK H H := ⟨fun _ _ h => h, fun _ _ _ h => h⟩
theorem TK.trans {H H1 H2 : Hp} (a : TK H H1) (b : TK H1 H2) : TK H H2 := ⟨fun c xs h => b.1 c xs (a.1 c xs h), fun c o u h => b.2 c o u (a.2 c o u h)⟩
theorem Same.tk {H H' : Hp} (s : Same H H') : TK H H' := ⟨fun b xs h => s b _ h, fun b o u h => s b _ h⟩
theorem tk_lst {H : Hp} {D : Addr} {xs : List V} {o : HO} (h : H D = some (.lst xs)) : TK H (upd H D o) := ⟨fun b ys e => by rw [upd_ne (ne_of e h (by intro z; cases z))]; exact e, fun b ob u e => by rw [upd_ne (ne_of e h (by intro z; cases z))]; exact e⟩
theorem TK.sqt {K : PySem.W.Frag} {H H' : Hp} {a : Addr} {xs : List V} (e : TK H H') (h : SqT K H a xs) : SqT K H' a xs := by
  rcases h with (h | ⟨o, h⟩) | h
  · exact .inl (.inl (e.1 _ _ h))
  · exact .inl (.inr ⟨o, e.2 _ _ _ h⟩)
  · exact .inr h
/-- all but p stands as it stood -/
def SX (p : Addr) (H H' : Hp) : Prop := ∀ b o, b ≠ p → H b = some o → H' b = some o
theorem SX.refl (p : Addr) (H : Hp) : SX p H H := fun _ _ _ h => h
theorem SX.trans {p : Addr} {H H1 H2 : Hp} (a : SX p H H1) (b : SX p H1 H2) : SX p H H2 := fun c o hc h => b c o hc (a c o hc h)
theorem Same.sx {p : Addr} {H H' : Hp} (s : Same H H') : SX p H H' := fun b o _ h => s b o h
theorem SX.new {p q : Addr} {H H' : Hp} {o : HO} (a : SX p H H') (n : H q = none) : SX p H (upd H' q o) := fun b u hb e => by
  rw [upd_ne (ne_of_none e n)]
  exact a b u hb e
theorem sx_put {r : Addr} {H : Hp} {o : HO} : SX r H (upd H r o) := fun b u hb e => by rw [upd_ne hb]; exact e
theorem Same.free {H H' : Hp} {p : Addr} (s : Same H H') (n : H' p = none) : H p = none := by
  cases e : H p with
  | none => rfl
  | some o =>
    rw [s _ _ e] at n
    cases n
theorem SX.free {p q : Addr} {H H' : Hp} (s : SX p H H') (hq : q ≠ p) (n : H' q = none) : H q = none := by
  cases e : H q with
  | none => rfl
  | some o =>
    rw [s _ _ hq e] at n
    cases n
/-- a place of two ints, the second below a bound -/
def PoolAt (H : Hp) (p : Addr) : Prop := ∃ a b : Int, H p = some (.lst [.int a, .int b]) ∧ 0 ≤ a ∧ 0 ≤ b ∧ b < 2147483647
theorem PoolAt.lst {H : Hp} {p : Addr} (h : PoolAt H p) : ∃ xs, H p = some (.lst xs) := by
  obtain ⟨a, b, h, _⟩ := h
  exact ⟨_, h⟩
theorem PoolAt.new {H : Hp} {p q : Addr} {o : HO} (h : PoolAt H p) (n : H q = none) : PoolAt (upd H q o) p := by
  obtain ⟨a, b, e, r⟩ := h
  exact ⟨a, b, by rw [upd_ne (ne_of_none e n)]; exact e, r⟩
theorem PoolAt.put {H : Hp} {p q : Addr} {o : HO} (h : PoolAt H p) (n : p ≠ q) : PoolAt (upd H q o) p := by
  obtain ⟨a, b, e, r⟩ := h
  exact ⟨a, b, by rw [upd_ne n]; exact e, r⟩
theorem PoolAt.ne {H : Hp} {p q : Addr} (h : PoolAt H p) (n : H q = none) : p ≠ q := by
  obtain ⟨xs, e⟩ := h.lst
  exact ne_of_none e n
theorem PoolAt.same {H H' : Hp} {p : Addr} (h : PoolAt H p) (s : Same H H') : PoolAt H' p := by
  obtain ⟨a, b, e, r⟩ := h
  exact ⟨a, b, s _ _ e, r⟩
theorem small1000 {n : Nat} (h : n ≤ 1000) : n < sizeLine := by rw [sizeLine_eq]; omega
/-! a comprehension's new list: its items known -/
def Acc (H1 : Hp) (D : Addr) (f : Nat → V) (i : Nat) (H : Hp) : Prop := Same H1 H ∧ H D = some (.lst ((List.range i).map f))
theorem Acc.start {H1 : Hp} {D : Addr} {f : Nat → V} (nD : H1 D = none) : Acc H1 D f 0 (upd H1 D (.lst [])) := ⟨same_new nD, upd_same⟩
theorem Acc.turn {H1 H H4 : Hp} {D : Addr} {f : Nat → V} {i : Nat} {y : V} (h : Acc H1 D f i H) (nD : H1 D = none) (s : Same H H4) (hi : i ≤ 1000) (hy : y = f i) :
    ∃ acc, H4 D = some (.lst acc) ∧ acc.length < sizeLine ∧ Acc H1 D f (i + 1) (upd H4 D (.lst (acc ++ [y]))) := by
  refine ⟨_, s _ _ h.2, ?_, same_at nD (h.1.trans s), ?_⟩
  · rw [List.length_map, List.length_range]
    exact small1000 hi
  · rw [upd_same, List.range_succ, List.map_append, hy]
    rfl
theorem int_at {u : List Int} {i : Nat} (h : i < u.length) : (u.map V.int)[i]? = some (.int u[i]) := by
  rw [List.getElem?_map, List.getElem?_eq_getElem h]
  rfl
theorem int_of {u : List Int} {i : Nat} {x : V} (h : (u.map V.int)[i]? = some x) : ∃ hi : i < u.length, x = .int u[i] := by
  have h1 := (List.getElem?_eq_some_iff.mp h).1
  rw [List.length_map] at h1
  rw [int_at h1] at h
  exact ⟨h1, (Option.some.inj h).symm⟩
theorem ixn {n j : Nat} (h : j < n) : ixN n (j : Int) = some j := by
  unfold ixN
  rw [if_pos (Int.natCast_nonneg j), if_pos (by omega)]
  rfl
abbrev rListOf (K : PySem.W.Frag) : List V → Hp → VK → Prop := fun xs H Q => ∃ p ys, xs = [V.ref p] ∧ (SqL K H p ys ∨ SqT K H p ys) ∧ ∀ l, H l = none → Q (V.ref l) (upd H l (.lst ys))
abbrev rLenSq (K : PySem.W.Frag) : List V → Hp → VK → Prop := fun xs H Q => ∃ p ys, xs = [V.ref p] ∧ (SqL K H p ys ∨ SqT K H p ys) ∧ Q (V.int ys.length) H
theorem dp_ints {K : PySem.W.Frag} {H : Hp} : ∀ u : List Int, DpAll K H (u.map V.int) (u.map PyData.int)
  | [] => .nil
  | x :: r => .cons (.int x) (dp_ints r)
theorem lay_ints : ∀ u : List Int, PyData.canLayAll0 (u.map PyData.int) = true ∧ PyData.depthAll (u.map PyData.int) = 0
  | [] => ⟨rfl, rfl⟩
  | x :: r => by
    obtain ⟨h1, h2⟩ := lay_ints r
    constructor
    · show (PyData.canLay0 (.int x) && PyData.canLayAll0 (r.map PyData.int)) = true
      rw [h1]
      rfl
    · show max (PyData.depth (.int x)) (PyData.depthAll (r.map PyData.int)) = 0
      rw [h2]
      rfl
theorem shaped_i (u : List Int) : SeqAt.shaped (.list (u.map PyData.int)) = true := by
  obtain ⟨h1, h2⟩ := lay_ints u
  exact Bool.and_eq_true_iff.mpr ⟨h1, decide_eq_true (by show PyData.depthAll _ + 1 ≤ 64; omega)⟩
theorem eqv_same {d : PyData} (h : SeqAt.shaped d = true) : PyData.eqv d d = true := PySem.SeqAt.eqv_refl _ (Bool.and_eq_true_iff.mp h).1
theorem ne_same {d : PyData} (h : SeqAt.shaped d = true) : (!PyData.eqv d d) = false := by rw [eqv_same h]; rfl
end Sp1

set_option Elab.async false
set_option linter.all false
set_option maxRecDepth 100000
set_option maxHeartbeats 4000000
namespace Sp1
open PySem PySem.Spec PyProof.Rows L2
theorem tyx_lst {K : PySem.W.Frag} {H : Hp} {l : Addr} {xs : List V} (h : H l = some (.lst xs)) : TyX K H (.ref l) (.type "list") := .base (.lst h)
theorem tyx_tup {K : PySem.W.Frag} {H : Hp} {a : Addr} {xs : List V} (h : H a = some (.tup xs)) : TyX K H (.ref a) (.type "tuple") := .base (.tup h)
/-! repr of data: how long its text is -/
mutual
theorem leaves_of_show : ∀ d : PyData, d.showable = true → d.canLay0 = true → d.hasDict = false → d.leavesShort 1921 = true
  | .none, _, _, _ => rfl
  | .bool _, _, _, _ => rfl
  | .int i, h, _, _ => by
    have h1 : i.natAbs.log2 < 1920 := by simpa only [PyData.showable, decide_eq_true_eq] using h
    have h2 := PyProof.Rows.int_text_len_1921 h1
    simp only [PyData.leavesShort, decide_eq_true_eq]
    exact h2
  | .str x, _, h, _ => PyData.leavesShort_of_canLay0 1921 (.str x) h (by simp [PyData.intsShort])
  | .list xs, h, h2, h3 => by
    simp only [PyData.leavesShort]
    exact leaves_all xs (by simpa only [PyData.showable] using h) (by simpa only [PyData.canLay0] using h2) (by simpa only [PyData.hasDict] using h3)
  | .tuple xs, h, h2, h3 => by
    simp only [PyData.leavesShort]
    exact leaves_all xs (by simpa only [PyData.showable] using h) (by simpa only [PyData.canLay0] using h2) (by simpa only [PyData.hasDict] using h3)
  | .dict kvs, _, _, h3 => by simp [PyData.hasDict] at h3
theorem leaves_all : ∀ ds : List PyData, PyData.showableAll ds = true → PyData.canLayAll0 ds = true → PyData.hasDictAll ds = false → PyData.leavesShortAll 1921 ds = true
  | [], _, _, _ => rfl
  | d :: ds, h, h2, h3 => by
    simp only [PyData.showableAll, Bool.and_eq_true] at h
    simp only [PyData.canLayAll0, Bool.and_eq_true] at h2
    simp only [PyData.hasDictAll, Bool.or_eq_false_iff] at h3
    simp only [PyData.leavesShortAll, Bool.and_eq_true]
    exact ⟨leaves_of_show d h.1 h2.1 h3.1, leaves_all ds h.2 h2.2 h3.2⟩
end
/-- what can be shown: its numbers below 2 ^ 1920, no dict, not too heavy -/
structure Shows (d : PyData) : Prop where
  sh : d.showable = true
  ly : d.canLay0 = true
  nd : d.hasDict = false
  dp : d.depth ≤ 60
  wt : d.weight ≤ 8000
theorem Shows.fits {d : PyData} (S : Shows d) : d.shown.length ≤ sizeLine := by
  have h := PyData.shown_le 1921 (by decide) d (leaves_of_show d S.sh S.ly S.nd)
  have h2 : (1921 + 2) * d.weight ≤ (1921 + 2) * 8000 := Nat.mul_le_mul_left _ S.wt
  rw [sizeLine_eq]
  omega
theorem Shows.shaped {d : PyData} (S : Shows d) : SeqAt.shaped d = true := Bool.and_eq_true_iff.mpr ⟨S.ly, decide_eq_true (by have := S.dp; omega)⟩
section
variable {X : Cx}
/-- repr(x) of a list or a tuple -/
def rRepr (K : PySem.W.Frag) : List V → Hp → VK → Prop := fun xs H Q => ∃ a d, xs = [V.ref a] ∧ Dp K H (.ref a) d ∧ Shows d ∧ Q (.str d.shown) H
theorem cr_repr (hg : X.A.guards = some []) (hu : X.A.units + 64 < cLine) : CallR X (.builtin "repr") (rRepr X.K) := by
  intro pins s σ H xs us Q I r h
  obtain ⟨a, d, rfl, hd, S, q⟩ := h
  rw [Vals.ref1 r]
  obtain ⟨as, rd⟩ := Dp.reads I d (.ref a) (.ref a) hd rfl
  have := S.dp
  refine repr_of_reads' rd S.sh (fun e => by rw [S.nd] at e; cases e) hg (by omega) (fun _ _ e => e) (fun h' u tk hk => ?_) S.fits
  exact ⟨.str d.shown, H, I.kept hk, ⟨u, rfl⟩, q⟩
end
end Sp1

set_option Elab.async false
set_option linter.all false
set_option maxRecDepth 100000
set_option maxHeartbeats 4000000
namespace Sp1
open PySem PySem.W PySem.Spec PyProof.Rows L2
section
variable {prog : Program} {w : World} {A : Around} {E : Value → Shared → Prop} {s : Shared}
/-- min(a, b) of two alike data -/
theorem min_pair_data {a b : Value} {d e : PyData} {as bs : List Addr} {Q : Value → Shared → Prop} (hh : A.handled = none) (ra : Reads s.heap a d as) (rb : Reads s.heap b e bs) (al : AlikeAll [d, e])
    (hu : A.units + 1 + PyData.depthAll [d, e] < cLine) (q : ∀ h' tk, (∀ c o, s.heap.get? c = some o → h'.get? c = some o) → Q (if dataLt e d = true then b else a) { s with heap := h', toks := tk }) :
    wpAny (model prog w) A (call (.builtin "min") [a, b]) Q E s := by
  have nm : (toString "min" ++ toString ".loop" : String) = "min.loop" := by decide
  refine call_function_tree PySem.F.kind_min PySem.F.plain_min PySem.F.entry_min (PySem.F.args_min2 _ _) (wpAny_bind (m := Builtin.Builtins.bindParams "min" ["key", "default"] 0 ⟨[], []⟩) (wpAny_of_eq (a := [none, none]) rfl ?_))
  refine wpAny_bind (m := newTuple [a, b]) (wpAny_newObj_type ?_)
  have hk1 : ∀ c o, s.heap.get? c = some o → (s.heap.push { cls := .type "tuple", data := .seq #[a, b] }).get? c = some o := fun c o x => Heap.get?_push_of_some _ x
  have hT : (s.heap.push { cls := .type "tuple", data := .seq #[a, b] }).IsTuple s.heap.objs.size #[a, b] := ⟨_, Heap.get?_push_size _ rfl, rfl, 0, rfl⟩
  have hr : ReadsAll (s.heap.push { cls := .type "tuple", data := .seq #[a, b] }) (#[a, b] : Array Value).toList [d, e] (as ++ (bs ++ [])) := .cons (Reads.keeps hk1 ra) (.cons (Reads.keeps hk1 rb) .nil)
  generalize s.heap.push { cls := .type "tuple", data := .seq #[a, b] } = h1 at hk1 hT hr ⊢
  refine wpAny_bind (iter_tupleW (A := A.in1) (s := { s with heap := h1, toks := s.toks }) hh hT fun s₂ e2 W st hfp hw hk => wpAny_bind (wpAny_newObj_type ?_))
  rw [nm]
  have nS : s₂.heap.objs.size ∉ [h1.objs.size, s.heap.objs.size] := fun hm => Nat.lt_irrefl _ (hfp _ hm)
  have W0 := W.frame 0 s₂ (s₂.heap.push { cls := .type "list", data := .seq #[] 0 }) s₂.toks st (Nat.le_refl _) fun c _ o x => Heap.get?_push_of_some _ x
  refine wpAny_pure ⟨plainId_quiet PySem.F.plain_min_loop _, codeAny_min_loop_firstH (n := (#[a, b] : Array Value).size) W h1 hw _ (cmpIn_lt (A := A.in1) (s := { s with heap := h1, toks := s.toks }) hr al (by show A.units + 1 + _ < _; exact hu)) s₂.heap.objs.size nS (fresh_in hk) _ (Nat.succ_pos 1)
    (fun c o x => Heap.get?_push_of_some _ (hk c o x)) W0 (Heap.get?_push_size _ rfl) fun v s' hP hm => ?_⟩
  obtain ⟨h', tk, rfl, hk'⟩ := moved_old (s := { s with heap := h1, toks := s.toks }) e2 rfl (Moved.drop_new (tk := s₂.toks) hm (Nat.le_refl _))
  have hv : v = if dataLt e d = true then b else a := by
    have hP' : (#[a, b] : Array Value)[argBest (fun i j => dataLt ([d, e].getD i PyData.none) ([d, e].getD j PyData.none)) 1]? = some v := hP
    have e1 : argBest (fun i j => dataLt ([d, e].getD i PyData.none) ([d, e].getD j PyData.none)) 1 = if dataLt e d = true then 1 else 0 := rfl
    rw [e1] at hP'
    cases hb : dataLt e d
    · rw [hb] at hP'
      exact (Option.some.inj hP').symm
    · rw [hb] at hP'
      exact (Option.some.inj hP').symm
  rw [hv]
  exact q h' tk fun c o x => hk' c o (hk1 c o x)
end
end Sp1

set_option Elab.async false
set_option linter.all false
set_option maxRecDepth 100000
set_option maxHeartbeats 4000000
namespace Sp1
open PySem PySem.W PySem.Spec PyProof.Rows L2
/-- a new, empty set -/
abbrev set0 (w : World) : Obj := { cls := .type "set", dict := none, data := .set #[] 0 (.fresh 0 0 (!w.params.followText "set-order")) }
section
variable {P : Program} {w : World} {A : Around} {E : Value → Shared → Prop} {s : Shared}
/-- filling a new set from a list of ints -/
theorem fill_list {l S : Addr} {vs : Array Value} {h : Heap} (ns : List Int) {R : Result → Shared → Prop} (hh : A.handled = none) (hl : h.IsList l vs) (hS : h.get? S = some (set0 w)) (hlS : l ≠ S) (hv : IntsAre vs.toList ns) (hb : ns.length + 1 < scanBound)
    (h1 : ∀ (h' : Heap) (tk c : Nat), SetR w h' S (fun j => decide (j ∈ ns)) c → c ≤ ns.length → (∀ b o, b ≠ S → h.get? b = some o → h'.get? b = some o) → R (.ok (.ret .none)) { s with heap := h', toks := tk }) :
    codeAny (model P w) A (.builtin "set.update.loop" ⟨[.ref S, .ref h.objs.size], []⟩) R { s with heap := h.push { cls := .type "list_iterator", data := .fields #[.ref l, .int 0 0] }, toks := s.toks } := by
  have lh : l < h.objs.size := by obtain ⟨_, e, _⟩ := hl; exact Heap.lt_size e
  have Sh : S < h.objs.size := Heap.lt_size hS
  have size : vs.size = ns.length := (Array.length_toList.symm).trans (IntsAre.length hv)
  have nS : S ∉ [h.objs.size, l] := fun z => by
    rcases List.mem_cons.mp z with z | z
    · exact absurd z (Nat.ne_of_lt Sh)
    · exact hlS (List.mem_singleton.mp z).symm
  refine set_update_ints (P := P) (A := A) (Walks.list (A := A.in1) hh h.objs.size l (Nat.ne_of_lt lh) vs).toS S nS ns size hb (fun i v e => ?_) vs.size 0 _ rfl (Nat.zero_le _)
    ⟨⟨_, Heap.get?_push_size _ rfl, rfl, rfl⟩, hl.push _⟩ ⟨0, Nat.le_refl 0, setR_new_at (Heap.get?_push_of_some _ hS)⟩ fun s' c m hc r => ?_
  · have hi : i < ns.length := by
      have := (Array.getElem?_eq_some_iff.mp e).1
      omega
    obtain ⟨t, x⟩ := IntsAre.int_at hv i v (by rw [Array.getElem?_toList]; exact e)
    rw [List.getD_eq_getElem?_getD, List.getElem?_eq_getElem hi] at x
    exact ⟨_, t, List.getElem?_eq_getElem hi, x⟩
  · obtain ⟨hp, g, d, tk, os⟩ := s'
    obtain ⟨mh, mg, md, mo, _⟩ := m
    dsimp only at mg md mo mh r
    subst mg md mo
    refine h1 hp tk c r (by omega) fun b o hb e => mh b o (fun z => ?_) (Heap.get?_push_of_some _ e)
    rcases List.mem_cons.mp z with z | z
    · exact hb z
    · exact absurd (List.mem_singleton.mp z) (Nat.ne_of_lt (Heap.lt_size e))
set_option maxHeartbeats 3200000 in
/-- set(l), however l is walked: Φ is what the filling of the new set leaves -/
theorem set_of_walk {l : Addr} {T : String} {od : Option Addr} {dt : Data} {sl : Array (Option Value)} {Φ : Heap → Prop} {Q : Value → Shared → Prop} (hh : A.handled = none) (e1 : s.heap.get? l = some ⟨.type T, od, dt, sl⟩)
    (f8 : isSubtype (.type T) (.type "set") = pure false) (f9 : isSubtype (.type T) (.type "frozenset") = pure false) (ne : (Value.type T == Value.type "dict") = false)
    (walk : ∀ (A' : Around) (R : Result → Shared → Prop) (E' : Value → Shared → Prop), A'.handled = none → (∀ (h' : Heap) (tk : Nat), Φ h' → (∀ b o, s.heap.get? b = some o → h'.get? b = some o) → R (.ok (.ret .none)) { s with heap := h', toks := tk }) →
      wpAny (model P w) A' (pyIter (.ref l)) (fun it z => codeAny (model P w) A' (.builtin "set.update.loop" ⟨[.ref s.heap.objs.size, it], []⟩) R z) E' { s with heap := s.heap.push (set0 w) })
    (q : ∀ (h' : Heap) (tk : Nat), Φ h' → (∀ b o, s.heap.get? b = some o → h'.get? b = some o) → Q (.ref s.heap.objs.size) { s with heap := h', toks := tk }) :
    wpAny (model P w) A (call (.type "set") [.ref l]) Q E s := by
  obtain ⟨c, tl, mro⟩ := PySem.F.called_set.mro
  have f1 := PySem.F.called_set.made
  have f2 := PySem.F.called_set.sub
  have f3 := PySem.F.called_set.notType
  have f4 := PySem.F.called_set.canCreate
  have f5 := PySem.F.typeCall_set_1 (.ref l)
  refine wpAny_call (codeAny_of_tree (wpAny_pure ⟨Code.quiet_builtin _ (by decide +kernel), codeAny_builtin PySem.F.entry_type_call ?_⟩))
  rw [Around.under_plain (weight_type_call_type "set" [.ref l] []) rfl]
  repeat (any_goals (first | assumption | wp_step))
  have hS : (s.heap.push (set0 w)).get? s.heap.objs.size = some (set0 w) := Heap.get?_push_size _ rfl
  have hk : ∀ b o, s.heap.get? b = some o → (s.heap.push (set0 w)).get? b = some o := fun b o e => Heap.get?_push_of_some _ e
  refine codeAny_mono (code_set_led1 (w := w) (.ref l) (E := E) (Q₁ := fun x z => x = .ref s.heap.objs.size ∧ z = { s with heap := s.heap.push (set0 w) }) ⟨rfl, rfl⟩) fun r z hr => ?_
  cases r with
  | error e => exact hr
  | ok fl =>
    cases fl with
    | next => exact hr.elim
    | brk => exact hr.elim
    | cont => exact hr.elim
    | ret x =>
      obtain ⟨rfl, rfl⟩ := hr
      have ty : Shared.TypeIs { s with heap := s.heap.push (set0 w) } (.ref s.heap.objs.size) "set" := ⟨_, hS, rfl⟩
      have f6 := PySem.F.called_set.init.lookup
      have f7 := PySem.F.called_set.init.bind (.ref s.heap.objs.size)
      repeat (any_goals (first | assumption | wp_step))
      refine codeAny_mono (codeAny_call_builtin (R := wants (fun r z => r = .none ∧ ∃ h' tk, z = { s with heap := h', toks := tk } ∧ Φ h' ∧ ∀ b o, s.heap.get? b = some o → h'.get? b = some o) E)
        PySem.F.called_set.init.plain PySem.F.entry_set_init (check_set_init_1 ty ?fill)) fun r z hr => ?back
      case back =>
        cases r with
        | error e => exact hr
        | ok fl =>
          cases fl with
          | next => exact hr.elim
          | brk => exact hr.elim
          | cont => exact hr.elim
          | ret x =>
            obtain ⟨rfl, h', tk, rfl, r1, r2⟩ := hr
            repeat (any_goals (first | assumption | wp_step))
            exact q h' tk r1 r2
      case fill =>
        have e4 := hk _ _ e1
        unfold Builtin.«set.__init__» noKeywords Builtin.Frozenset.updateFrom
        generalize hp : pyIter = PI
        wp_walk
        subst hp
        refine wpAny_mono (walk _ (fun r z => ∃ h' tk, r = .ok (.ret .none) ∧ z = { s with heap := h', toks := tk } ∧ Φ h' ∧ ∀ b o, s.heap.get? b = some o → h'.get? b = some o) _ (by simp [hh]) fun h' tk f k => ⟨h', tk, rfl, rfl, f, k⟩) (fun it z h => wpAny_bind (wpAny_runValue (codeAny_mono h fun r z hz => ?_))) fun _ _ e => e
        obtain ⟨h', tk, rfl, rfl, f, k⟩ := hz
        show wpAny _ _ _ _ _ _
        refine wpAny_pure ?_
        show wpAny _ _ (ret Value.none) _ _ _
        exact wpAny_pure ⟨rfl, h', tk, rfl, f, k⟩
end
end Sp1

set_option Elab.async false
set_option linter.all false
set_option maxRecDepth 100000
set_option maxHeartbeats 4000000
namespace Sp1
open PySem PySem.Spec PyProof.Rows L2
section
variable {X : Cx}
/-- set(l) of a list of ints -/
def rSetI (K : PySem.W.Frag) (w : World) : List V → Hp → VK → Prop := fun xs H Q => ∃ (l : Addr) (ns : List Int), xs = [V.ref l] ∧ SqL K H l (ns.map V.int) ∧ ns.length ≤ 1000 ∧
  ∀ (a : Addr) (n : Nat), H a = none → n ≤ ns.length → Q (.ref a) (upd H a (SetO w a (fun j => decide (j ∈ ns)) n))
theorem cr_setI (hc : X.calm = true) : CallR X (.type "set") (rSetI X.K X.w) := by
  intro pins s σ H xs us Q I r h
  obtain ⟨l, ns, rfl, hl, h1000, q⟩ := h
  rw [Vals.ref1 r]
  obtain ⟨its, rv, pl, hz⟩ := I.list hl
  obtain ⟨⟨oc, od, dt, os⟩, e1, e2, n, e3⟩ := id pl.isList
  dsimp only at e2 e3
  subst e2 e3
  have hlt : ∀ b o, s.heap.get? b = some o → b ≠ s.heap.objs.size := fun b o e => Nat.ne_of_lt (Heap.lt_size e)
  refine set_of_walk (Φ := fun h' => ∃ c, c ≤ ns.length ∧ SetR X.w h' s.heap.objs.size (fun j => decide (j ∈ ns)) c) (I.ok.hd hc) e1 PySem.F.sub_list_set PySem.F.sub_list_frozenset (by decide) (fun A' R E' hh hR => ?_) fun h' tk ⟨c, hcn, S⟩ k => ?_
  · have hl1 : (s.heap.push (set0 X.w)).IsList l its.toArray := ⟨_, Heap.get?_push_of_some _ e1, rfl, n, rfl⟩
    refine wpAny_pyIter_list hl1 ?_
    exact fill_list (s := { s with heap := s.heap.push (set0 X.w) }) (h := s.heap.push (set0 X.w)) ns hh hl1 (Heap.get?_push_size _ rfl) (hlt _ _ e1) (by simpa using RZ.intsAre_vals rv) (by unfold scanBound; omega) fun h' tk c r hc k =>
      hR h' tk ⟨c, hc, r⟩ fun b o e => k b o (hlt b o e) (Heap.get?_push_of_some _ e)
  · exact ⟨.ref _, upd H s.heap.objs.size (SetO X.w s.heap.objs.size (fun j => decide (j ∈ ns)) c), I.laid (t' := tk) k (Nat.le_refl _) (setO_new S), rfl, q _ _ (I.hok.fresh (Nat.le_refl _)) hcn⟩
/-- min(x, y) of two alike data -/
def rMin2D (K : PySem.W.Frag) : List V → Hp → VK → Prop := fun xs H Q => ∃ (x y : V) (d e : PyData), xs = [x, y] ∧ Dp K H x d ∧ Dp K H y e ∧ PySem.W.AlikeAll [d, e] ∧ PyData.depthAll [d, e] ≤ 60 ∧ Q (if PySem.W.dataLt e d = true then y else x) H
theorem cr_min2D (hc : X.calm = true) (hu : X.A.units + 64 < cLine) : CallR X (.builtin "min") (rMin2D X.K) := by
  intro pins s σ H xs us Q I r h
  obtain ⟨x, y, d, e, rfl, hx, hy, al, hd, q⟩ := h
  match us, r with
  | [u, v], .cons r1 (.cons r2 .nil) =>
    obtain ⟨as, ra⟩ := Dp.reads I d x u hx r1
    obtain ⟨bs, rb⟩ := Dp.reads I e y v hy r2
    refine min_pair_data (I.ok.hd hc) ra rb al (by omega) fun h' tk k => ?_
    refine ⟨_, H, I.kept k, ?_, q⟩
    split
    · exact r2
    · exact r1
end
end Sp1

set_option Elab.async false
set_option linter.all false
set_option maxRecDepth 100000
set_option maxHeartbeats 4000000
namespace Sp1
open PySem PySem.Spec PyProof.Rows L2
/-! a def that asks which lists and tuples are being shown: its promise where none is -/
structure FnOkG (P : Program) (w : World) (K : PySem.W.Frag) (mg : Str → Option Value) (base : Heap) (CX : CXT) (k : Nat) (f : Addr) (fd : FuncData) (ps : List Str) (sp : Sp) : Prop where
  len : ∀ vs H Q E, sp vs H Q E → vs.length = ps.length
  run : ∀ (A : Around) (outer : List Env) (s : Shared) (H : Hp) (args : Args) (us : List Value) (vs : List V) (Q : VK) (E : XK), A.guards = some [] → Room k A → Env0 P w K mg base A outer s H → BindsTo s fd args (ps.zip us) → Vals vs us →
    sp vs H Q E → codeAny (model P w) A (.call (.ref f) args) (CR CX outer P w H s Q E) s
theorem FnOk.toG {P : Program} {w : World} {K : PySem.W.Frag} {mg : Str → Option Value} {base : Heap} {CX : CXT} {k : Nat} {f : Addr} {fd : FuncData} {ps : List Str} {sp : Sp} (F : FnOk P w K mg base CX k f fd ps sp) : FnOkG P w K mg base CX k f fd ps sp :=
  ⟨F.len, fun A outer s H args us vs Q E _ => F.run A outer s H args us vs Q E⟩
theorem FnOkG.mono {P : Program} {w : World} {K : PySem.W.Frag} {mg : Str → Option Value} {base : Heap} {CX : CXT} {j k : Nat} {f : Addr} {fd : FuncData} {ps : List Str} {sp : Sp} (F : FnOkG P w K mg base CX j f fd ps sp) (h : j ≤ k) : FnOkG P w K mg base CX k f fd ps sp :=
  ⟨F.len, fun A outer s H args us vs Q E g hr => F.run A outer s H args us vs Q E g (hr.mono h)⟩
theorem fnG_of {CX : CXT} {P : Program} {w : World} {K : PySem.W.Frag} {mg : Str → Option Value} {base : Heap} {k : Nat} {f : Addr} {name qual : Str} {params : Arguments} {body : List Stmt} {scope : Scope} {dV kV doc pm cdv ct oc : Value} {an od : Option Addr} {osl : Array (Option Value)} {N ps : List Str} {sp : Sp}
    (lk : K.lookup f = some ⟨oc, od, .func (PySem.W.fnOf name qual params body scope dV kV doc pm an cdv ct), osl⟩) (hcd : PySem.W.codeIn K cdv qual = true) (S : FnScope N ps scope) (len : ∀ vs H Q E, sp vs H Q E → vs.length = ps.length)
    (hbody : ∀ (A : Around) (outer : List Env) (s : Shared) (H : Hp) (vs : List V) (Q : VK) (E : XK), A.guards = some [] → Room k (A.deeper (envOfC qual scope s.heap.objs.size f cdv)) → sp vs H Q E →
      ∃ t, PSs (cxOf CX P w K mg base N qual scope f cdv A outer s H E) body t ∧ t { nx := fun _ H' => Q .non H', rt := Q } (start N vs) H) :
    FnOkG P w K mg base CX (k + 1) f (PySem.W.fnOf name qual params body scope dV kV doc pm an cdv ct) ps sp := by
  refine ⟨len, fun A outer s H args us vs Q E hg hr e0 hb r hsp => ?_⟩
  have keep : ∀ b o, base.get? b = some o → s.heap.get? b = some o := fun b o e => (e0.bs b o e).1
  have hkind : ∀ y ∈ ps.zip us, scope.names.lookup y.1 = some .local ∨ (scope.names.lookup y.1 = some .cell ∧ ((cellsFrom (s.heap.objs.size + 1) scope.names []).lookup y.1).isSome = true) := fun y hy =>
    (S.par y.1 (List.of_mem_zip hy).1).imp id fun q => ⟨q, PySem.W.cellsFrom_some _ _ _ (.inl q)⟩
  refine codeAny_call_function hr.depth ((e0.mod.kin.keeps keep) _ _ lk) rfl S.co S.gen rfl (PySem.W.codeRec_of (e0.mod.kin.keeps keep) hcd) (hb _ _ _ _ (wpAny_newFunctionEnv_cells S.kind hkind fun env he s1 x => ?_))
  subst he
  refine ⟨(e0.mod.nolimit.keeps keep).keeps x.toInCall.keep, codeAny_func ?_⟩
  obtain ⟨t, ht, hq⟩ := hbody A outer s H vs Q E hg (hr.deeper _) hsp
  refine wpAny_mono (ht.run [] s1 (start N vs) H _ (inv_start S hr.hd e0 (len _ _ _ _ hsp) r x) hq) (fun fl s' hs => ?_) fun e s' hs => hs
  match fl, hs with
  | .ret u, ⟨v, σ', H', J, rv, q⟩ => exact ⟨v, H', J.os, J.bare, J.base, J.hok, rv, q⟩
  | .next, ⟨σ', H', J, q⟩ => exact ⟨V.non, H', J.os, J.bare, J.base, J.hok, rfl, q⟩
  | .brk, ⟨_, _, _, q⟩ => exact False.elim q
  | .cont, ⟨_, _, _, q⟩ => exact False.elim q
section
variable {P : Program} {w : World} {K : PySem.W.Frag} {mg : Str → Option Value} {base : Heap}
theorem Fun.okG {x qual : Str} {st : Stmt} {f : Addr} {fd : FuncData} {N ps : List Str} {k : Nat} {sp : Sp} (F : Fun K x qual st f fd) (S : FnScope N ps (defScope st)) (len : ∀ vs H Q E, sp vs H Q E → vs.length = ps.length)
    (hbody : ∀ (cdv : Value) (A : Around) (outer : List Env) (s : Shared) (H : Hp) (vs : List V) (Q : VK) (E : XK), A.guards = some [] → Room k (A.deeper (envOfC qual (defScope st) s.heap.objs.size f cdv)) → sp vs H Q E →
      ∃ t, PSs (cxOf CX0 P w K mg base N qual (defScope st) f cdv A outer s H E).nox (defBody st) t ∧ t { nx := fun _ H' => Q .non H', rt := Q } (start N vs) H) : FnOkG P w K mg base CX0 (k + 1) f fd ps sp := by
  obtain ⟨oc, od, kV, doc, pm, an, cdv, ct, osl, rfl, lk, hcd⟩ := F.ex
  exact fnG_of lk hcd S len fun A outer s H vs Q E hg hr hsp => (hbody cdv A outer s H vs Q E hg hr hsp).imp fun t h => ⟨h.1.nox, h.2⟩
end
section
variable {X : Cx} {CX : CXT} {k : Nat} {f C : Addr} {fd : FuncData} {ps : List Str} {sp : Sp} {dvs : List V} {ds : List Value} {E : XK} {x m : Str} {p pos apos : Pos} {e o : Expr} {es : List Expr} {ta : TE} {t : TA}
theorem run_fnG {pins : List (Addr × Obj)} {σ : L2.St} {H : Hp} {s : Shared} {Q : VK} {us : List Value} {vs : List V} (F : FnOkG X.prog X.w X.K X.mg X.base CX k f fd ps sp) (g : X.A.guards = some []) (hr : Room k X.A) (hb : Binds X.K fd ps ds) (hd : Vals dvs ds) (hx : Passes CX X E)
    (I : Inv X pins σ H s) (r : Vals vs us) (h : sp (vs ++ dvs) H Q E) : wpAny (model X.prog X.w) X.A (call (.ref f) us) (EP X pins σ Q) X.xe s := by
  have r2 := r.append hd
  refine wpAny_call (codeAny_mono (F.run X.A X.stack s H ⟨us, []⟩ (us ++ ds) (vs ++ dvs) Q E g hr I.env0 (hb s us I.kIn (by rw [← r2.length]; exact F.len _ _ _ _ h)) r2 h) fun r s' hq => ?_)
  match r, hq with
  | .error e, hq => exact hx pins σ H s e s' I hq
  | .ok (.ret u), hq => exact I.after hq
theorem pe_callG (F : FnOkG X.prog X.w X.K X.mg X.base CX k f fd ps sp) (g : X.A.guards = some []) (hr : Room k X.A) (hg : Gl X x) (hm : X.mg x = some (.ref f)) (hk : PySem.W.keepIn X.K (.ref f) = true) (hb : Binds X.K fd ps ds) (hd : Vals dvs ds) (hx : Passes CX X E)
    (ha : PA X (e :: es) t) (hdb : (x == ("__debug__" : Str)) = false := by decide) (he : starEach (e :: es) X.env = (false, eval e X.env) :: starEach es X.env := by rfl) (hpl : (backTo pos (starEach es X.env)).any (·.1) = false := by rfl) :
    PE X (.Call (.Name x p) (e :: es) [] pos) (tCall sp dvs E t) := ⟨fun pins s σ H Q I h => wpAny_Call_Name_kw (ld_glob I hg hm (PySem.W.callWith_K (h₀ := X.base) I.ok.mod.kin hk
    (thn (ha.run pos pins s σ H _ I h) fun us s1 ⟨vs, H1, I1, r, q⟩ => ⟨I1.kIn, run_fnG F g hr hb hd hx I1 r q⟩) he hpl) hdb)⟩
end
/-! the head -/
section
variable {P : Program} {w : World} {K : PySem.W.Frag} {mg mb : Str → Option Value}
/-- the state behind the top, the script alone told -/
theorem env_top {a : Addr} {vs : List Value} {z : Shared} {H : Hp} (KX : K.In z.heap) (hn : z.heap.Ns mainGlobals mg) (hb : z.heap.Ns builtinsNs mb) (hbb : ∀ x : Str, x ≠ "__name__" → mb x = bootBuiltins x) (hm : z.heap.NoLimit) (hg : z.gens = #[])
    (ha : z.heap.get? a = some { cls := .type "list", data := .seq vs.toArray }) (ok : HOk P w H z.heap) (hA : ∀ b, H b ≠ none → b = a) (hK : H a ≠ none → K.lookup a = none) : K.In (hidT z.heap H) ∧ (hidT z.heap H).Ns mainGlobals mg ∧ Env0 P w K mg (hidT z.heap H) callerA [] z H := by
  have off : ∀ {b : Addr} {o : Obj} {es : Array DictEntry} {n : Nat}, z.heap.get? b = some o → o.data = .dict es n → H b = none := fun {b o es n} e d => by
    rcases Option.eq_none_or_eq_some (H b) with q | ⟨u, q⟩
    · exact q
    · obtain rfl := hA b (by rw [q]; exact fun z => nomatch z)
      rw [ha] at e
      cases e
      cases d
  have ns : ∀ {b : Addr} {m : Str → Option Value}, z.heap.Ns b m → (hidT z.heap H).Ns b m := fun {b m} ⟨o, es, n, e, d, r⟩ => ⟨o, es, n, hidT_get e (off e d), d, r⟩
  have kin : K.In (hidT z.heap H) := fun b o e => by
    refine hidT_get (KX b o e) ?_
    rcases Option.eq_none_or_eq_some (H b) with q | ⟨u, q⟩
    · exact q
    · obtain rfl := hA b (by rw [q]; exact fun z => nomatch z)
      rw [hK (by rw [q]; exact fun z => nomatch z)] at e
      cases e
  obtain ⟨mc, l1, l2⟩ := hm
  exact ⟨kin, ns hn, rfl, ⟨kin, ns hn, ⟨mb, ns hb, hbb⟩, mc, ns l1, l2⟩, fun b o e => of_hidT e, Nat.le_of_eq (hidT_size _ _), trivial, (fun b hb => by cases hb), ok, .of_eq hg⟩
theorem law_callG {CX : CXT} {k : Nat} {fa a : Addr} {fd : FuncData} {x : Str} {sp : Sp} {z : Shared} {vs : List Value} {ns : List Int}
    (KX : K.In z.heap) (hn : z.heap.Ns mainGlobals mg) (hb : z.heap.Ns builtinsNs mb) (hbb : ∀ x : Str, x ≠ "__name__" → mb x = bootBuiltins x) (hm : z.heap.NoLimit) (hg : z.gens = #[])
    (ha : z.heap.get? a = some { cls := .type "list", data := .seq vs.toArray }) (hi : IntsAre vs ns) (hl : ns.length ≤ sizeLine) (hr : Room k callerA)
    (F : ∀ base : Heap, K.In base → base.Ns mainGlobals mg → FnOkG P w K mg base CX k fa fd [x] sp) (bind : ∀ (s : Shared) (u : Value), BindsTo s fd ⟨[u], []⟩ [(x, u)])
    (hsp : ∀ H : Hp, Only H → SqL K H a (ns.map V.int) → sp [.ref a] H (fun v _ => v = .bl true) fun _ _ _ => False) (hCX : ∀ H e s', CX [] H z (fun _ _ _ => False) e s' → False) :
    codeAny (model P w) callerA (.call (.ref fa) ⟨[.ref a], []⟩) (fun r s' => r = .ok (.ret (.bool true)) ∧ OldK z.heap s'.heap ∧ s'.os = z.os ∧ AllBare s'.gens) z := by
  have rv := vals_ints hi
  have from_ : ∀ H : Hp, Only H → SqL K H a (ns.map V.int) → HOk P w H z.heap → (∀ b, H b ≠ none → b = a) → (H a ≠ none → K.lookup a = none) →
      codeAny (model P w) callerA (.call (.ref fa) ⟨[.ref a], []⟩) (fun r s' => r = .ok (.ret (.bool true)) ∧ OldK z.heap s'.heap ∧ s'.os = z.os ∧ AllBare s'.gens) z := by
    intro H hO hS ok hA hK
    obtain ⟨k1, k2, e0⟩ := env_top KX hn hb hbb hm hg ha ok hA hK
    refine codeAny_mono ((F _ k1 k2).run callerA [] z H _ [.ref a] [.ref a] _ _ rfl hr e0 (bind z (.ref a)) (.cons rfl .nil) (hsp H hO hS)) fun r s' h => ?_
    match r, h with
    | .error e, h => exact (hCX H e s' h).elim
    | .ok (.ret u), ⟨v, H', os, bare, un, ok', r', (q : v = V.bl true)⟩ =>
      subst q
      refine ⟨congrArg (fun t => Except.ok (Flow.ret t)) (show u = Value.bool true from r'), OldK.of_keep fun b o e => ?_, os, bare⟩
      rcases hO b with q | ⟨ob, xs, q⟩
      · exact un.keep b o e q (fun y => nomatch y) (fun y => nomatch y)
      · obtain ⟨e1, _⟩ := ok b _ q
        obtain ⟨e2, _⟩ := ok' b _ (un.frzs b ob _ q)
        rw [← Option.some.inj (e.symm.trans e1)] at e2
        exact e2
  rcases Option.eq_none_or_eq_some (K.lookup a) with hk | ⟨o, hk⟩
  · refine from_ (fun b => if b = a then some (.frz { cls := .type "list", data := .seq vs.toArray } (.lst (ns.map V.int))) else none) (fun b => ?_) (.inl (.inr ⟨_, if_pos rfl⟩)) (fun b u y => ?_) (fun b y => ?_) fun _ => hk
    · rcases Decidable.em (b = a) with e | e
      · exact .inr ⟨_, _, if_pos e⟩
      · exact .inl (if_neg e)
    · rcases Decidable.em (b = a) with e | e
      · have y' := (if_pos e).symm.trans y
        cases y'
        subst e
        exact ⟨ha, by rw [List.length_map]; exact hl, vs, _, rv, ha⟩
      · have y' := (if_neg e).symm.trans y
        cases y'
    · rcases Decidable.em (b = a) with e | e
      · exact e
      · exact absurd (if_neg e) y
  · have e := Option.some.inj ((KX a o hk).symm.trans ha)
    subst e
    exact from_ (fun _ => none) (fun _ => .inl rfl) (.inr ⟨_, vs.toArray, _, hk, rfl, rfl, rfl, by rw [List.size_toArray, hi.length]; exact hl, by simpa using rv⟩) (fun b u y => by cases y) (fun b y => absurd rfl y) fun y => absurd rfl y
end
theorem walk_ofG {l : PySem.W.OpenLaw} {n k : Nat} {q : Program} {loose : List Str} {XP : (Str → Option Value) → Heap → Prop} {YP : World → Heap → Prop} {d : DefRec} {K : Params → PySem.W.Frag} {CX : World → CXT} {sp : World → Sp} {x : Str}
    (hn : l.most = some n) (hn2 : n ≤ sizeLine) (hdf : d.params.defaults = []) (hr : Room k callerA) (hY : ∀ (w : World) (h : Heap), YP w h → (K w.params).In h)
    (F : ∀ (w : World) (mg : Str → Option Value) (fa : Addr) (h : Heap), (K w.params).In h → h.Ns mainGlobals mg → mg d.name = some (.ref fa) →
      ∃ fd : FuncData, (∀ (s : Shared) (u : Value), BindsTo s fd ⟨[u], []⟩ [(x, u)]) ∧ ∀ base : Heap, (K w.params).In base → base.Ns mainGlobals mg → FnOkG l.prog w (K w.params) mg base (CX w) k fa fd [x] (sp w))
    (hsp : ∀ (w : World) (H : Hp) (a : Addr) (ns : List Int), ns.length ≤ n → (∀ z ∈ ns, Builtin.Int.intBits z ≤ 1048576) → Only H → SqL (K w.params) H a (ns.map V.int) → sp w [.ref a] H (fun v _ => v = .bl true) fun _ _ _ => False)
    (hCX : ∀ (w : World) (H : Hp) (s : Shared) (e : Value) (s' : Shared), CX w [] H s (fun _ _ _ => False) e s' → False) : PySem.W.WalkO q loose XP YP l.row.toRowW d [] (fun f vs => PySem.call f vs) :=
  Att.attach_callB hn hdf fun w s₀ s₁ mg mb fa o pm cd doc a vs ns G Y ho hd hcd hmg hobj hints hlen hbits hg =>
    have ⟨fd, hb, hF⟩ := F w mg fa _ (hY w _ Y) G.T.g hmg
    law_callG (hY w _ Y) G.T.g G.T.b G.T.builtins G.T.nolimit hg hobj hints (Nat.le_trans hlen hn2) hr hF hb (fun H hO hS => hsp w H a ns hlen hbits hO hS) fun H e s' => hCX w H s₁ e s'
end Sp1

set_option Elab.async false
set_option linter.all false
set_option maxRecDepth 100000
set_option maxHeartbeats 4000000
namespace Sp1
open PySem PySem.W PySem.Spec PyProof.Rows L2
/-! sets of texts: made from texts that differ, counted, sorted -/
def skey (e : Int × Value) : Str := match e.2 with
  | .str x _ => x
  | _ => Str.empty
def GoodT (w : World) (e : Int × Value) : Prop := ∃ x tk, e.2 = Value.str x tk ∧ e.1 = hashStr w x
/-- the set of the texts xs (in some order) at a -/
structure SetS (w : World) (h : Heap) (a : Addr) (xs : List Str) : Prop where
  nd : xs.Nodup
  at_ : ∃ o es ep t, h.get? a = some o ∧ o.ExactSet ∧ o.data = .set es ep t ∧ (∀ e ∈ es.toList, GoodT w e) ∧ (es.toList.map skey).Perm xs ∧ es.size < scanBound ∧ t.fits es.size = true ∧ Ris t.place.toList ∧ (w.params.followText "set-order" = true ∨ t.led = true)
theorem SetS.keeps {w : World} {h h' : Heap} {a : Addr} {xs : List Str} (S : SetS w h a xs) (k : ∀ o, h.get? a = some o → h'.get? a = some o) : SetS w h' a xs := by
  obtain ⟨nd, o, es, ep, t, ho, r⟩ := S
  exact ⟨nd, o, es, ep, t, k o ho, r⟩
section
variable {P : Program} {w : World} {A : Around} {E : Value → Shared → Prop} {s : Shared}
theorem good_elemsT {l : List (Int × Value)} (g : ∀ e ∈ l, GoodT w e) : ElemsOf (strKind P w) l := fun e he => by
  obtain ⟨x, tk, h1, h2⟩ := g e he
  refine ⟨⟨x, ?_, h2⟩, ?_⟩
  · rw [h1]
    exact strKind_is P w x tk
  · rw [h1]
    rfl
theorem isStr_iff {x k : Str} {tk : Tok} : (strKind P w).is k (.str x tk) = true ↔ x = k := by
  constructor
  · intro h
    obtain ⟨u, hu⟩ := Value.isStrOf_shape (show Value.isStrOf k (.str x tk) = true from h)
    injection hu
  · rintro rfl
    exact strKind_is P w _ tk
/-- the tail of an add: stored, the table laid anew where it is too full -/
theorem addT_tail {a : Addr} {g : Bool → Sem Unit} (hg : ∀ (b : Bool) (s₁ : Shared) (Q' : Unit → Shared → Prop), Q' () s₁ → wpAny (model P w) A (g b) Q' E s₁) {o : Obj} {es : Array (Int × Value)} {ep : Nat} {t : SetTable} (ho : s.heap.get? a = some o) (hex : o.ExactSet) (hd : o.data = .set es ep t)
    {es1 : Array (Int × Value)} {t2 : SetTable} {xs : List Str} (nd : xs.Nodup) (g1 : ∀ e ∈ es1.toList, GoodT w e) (p1 : (es1.toList.map skey).Perm xs) (hb : es1.size < scanBound) (hf : t2.fits es1.size = true) (hr : Ris t2.place.toList) (hl : w.params.followText "set-order" = true ∨ t2.led = true) {b0 : Bool} {R : Option Bool → Shared → Prop}
    (hR : ∀ h', Heap.SameBut a s.heap h' → SetS w h' a xs → R (some true) { s with heap := h' }) :
    wpAny (model P w) A (do storeSet a es1 t2; if (!b0 && t2.tooFull) = true then do g (relayAll t2 es1 (SetTable.grown es1.size)).2.2; storeSet a (relayAll t2 es1 (SetTable.grown es1.size)).1 (relayAll t2 es1 (SetTable.grown es1.size)).2.1; pure (some true) else pure (some true)) R E s := by
  refine wpAny_bind (wpAny_storeSet_of ho hd ?_ (fits_of_scanBound hb))
  have o1 := store_at (es' := es1) (t' := t2) ho hd
  have b1 := Heap.SameBut.update s.heap a (Obj.putSet es1 t2)
  rcases Bool.eq_false_or_eq_true (!b0 && t2.tooFull) with c | c
  · rw [if_pos c]
    have q1 := relayAll_perm t2 es1 (SetTable.grown es1.size)
    have q2 := relayAll_fits t2 es1 (SetTable.grown es1.size)
    have q3 := relayAll_ris t2 es1 (SetTable.grown es1.size)
    have q4 := relayAll_led t2 es1 (SetTable.grown es1.size)
    generalize relayAll t2 es1 (SetTable.grown es1.size) = Z at q1 q2 q3 q4 ⊢
    obtain ⟨es2, t3, gave⟩ := Z
    have sz : es2.size = es1.size := (Array.length_toList.symm.trans q1.length_eq).trans Array.length_toList
    refine wpAny_bind (hg _ _ _ (wpAny_bind (wpAny_storeSet_of o1 rfl ?_ (fits_of_scanBound (by rw [sz]; exact hb)))))
    exact wpAny_pure (hR _ (b1.trans (Heap.SameBut.update _ a _)) ⟨nd, _, es2, _, t3, store_at (es' := es2) (t' := t3) o1 rfl, hex, rfl, fun e he => g1 e (q1.mem_iff.mp he), (q1.map skey).trans p1, by rw [sz]; exact hb, q2, q3, hl.imp id fun z => by rw [q4]; exact z⟩)
  · rw [if_neg (by rw [c]; exact Bool.false_ne_true)]
    exact wpAny_pure (hR _ b1 ⟨nd, _, es1, _, t2, o1, hex, rfl, g1, p1, hb, hf, hr, hl⟩)
/-- a text that is not in it is added -/
theorem addT_new {a : Addr} {k : Str} {tk : Tok} {xs : List Str} {Q : Bool → Shared → Prop} (S : SetS w s.heap a xs) (new : k ∉ xs) (room : xs.length + 1 < scanBound) (q : ∀ h', Heap.SameBut a s.heap h' → SetS w h' a (k :: xs) → Q true { s with heap := h' }) :
    wpAny (model P w) A (setAddHashed a (.str k tk) ((strKind P w).hash k)) Q E s := by
  obtain ⟨nd, o, es, ep, t, ho, hex, hd, g, hp, hb, hf, hr, hl⟩ := S
  have sc : (Value.str k tk).scannable = true := rfl
  have el : ElemsOf (strKind P w) es.toList := good_elemsT g
  have no : List.findIdx? (fun e => (strKind P w).is k e.2) es.toList = none := by
    refine List.findIdx?_eq_none_iff.mpr fun e he => ?_
    obtain ⟨x, tk', h1, _⟩ := g e he
    rw [h1]
    refine Bool.eq_false_iff.mpr fun z => new ?_
    have hx : skey e = k := by
      unfold skey
      rw [h1]
      exact isStr_iff.mp z
    exact hp.mem_iff.mp (List.mem_map.mpr ⟨e, he, hx⟩)
  unfold setAddHashed setAddHashedIn
  refine wpAny_holding (wpAny_bind (wpAny_setState_of ho hd hf ?_))
  dsimp only
  rw [byScan_of sc hb el]
  simp only [↓reduceIte]
  unfold setAddByScan
  refine wpAny_bind (wpAny_bind (wpAny_rule (wpAny_bind (wpAny_setScan_of (strKind_is P w k tk) ho hd hf el ?_))))
  rw [no]
  dsimp only
  have q1 := layNew_perm t es ((strKind P w).hash k) (.str k tk)
  have q2 := layNew_fits t es ((strKind P w).hash k) (.str k tk)
  have q3 := layNew_ris t es ((strKind P w).hash k) (.str k tk) hr
  have q4 := layNew_led t es ((strKind P w).hash k) (.str k tk)
  generalize layNew t es ((strKind P w).hash k) (.str k tk) = Z at q1 q2 q3 q4 ⊢
  obtain ⟨es1, t1, b0, gave⟩ := Z
  dsimp only at q1 q2 q3 q4 ⊢
  rw [Array.toList_push] at q1
  have pc := q1.trans (List.perm_append_singleton _ _)
  have pk : (es1.toList.map skey).Perm (k :: xs) := (pc.map skey).trans (hp.cons k)
  have g1 : ∀ e ∈ es1.toList, GoodT w e := fun e he => (List.mem_cons.mp (pc.mem_iff.mp he)).elim (fun z => ⟨k, tk, by rw [z], by rw [z]; rfl⟩) (g e)
  have nd1 : (k :: xs).Nodup := List.nodup_cons.mpr ⟨new, nd⟩
  have sz : es1.size = xs.length + 1 := by
    have := pk.length_eq
    rw [List.length_map, Array.length_toList] at this
    exact this
  have hb1 : es1.size < scanBound := by rw [sz]; exact room
  have hl1 : w.params.followText "set-order" = true ∨ t1.led = true := hl.imp id fun z => by rw [q4]; exact z
  have free : ∀ (b : Bool) (s₁ : Shared) (Q' : Unit → Shared → Prop), Q' () s₁ → wpAny (model P w) A (match b with | true => rule "set.scan.the-table-gave-way" | false => pure ()) Q' E s₁ := fun b s₁ Q' z => by
    cases b
    · exact wpAny_pure z
    · exact wpAny_rule z
  refine wpAny_bind (free _ _ _ ?_)
  split
  · refine wpAny_bind ?_
    rw [hashByValue_scannable 8 sc]
    refine wpAny_pure ?_
    refine addT_tail (xs := k :: xs) ?_ ho hex hd nd1 g1 pk hb1 ?_ ?_ ?_ ?_
    · intro b s₁ Q' z
      cases b <;> first | exact wpAny_pure z | exact wpAny_rule z
    · first | (split <;> first | exact q2 | exact SetTable.fits_plain_off q2) | exact q2
    · first | (split <;> exact q3) | exact q3
    · first | (split <;> exact hl1) | exact hl1
    · intro h' sb r
      exact wpAny_pure (q h' sb r)
  · refine wpAny_bind (wpAny_pure ?_)
    simp only [↓reduceIte]
    refine addT_tail (xs := k :: xs) ?_ ho hex hd nd1 g1 pk hb1 q2 q3 hl1 ?_
    · intro b s₁ Q' z
      cases b <;> first | exact wpAny_pure z | exact wpAny_rule z
    · intro h' sb r
      exact wpAny_pure (q h' sb r)
/-- one after another -/
theorem updT {I : Addr} {fp wr : List Addr} {G : Array GenState → Array GenState → Prop} {n : Nat} {Pv : Nat → Value → Prop} {St : Nat → Shared → Prop} {R : Result → Shared → Prop} (W : WalksS P w A.in1 I fp wr G n Pv St) (S : Addr) (hS : S ∉ fp) (xs : List Str) (nd : xs.Nodup) (hn : n = xs.length)
    (hb : xs.length + 1 < scanBound) (val : ∀ i v, Pv i v → ∃ k t, xs[i]? = some k ∧ v = .str k t) : ∀ (m i : Nat) (z : Shared) (ys : List Str), n - i = m → i ≤ n → St i z → SetS w z.heap S ys → ys.Perm (xs.take i) →
      (∀ z' ys, Moved (S :: wr) G z z' → SetS w z'.heap S ys → ys.Perm xs → R (.ok (.ret .none)) z') → codeAny (model P w) A (.builtin "set.update.loop" ⟨[.ref S, .ref I], []⟩) R z := by
  have hSw : S ∉ wr := fun h => hS (W.sub _ h)
  have sub : ∀ b ∈ wr, b ∈ S :: wr := fun b => List.mem_cons_of_mem _
  intro m
  induction m with
  | zero =>
    intro i z ys hm hi hst hSet hp hR
    obtain rfl : i = n := by omega
    refine codeAny_builtin PyProof.Rows.F.entry_set_update_loop ?_
    rw [Around.under_plainId PyProof.Rows.F.plain_set_update_loop _]
    refine wpAny_bind (m := pyNext (.ref I)) (W.done z _ _ hst fun z' hm => ?_)
    rw [List.take_of_length_le (by omega)] at hp
    exact wpAny_pure (hR z' ys (hm.mono sub) (hSet.keeps fun o e => hm.heap S o hSw e) hp)
  | succ m ih =>
    intro i z ys hm hi hst hSet hp hR
    have lt : i < n := by omega
    refine codeAny_builtin PyProof.Rows.F.entry_set_update_loop ?_
    rw [Around.under_plainId PyProof.Rows.F.plain_set_update_loop _]
    refine wpAny_bind (m := pyNext (.ref I)) (W.item i z _ _ lt hst fun v z' hv hst' hm => ?_)
    obtain ⟨k, t, hk, rfl⟩ := val i v hv
    have S' := hSet.keeps (h' := z'.heap) fun o e => hm.heap S o hSw e
    have new : k ∉ ys := fun c => by
      obtain ⟨j, hj, e⟩ := List.mem_iff_getElem.mp (hp.mem_iff.mp c)
      rw [List.length_take] at hj
      rw [List.getElem_take] at e
      obtain ⟨hi', e2⟩ := List.getElem?_eq_some_iff.mp hk
      exact absurd (e.trans e2.symm) (List.pairwise_iff_getElem.mp nd j i (by omega) hi' (by omega))
    have yl : ys.length ≤ i := by rw [hp.length_eq, List.length_take]; omega
    refine wpAny_bind (m := holding [Value.str k t] (setAdd S (.str k t))) (wpAny_holding ?_)
    unfold setAdd
    refine wpAny_holding (wpAny_bind ((strKind P w).pyHash (strKind_is P w k t) ?_))
    refine addT_new (s := { z' with toks := z'.toks + 1 }) S' new (by omega) fun h' sb r => ?_
    refine wpAny_pure ⟨plainId_quiet PyProof.Rows.F.plain_set_update_loop _, ih (i + 1) _ (k :: ys) (by omega) lt (W.frame _ z' _ _ hst' (Nat.le_succ _) fun b hb o e => ?_) r ?_ fun z'' ys' hm'' r' p' => ?_⟩
    · rw [sb.2 b (fun h : b = S => hS (by rw [← h]; exact hb))]
      exact e
    · rw [List.take_add_one, hk]
      exact (hp.cons k).trans (List.perm_append_singleton _ _).symm
    · refine hR z'' ys' (Moved.trans W.gtrans ((hm.mono sub).then_heap (Nat.le_succ _) fun b o hb e => ?_) hm'') r' p'
      rw [sb.2 b (fun h : b = S => hb (by rw [h]; exact List.mem_cons_self))]
      exact e
end
end Sp1

set_option Elab.async false
set_option linter.all false
set_option maxRecDepth 100000
set_option maxHeartbeats 4000000
namespace Sp1
open PySem PySem.W PySem.Spec PyProof.Rows L2
def SetSO (w : World) (a : Addr) (xs : List Str) : HO := .ext fun h => SetS w h a xs
section
variable {P : Program} {w : World} {A : Around} {s : Shared}
/-- filling a new set from texts that differ, by any walk over them -/
theorem fillT {S I : Addr} {h0 : Heap} {vs : Array Value} {xs : List Str} {it : Obj} {St : Nat → Shared → Prop} {R : Result → Shared → Prop} (hS : h0.get? S = some (set0 w)) (hI : I = h0.objs.size) {l : Addr} (W : WalksS P w A.in1 I [I, l] [I] (fun a b => b = a) vs.size (fun i v => vs[i]? = some v) St) (hl : l < h0.objs.size) (hlS : l ≠ S)
    (hv : StrsAre vs.toList xs) (nd : xs.Nodup) (hb : xs.length + 1 < scanBound) (st : St 0 { s with heap := h0.push it })
    (h1 : ∀ (h' : Heap) (tk : Nat) ys, SetS w h' S ys → ys.Perm xs → (∀ b o, b ≠ S → h0.get? b = some o → h'.get? b = some o) → R (.ok (.ret .none)) { s with heap := h', toks := tk }) :
    codeAny (model P w) A (.builtin "set.update.loop" ⟨[.ref S, .ref I], []⟩) R { s with heap := h0.push it } := by
  have Sh : S < h0.objs.size := Heap.lt_size hS
  have size : vs.size = xs.length := (Array.length_toList.symm).trans hv.length
  have nS : S ∉ [I, l] := fun z => by
    rcases List.mem_cons.mp z with z | z
    · rw [hI] at z
      exact absurd z (Nat.ne_of_lt Sh)
    · exact hlS (List.mem_singleton.mp z).symm
  have empty : SetS w (h0.push it) S [] := ⟨List.nodup_nil, _, #[], 0, _, Heap.get?_push_of_some _ hS, ⟨rfl, rfl, rfl⟩, rfl, (fun e he => by simp at he), (List.Perm.refl _), by decide, rfl, List.Pairwise.nil, by
    cases h : w.params.followText "set-order"
    · exact .inr rfl
    · exact .inl rfl⟩
  refine updT (P := P) (A := A) W S nS xs nd size hb (fun i v e => ?_) vs.size 0 _ [] rfl (Nat.zero_le _) st empty (List.Perm.refl _) fun s' ys m r p => ?_
  · have hi : i < xs.length := by
      have := (Array.getElem?_eq_some_iff.mp e).1
      omega
    obtain ⟨y, t, x, z⟩ := hv.item i v (by rw [Array.getElem?_toList]; exact e)
    exact ⟨y, t, z, x⟩
  · obtain ⟨hp, g, d, tk, os⟩ := s'
    obtain ⟨mh, mg, md, mo, _⟩ := m
    dsimp only at mg md mo mh r
    subst mg md mo
    refine h1 hp tk ys r p fun b o hb e => mh b o (fun z => ?_) (Heap.get?_push_of_some _ e)
    rcases List.mem_cons.mp z with z | z
    · exact hb z
    · have z := List.mem_singleton.mp z
      rw [hI] at z
      exact absurd z (Nat.ne_of_lt (Heap.lt_size e))
end
section
variable {X : Cx}
theorem setSO_new {w : World} {P : Program} {H : Hp} {h : Heap} {a : Addr} {xs : List Str} (R : SetS w h a xs) : ObjOk P w H h a (SetSO w a xs) := by
  have ⟨_, o, _, _, _, ho, _⟩ := R
  exact ⟨R, ⟨o, ho⟩, fun h1 h2 p k => SetS.keeps p k⟩
theorem setSO_get {pins : List (Addr × Obj)} {σ : L2.St} {H : Hp} {s : Shared} {a : Addr} {xs : List Str} (I : Inv X pins σ H s) (ha : H a = some (SetSO X.w a xs)) : SetS X.w s.heap a xs := (I.hok a _ ha).1
/-- set(l) of a list or a tuple of texts that differ -/
def rSetT (K : PySem.W.Frag) (w : World) : List V → Hp → VK → Prop := fun vs H Q => ∃ (l : Addr) (xs : List Str), vs = [V.ref l] ∧ (SqL K H l (xs.map V.str) ∨ SqT K H l (xs.map V.str)) ∧ xs.Nodup ∧ xs.length ≤ 1000 ∧
  ∀ (a : Addr) (ys : List Str), H a = none → ys.Perm xs → Q (.ref a) (upd H a (SetSO w a ys))
theorem cr_setT (hc : X.calm = true) : CallR X (.type "set") (rSetT X.K X.w) := by
  intro pins s σ H vs us Q I r h
  obtain ⟨l, xs, rfl, hq, nd, h1000, q⟩ := h
  rw [Vals.ref1 r]
  have hlt : ∀ b o, s.heap.get? b = some o → b ≠ s.heap.objs.size := fun b o e => Nat.ne_of_lt (Heap.lt_size e)
  have fin : ∀ (h' : Heap) (tk : Nat), (∃ ys, SetS X.w h' s.heap.objs.size ys ∧ ys.Perm xs) → (∀ b o, s.heap.get? b = some o → h'.get? b = some o) → EP X pins σ Q (.ref s.heap.objs.size) { s with heap := h', toks := tk } :=
    fun h' tk ⟨ys, S, p⟩ k => ⟨.ref _, upd H s.heap.objs.size (SetSO X.w s.heap.objs.size ys), I.laid (t' := tk) k (Nat.le_refl _) (setSO_new S), rfl, q _ _ (I.hok.fresh (Nat.le_refl _)) p⟩
  have push : ∀ b o, s.heap.get? b = some o → (s.heap.push (set0 X.w)).get? b = some o := fun b o e => Heap.get?_push_of_some _ e
  rcases hq with hl | hl
  · obtain ⟨its, rv, pl, hz⟩ := I.list hl
    obtain ⟨⟨oc, od, dt, os⟩, e1, e2, n, e3⟩ := id pl.isList
    dsimp only at e2 e3
    subst e2 e3
    refine set_of_walk (Φ := fun h' => ∃ ys, SetS X.w h' s.heap.objs.size ys ∧ ys.Perm xs) (I.ok.hd hc) e1 PySem.F.sub_list_set PySem.F.sub_list_frozenset (by decide) (fun A' R E' hh hR => ?_) fin
    have hl1 : (s.heap.push (set0 X.w)).IsList l its.toArray := ⟨_, push _ _ e1, rfl, n, rfl⟩
    have lt1 := Heap.lt_size (push _ _ e1)
    refine wpAny_pyIter_list hl1 ?_
    exact fillT (s := s) (h0 := s.heap.push (set0 X.w)) (Heap.get?_push_size _ rfl) rfl (Walks.list (A := A'.in1) hh _ l (Nat.ne_of_lt lt1) its.toArray).toS lt1 (hlt _ _ e1) (by simpa using rv.strs) nd (by unfold scanBound; omega)
      ⟨⟨_, Heap.get?_push_size _ rfl, rfl, rfl⟩, hl1.push _⟩ fun h' tk ys S p k => hR h' tk ⟨ys, S, p⟩ fun b o e => k b o (hlt b o e) (push b o e)
  · obtain ⟨its, rv, pl, hz⟩ := I.tuple hl
    obtain ⟨⟨oc, od, dt, os⟩, e1, e2, n, e3⟩ := id pl
    dsimp only at e2 e3
    subst e2 e3
    refine set_of_walk (Φ := fun h' => ∃ ys, SetS X.w h' s.heap.objs.size ys ∧ ys.Perm xs) (I.ok.hd hc) e1 PySem.F.sub_tuple_set PySem.F.sub_tuple_frozenset (by decide) (fun A' R E' hh hR => ?_) fin
    have hl1 : (s.heap.push (set0 X.w)).IsTuple l its.toArray := ⟨_, push _ _ e1, rfl, n, rfl⟩
    have lt1 := Heap.lt_size (push _ _ e1)
    refine wpAny_pyIter_tuple hl1 ?_
    exact fillT (s := s) (h0 := s.heap.push (set0 X.w)) (Heap.get?_push_size _ rfl) rfl (Walks.tuple (A := A'.in1) hh _ l (Nat.ne_of_lt lt1) its.toArray).toS lt1 (hlt _ _ e1) (by simpa using rv.strs) nd (by unfold scanBound; omega)
      ⟨⟨_, Heap.get?_push_size _ rfl, rfl, rfl⟩, hl1.push _⟩ fun h' tk ys S p k => hR h' tk ⟨ys, S, p⟩ fun b o e => k b o (hlt b o e) (push b o e)
/-- len of such a set -/
theorem cr_lenT : CallR X (.builtin "len") (fun vs H Q => ∃ a xs, vs = [V.ref a] ∧ H a = some (SetSO X.w a xs) ∧ Q (.int (xs.length : Nat)) H) := by
  intro pins s σ H vs us Q I r h
  obtain ⟨a, xs, rfl, ha, q⟩ := h
  rw [Vals.ref1 r]
  obtain ⟨nd, o, es, ep, t, ho, hex, hd, g, hp, hb, hf, _⟩ := setSO_get I ha
  have sz : es.size = xs.length := by
    have := hp.length_eq
    rw [List.length_map, Array.length_toList] at this
    exact this
  exact call_len_set ho hex hd hf (by have : scanBound = 4096 := rfl; omega) ⟨.int (xs.length : Nat), H, I.tok _, ⟨_, by rw [sz]⟩, q⟩
/-- sorted of such a set, fewer than 64 texts -/
theorem cr_sortedT2 (hc : X.calm = true) : CallR X (.builtin "sorted") (fun vs H Q => ∃ a xs, vs = [V.ref a] ∧ H a = some (SetSO X.w a xs) ∧ xs.length < 64 ∧ ∀ ys p, ys.Perm xs → sortedS ys = true → H p = none → Q (.ref p) (upd H p (.lst (ys.map V.str)))) := by
  intro pins s σ H vs us Q I r h
  obtain ⟨a, xs, rfl, ha, h64, q⟩ := h
  rw [Vals.ref1 r]
  obtain ⟨nd, o, es, ep, t, ho, hex, hd, g, hp, hb, hf, hr, hl⟩ := setSO_get I ha
  refine Calls.call_function_entry kind_sorted plain_sorted entry_sorted (args_sorted1 _) ?_
  unfold Builtin.«sorted»
  refine wpAny_bind (m := checkCount "sorted" 1 1 _) (wpAny_pure ?_)
  refine wpAny_bind (collect_set (A := X.A.in1) (I.ok.hd hc) ⟨o, ho, hex.1, hd⟩ hf hb hr hl fun s1 vs k1 hz g1 o1 pm => ?_)
  have vl : vs.length = xs.length := by rw [pm.length_eq, List.length_map, ← hp.length_eq, List.length_map]
  have hS : StrsAre vs (vs.map PyProof.Rows.strOf) := by
    have q1 := strsAre_map vs fun v hv => by
      obtain ⟨e, he, rfl⟩ := List.mem_map.mp (pm.mem_iff.mp hv)
      obtain ⟨x, tk, h1, _⟩ := g e he
      exact ⟨x, tk, h1⟩
    exact q1
  have pv : (vs.map PyProof.Rows.strOf).Perm xs := by
    refine (pm.map PyProof.Rows.strOf).trans ?_
    rw [List.map_map]
    have e1 : es.toList.map (PyProof.Rows.strOf ∘ (·.2)) = es.toList.map skey := List.map_congr_left fun e he => by
      obtain ⟨x, tk, h1, _⟩ := g e he
      show PyProof.Rows.strOf e.2 = skey e
      unfold skey
      rw [h1]
      rfl
    rw [e1]
    exact hp
  refine wpAny_bind (wpAny_newList ?_ (by rw [vl, sizeLine_eq]; omega))
  have hL : (s1.heap.push (seqObj "list" vs.toArray 0)).get? s1.heap.objs.size = some (seqObj "list" vs.toArray 0) := Heap.get?_push_size _ rfl
  refine wpAny_bind (wpAny_holding (wpAny_call_entry PyProof.Rows.slot_list_sort ⟨_, hL, rfl⟩ PyProof.Rows.entry_list_sort (PyProof.Rows.list_sort_treeK PyProof.Rows.strKind_oneLt hL hS.keysOf (fun v₁ v₂ rest e => PyProof.Rows.keyKind_strs (by rw [← e]; exact hS)) (by rw [vl]; exact h64) fun st' hp' hs' => ⟨_, rfl, ?_⟩) (PyProof.Rows.args_list_sort _)))
  obtain ⟨ys, y1, y2, y3⟩ := PyProof.Rows.sorted_out_str hS hp' hs'
  obtain ⟨c, hc'⟩ := PyProof.Rows.sortedHeap_at (vs := vs) (out := (arrOf st').map (·.2)) hL
  have yl : (ys.map V.str).length ≤ sizeLine := by rw [List.length_map, y2.length_eq, pv.length_eq, sizeLine_eq]; omega
  have old : ∀ b u, s.heap.get? b = some u → (sortedHeap (s1.heap.push (seqObj "list" vs.toArray 0)) s1.heap.objs.size vs ((arrOf st').map (·.2))).get? b = some u := fun b u e => by
    have e1 := k1 b u e
    have lt := Heap.lt_size e1
    rw [PyProof.Rows.sortedHeap_old (Nat.ne_of_lt lt) (by rw [size_push']; exact Nat.lt_succ_of_lt lt)]
    exact Heap.get?_push_of_some _ e1
  have hn : H s1.heap.objs.size = none := I.hok.fresh hz
  generalize hU : sortedHeap (s1.heap.push (seqObj "list" vs.toArray 0)) s1.heap.objs.size vs ((arrOf st').map (·.2)) = h2 at hc' old
  have J : Inv X pins σ (upd H s1.heap.objs.size (.lst (ys.map V.str))) { s with heap := h2, gens := s1.gens, drawn := s1.drawn, toks := s1.toks } :=
    I.call (ch := []) (Un.laid old hz hn) (I.hok.laid old hz ⟨yl, _, c, vals_of_strs y1, hc'⟩) (by rw [g1]; exact I.bare) (fun _ z => nomatch z)
  refine wpAny_pure ⟨.ref s1.heap.objs.size, rfl, .ref _, upd H s1.heap.objs.size (.lst (ys.map V.str)), ?_, rfl, q ys _ (y2.trans pv) y3 hn⟩
  cases s1
  cases s
  cases o1
  exact J
end
end Sp1

set_option Elab.async false
set_option linter.all false
set_option maxRecDepth 100000
set_option maxHeartbeats 4000000
namespace PySem.W
open PySem PySem.Calls PyProof.Rows Builtin
section
variable {prog : Program} {w : World} {A : Around} {E : Value → Shared → Prop} {s : Shared} {K : Frag} {x C L f : Addr} {h₀ : Heap} {m : Str → Option Value} {ox : Obj} {od : Option Obj} {b tb : Value}
theorem own_ne_K {Q : Value → Shared → Prop} (hu : A.units < cLine) (hu1 : A.in1.units < cLine) (FF : Fr h₀ L s.heap m) (X₀ : K.In h₀) (I : InstAt s.heap x ox C od) (hb : Looks (model prog w) s.heap (typeOf b) tb) (hn : notFirst K C tb = true)
    (hs : findIn K (.ref C) "__eq__" = some (some (.ref f))) (hf : isFn K (.ref f) = true) (hne : findIn K (.ref C) "__ne__" = some (some (.builtin "object.__ne__"))) (hm : mroIn K C (.type "object") = some true)
    (h : wpAny (model prog w) A.in1 (call (.ref f) [.ref x, b]) (fun v s' => ∃ c, v = .bool c ∧ Q (.bool (!c)) s') E s) : wpAny (model prog w) A (richCompare .NotEq (.ref x) b) Q E s := by
  have X := X₀.keeps FF.keep
  have hi : Looks (model prog w) s.heap (isInstance (.ref x) (.type "object")) true := I.type.andThen (looks_mroIn X hm)
  have body : ∀ R : Result → Shared → Prop, (∀ c s', Q (.bool c) s' → R (.ok (.ret (.bool c))) s') → (∀ e s', E e s' → R (.error e) s') →
      wpAny (model prog w) A.in1 (Builtin.«object.__ne__» ⟨[.ref x, b], []⟩) (GQ.FinOf prog w A R) (fun e s' => R (.error e) s') s := by
    intro R hR hE
    unfold Builtin.«object.__ne__»
    repeat (first
      | with_reducible refine wpAny_cRoomFor hu1 ?_
      | (refine wpAny_bind (m := callSpecialIfBound? (.ref x) (Str.ofString "__eq__") [b])
          (ifBound_K X I hs hf (wpAny_mono h (fun r s' hr => by
            obtain ⟨c, rfl, hq⟩ := hr
            have hq' := hR _ _ hq
            repeat (first | exact hq' | exact wpAny_pure hq' | exact wpAny_truthy_bool hq' | (refine wpAny_bind (m := truthy (.bool _)) (wpAny_truthy_bool ?_)) | wp_step)) fun _ _ e => hE _ _ e)))
      | wp_step)
  have own_call : ∀ {Q' : Value → Shared → Prop}, wpAny (model prog w) A.in1 (Builtin.«object.__ne__» ⟨[.ref x, b], []⟩) (GQ.FinOf prog w A (wants Q' E)) (fun e s' => wants Q' E (.error e) s') s → wpAny (model prog w) A (call (.builtin "object.__ne__") ([.ref x] ++ [b])) Q' E s := fun h =>
    wpAny_call (codeAny_call_builtin F.cmp_object.ne.plain F.cmpEntry_ne (check_slot F.cmpKind_ne F.cmpSplit_ne hi (F.cmpArgs_ne _ _) h))
  have one : wpAny (model prog w) A (tryCompare (.ref x) "__ne__" b) (fun r s' => ∃ v, r = some v ∧ Q v s') E s := by
    unfold tryCompare
    refine wpAny_bind ?_
    simp only [callSpecialIfBound?, bindSpecialIfBound?]
    refine wpAny_holding (wpAny_bind (wpAny_bind (wpAny_bind (I.type.here ((looks_findIn X hne).here ?_)))))
    refine wpAny_bind (wpAny_askSetting (wpAny_ite ?_))
    have hbd := F.cmp_object.ne.bind (.ref x)
    have fin : wpAny (model prog w) A (call (.builtin "object.__ne__") ([.ref x] ++ [b]) >>= fun v => pure (some v)) (fun r s' => wpAny (model prog w) A (match r with | some .notImplemented | none => pure none | some v => pure (some v)) (fun r s' => ∃ v, r = some v ∧ Q v s') E s') E s := by
      refine wpAny_bind (own_call (body _ (fun c s' q => ?_) (fun e s' q => q)))
      exact wpAny_pure (wpAny_pure ⟨_, rfl, q⟩)
    split
    · rw [hbd]
      exact wpAny_bind (wpAny_pure (wpAny_pure (by exact fin)))
    · rw [hbd]
      exact wpAny_tryCatch (wpAny_bind (wpAny_pure (wpAny_pure (by exact fin))))
  unfold richCompare
  simp only [oneThing_ref]
  refine wpAny_holding (wpAny_bind (wpAny_cRoomFor hu ?_))
  refine wpAny_bind (I.type.here (wpAny_bind (hb.here ?_)))
  split
  · rename_i q
    have e : subIn K tb (.ref C) = some false := by
      rcases Bool.or_eq_true_iff.mp hn with e | e
      · rw [beq_iff_eq.mp e] at q; simp at q
      · exact beq_iff_eq.mp e
    refine wpAny_bind ((looks_subIn X e).here ?_)
    simp only [Bool.false_eq_true, if_false]
    refine wpAny_bind (wpAny_mono one (fun r s' z => ?_) fun _ _ e => e)
    obtain ⟨v, rfl, hq⟩ := z
    exact wpAny_pure hq
  · refine wpAny_bind (wpAny_pure ?_)
    simp only [Bool.false_eq_true, if_false]
    refine wpAny_bind (wpAny_mono one (fun r s' z => ?_) fun _ _ e => e)
    obtain ⟨v, rfl, hq⟩ := z
    exact wpAny_pure hq
end
end PySem.W

namespace Sp1
open PySem PySem.Spec PyProof.Rows L2
section
variable {X : Cx} {pins : List (Addr × Obj)} {σ : L2.St} {H : Hp} {s : Shared}
abbrev in1x (X : Cx) : Cx := { X with A := X.A.in1 }
theorem inv_in1 (I : Inv X pins σ H s) : Inv (in1x X) pins σ H s :=
  ⟨⟨I.ok.mod, I.ok.kind, I.ok.glob, I.ok.blt, I.ok.above, I.ok.inj, I.ok.has, I.ok.cab, I.ok.hd, I.ok.frames, I.ok.stk, I.ok.exf, I.ok.bs, I.ok.bsz, I.ok.noex, I.ok.exfs, I.ok.funs, I.ok.frf⟩, I.os, I.bare, I.base, I.loc, I.cell, I.free, I.freeC, I.pin, I.hok, I.len⟩
theorem inv_out1 (ok : X.Ok) (I : Inv (in1x X) pins σ H s) : Inv X pins σ H s :=
  ⟨ok, I.os, I.bare, I.base, I.loc, I.cell, I.free, I.freeC, I.pin, I.hok, I.len⟩
end
section
variable {X : Cx}
/-- what is read of the second operand of an own == -/
abbrev rOwnCmp (K : PySem.W.Frag) (C : Addr) (sp : Sp) (g : Bool → V) : R2 := fun x y H Q => ∃ a dx fs t, x = V.ref a ∧ H a = some (.ins C dx fs) ∧ TyX K H y t ∧ PySem.W.notFirst K C t = true ∧ sp [.ref a, y] H (fun v H' => ∃ b : Bool, v = .bl b ∧ Q (g b) H') (fun _ _ _ => False)
theorem op_eqOwn {k : Nat} {C f : Addr} {fd : FuncData} {sp : Sp} {a1 a2 : Str} (F : FnOk X.prog X.w X.K X.mg X.base CX0 k f fd [a1, a2] sp) (hr : Room (k + 1) X.A) (hb : L2.Binds X.K fd [a1, a2] [])
    (hs : PySem.W.findIn X.K (.ref C) "__eq__" = some (some (.ref f))) (hf : PySem.W.isFn X.K (.ref f) = true) : OpR X (compareOp .Eq) (rOwnCmp X.K C sp V.bl) := by
  intro pins s σ H x y v u Q I rx ry h
  obtain ⟨a, dx, fs, t, rfl, ea, ty, hn, q⟩ := h
  obtain rfl : v = Value.ref a := rx
  obtain ⟨mA, O, _, _, _, _⟩ := ins_get I.hok ea
  obtain ⟨od, J, _⟩ := O.look
  obtain ⟨m, Fm⟩ := I.fr
  obtain ⟨P, Z, p, _⟩ := kit_of I ry ty
  refine PySem.W.cmp_K (op := .Eq) hr.units0 Fm I.ok.mod.kin J (Z.ty _ _ I.kIn p) hn hs hf ?_
  refine thn (run_fn (X := X) (vs := [.ref a, y]) (us := [.ref a, u]) F (hr.mono (by omega)) hb .nil pass0 I (.cons rfl (.cons ry .nil)) q) fun w s' hw => ?_
  obtain ⟨z, H', I', rv, b, rfl, q'⟩ := hw
  obtain rfl : w = Value.bool b := rv
  exact ⟨.bl b, H', I', rfl, q'⟩
theorem op_neOwn {k : Nat} {C f : Addr} {fd : FuncData} {sp : Sp} {a1 a2 : Str} (F : FnOk X.prog X.w X.K X.mg X.base CX0 k f fd [a1, a2] sp) (hr : Room (k + 2) X.A) (hb : L2.Binds X.K fd [a1, a2] [])
    (hs : PySem.W.findIn X.K (.ref C) "__eq__" = some (some (.ref f))) (hf : PySem.W.isFn X.K (.ref f) = true) (hne : PySem.W.findIn X.K (.ref C) "__ne__" = some (some (.builtin "object.__ne__"))) (hm : PySem.W.mroIn X.K C (.type "object") = some true) :
    OpR X (compareOp .NotEq) (rOwnCmp X.K C sp fun b => V.bl (!b)) := by
  intro pins s σ H x y v u Q I rx ry h
  obtain ⟨a, dx, fs, t, rfl, ea, ty, hn, q⟩ := h
  obtain rfl : v = Value.ref a := rx
  obtain ⟨mA, O, _, _, _, _⟩ := ins_get I.hok ea
  obtain ⟨od, J, _⟩ := O.look
  obtain ⟨m, Fm⟩ := I.fr
  obtain ⟨P, Z, p, _⟩ := kit_of I ry ty
  have hr' : Room (k + 1) X.A := hr.mono (by omega)
  refine PySem.W.own_ne_K hr.units0 hr.in1.units0 Fm I.ok.mod.kin J (Z.ty _ _ I.kIn p) hn hs hf hne hm ?_
  refine thn (run_fn (X := in1x X) (vs := [.ref a, y]) (us := [.ref a, u]) F hr'.in1 hb .nil pass0 (inv_in1 I) (.cons rfl (.cons ry .nil)) q) fun w s' hw => ?_
  obtain ⟨z, H', I', rv, b, rfl, q'⟩ := hw
  obtain rfl : w = Value.bool b := rv
  exact ⟨b, rfl, .bl (!b), H', inv_out1 I.ok I', rfl, q'⟩
end
/-- what isinstance and object.__ne__ ask of a class -/
structure ObIs (K : PySem.W.Frag) (C : Addr) : Prop where
  ha : PySem.W.findIn K (.ref C) "__class__" = some (some (.builtin "object.__class__"))
  hn : PySem.W.specialIn K (.builtin "object.__class__") "__get__" = some (some (.builtin "getset_descriptor.__get__"))
  ht : PySem.W.takesIn K (.builtin "object.__class__") = some true
  hm : PySem.W.mroIn K C (.type "object") = some true
theorem ty_ins {K : PySem.W.Frag} {C : Addr} {H : Hp} {a : Addr} {dx : Addr} {fs : List (Str × V)} (h1 : H a = some (.ins C dx fs)) (c : Cls K C) (I : ObIs K C) : TyX K H (.ref a) (.ref C) := .base (.ins h1 c I.ha I.hn I.ht I.hm)
theorem kit_self {K : PySem.W.Frag} {t : Value} : PySem.W.kitOne K t t = some true := by
  unfold PySem.W.kitOne
  rw [if_pos (by simp)]
theorem first_self {K : PySem.W.Frag} {C : Addr} : PySem.W.notFirst K C (.ref C) = true := by
  unfold PySem.W.notFirst
  simp
/-! equal data -/
mutual
def plainD : PyData → Bool
  | .int _ => true
  | .str _ => true
  | .tuple ds => plainAll ds
  | _ => false
def plainAll : List PyData → Bool
  | [] => true
  | d :: ds => plainD d && plainAll ds
end
theorem plainAll_iff {ds : List PyData} : plainAll ds = true ↔ ∀ d ∈ ds, plainD d = true := by
  induction ds with
  | nil => simp [plainAll]
  | cons d r ih => simp [plainAll, ih]
mutual
theorem eqv_eq : ∀ d e : PyData, plainD d = true → plainD e = true → PyData.eqv d e = true → d = e
  | .int i, .int j, _, _, h => by
    have h : decide (i = j) = true := h
    rw [of_decide_eq_true h]
  | .str i, .str j, _, _, h => by
    have h : decide (i = j) = true := h
    rw [of_decide_eq_true h]
  | .tuple ds, .tuple es, h1, h2, h => by
    simp only [plainD] at h1 h2
    rw [eqvAll_eq ds es h1 h2 h]
  | .int _, .str _, _, _, h => by cases h
  | .int _, .tuple _, _, _, h => by cases h
  | .str _, .int _, _, _, h => by cases h
  | .str _, .tuple _, _, _, h => by cases h
  | .tuple _, .int _, _, _, h => by cases h
  | .tuple _, .str _, _, _, h => by cases h
  | .none, _, h, _, _ => by simp [plainD] at h
  | .bool _, _, h, _, _ => by simp [plainD] at h
  | .list _, _, h, _, _ => by simp [plainD] at h
  | .dict _, _, h, _, _ => by simp [plainD] at h
  | _, .none, _, h, _ => by simp [plainD] at h
  | _, .bool _, _, h, _ => by simp [plainD] at h
  | _, .list _, _, h, _ => by simp [plainD] at h
  | _, .dict _, _, h, _ => by simp [plainD] at h
theorem eqvAll_eq : ∀ ds es : List PyData, plainAll ds = true → plainAll es = true → PyData.eqvAll ds es = true → ds = es
  | [], [], _, _, _ => rfl
  | [], _ :: _, _, _, h => by cases h
  | _ :: _, [], _, _, h => by cases h
  | d :: ds, e :: es, h1, h2, h => by
    simp only [plainAll, Bool.and_eq_true] at h1 h2
    have h : (PyData.eqv d e && PyData.eqvAll ds es) = true := h
    rw [Bool.and_eq_true] at h
    rw [eqv_eq d e h1.1 h2.1 h.1, eqvAll_eq ds es h1.2 h2.2 h.2]
end
theorem eqv_ne {d e : PyData} (h1 : plainD d = true) (h2 : plainD e = true) (h : d ≠ e) : PyData.eqv d e = false := by
  rw [Bool.eq_false_iff]
  exact fun z => h (eqv_eq d e h1 h2 z)
end Sp1

set_option Elab.async false
set_option linter.all false
set_option maxRecDepth 100000
set_option maxHeartbeats 4000000
/-! t[::-1], t a tuple -/
namespace HT
open PySem PyProof.Rows
section
variable {prog : Program} {w : World} {A : Around} {E : Value → Shared → Prop} {s : Shared}
theorem places_rev (n : Nat) : Builtin.Slice.slicePlaces ((n : Int) - 1) (-1) (-1) = n := by
  unfold Builtin.Slice.slicePlaces
  have h1 : ¬ ((-1 : Int) > 0) := by omega
  simp only [h1, if_false]
  by_cases h : (n : Int) - 1 > -1
  · rw [if_pos h, show -(-1 : Int) = 1 from rfl, Int.ediv_one]
    omega
  · rw [if_neg h]
    omega
theorem sliceApplied_rev {sl : Addr} {tk : Tok} {n : Nat} {Q : Int × Int × Nat → Shared → Prop} (hs : s.heap.IsSliceOf sl .none .none (.int (-1) tk))
    (h : Q ((n : Int) - 1, -1, n) s) : wpAny (model prog w) A (Builtin.Slice.sliceApplied (.ref sl) (pure (n : Int))) Q E s := by
  obtain ⟨os, hos, hcs, hds⟩ := id hs
  unfold Builtin.Slice.sliceApplied Builtin.Slice.sliceFields
  refine wpAny_bind (wpAny_bind (wpAny_field hos hds (x := .none) rfl (wpAny_bind (wpAny_field hos hds (x := .none) rfl (wpAny_bind (wpAny_field hos hds (x := .int (-1) tk) rfl (wpAny_pure ?_)))))))
  refine wpAny_bind (slicePart_int ?_)
  show wpAny _ _ (if ((-1 : Int) == 0) = true then _ else _) _ _ s
  rw [if_neg (by decide)]
  refine wpAny_bind (slicePart_none (wpAny_bind (slicePart_none (wpAny_bind (wpAny_pure ?_)))))
  show wpAny _ _ (pure ((n : Int) - 1, (-1 : Int), Builtin.Slice.slicePlaces ((n : Int) - 1) (-1) (-1))) _ _ s
  rw [places_rev]
  exact wpAny_pure h
theorem pick_rev (xs : Array Value) : ((List.range xs.size).filterMap fun (m : Nat) => xs[((xs.size : Int) - 1 + (m : Int) * -1).toNat]?).toArray = xs.toList.reverse.toArray := by
  congr 1
  have e : ∀ n, n ≤ xs.size → ((List.range n).filterMap fun (m : Nat) => xs[((xs.size : Int) - 1 + (m : Int) * -1).toNat]?) = xs.toList.reverse.take n := by
    intro n
    induction n with
    | zero => intro _; simp
    | succ n ih =>
      intro hn
      rw [List.range_succ, List.filterMap_append, ih (by omega)]
      have e1 : ((xs.size : Int) - 1 + (n : Int) * -1).toNat = xs.size - 1 - n := by omega
      have hl : n < xs.toList.reverse.length := by simp; omega
      rw [List.take_add_one, List.getElem?_eq_getElem hl]
      simp only [List.filterMap_cons, List.filterMap_nil, e1, Option.toList]
      have h2 : xs.size - 1 - n < xs.size := by omega
      rw [Array.getElem?_eq_getElem h2]
      simp [List.getElem_reverse]
  rw [e _ (Nat.le_refl _)]
  exact List.take_of_length_le (by simp)
theorem getItem_tuple_rev {t sl : Addr} {items : Array Value} {tk : Tok} {Q : Value → Shared → Prop} (ht : IsTup s.heap t items) (hs : s.heap.IsSliceOf sl .none .none (.int (-1) tk))
    (h : Q (.ref s.heap.objs.size) { s with heap := s.heap.push { cls := .type "tuple", data := .seq items.toList.reverse.toArray } })
    (hsz : items.size ≤ sizeLine) : wpAny (model prog w) A (getItem (.ref t) (.ref sl)) Q E s := by
  have htake : sizeOk (.seq items.toList.reverse.toArray) := by
    show items.toList.reverse.toArray.size ≤ sizeLine
    rw [List.size_toArray, List.length_reverse, Array.length_toList]
    exact hsz
  obtain ⟨os, hos, hcs, hds⟩ := id hs
  have hTs : s.TypeIs (.ref sl) "slice" := ⟨os, hos, hcs⟩
  unfold getItem
  try with_reducible refine wpAny_holding ?_
  first | refine wpAny_bind (wpAny_pure ?_) | skip
  refine wpAny_bind (wpAny_sequenceKey ht.typeIs (by decide) ?_)
  refine wpAny_bind (wpAny_callSpecial?_slot (name := Str.ofString "__getitem__") ht.typeIs PyProof.Rows.slot_tuple_getitem
    (wpAny_call_entry PyProof.Rows.slot_tuple_getitem ht.typeIs entry_tuple_getitem ?_ (args_tuple_getitem _ _)))
  show wpAny _ _ (Builtin.Tuple.tupleItemsOf (.ref t) >>= _) _ _ s
  refine wpAny_bind (tupleItemsOf_ ht ?_)
  refine wpAny_bind (wpAny_typeOf hTs ?_)
  rw [if_pos (by decide)]
  refine wpAny_bind (sliceApplied_rev hs ?_)
  have hno : ¬ ((((items.size : Int) - 1) == 0 && (-1 : Int) == 1 && items.size == items.size) = true) := by
    intro q
    rw [Bool.and_eq_true, Bool.and_eq_true] at q
    exact absurd q.1.2 (by decide)
  show wpAny _ _ (if (((items.size : Int) - 1) == 0 && (-1 : Int) == 1 && items.size == items.size) = true then _ else _) _ _ s
  rw [if_neg hno, pick_rev]
  first
    | exact wpAny_bind (m := Builtin.Tuple.tupleExact _) (wpAny_newObj_type (wpAny_pure ⟨_, rfl, wpAny_pure h⟩) htake)
    | exact wpAny_bind (m := Builtin.Tuple.tupleExact _) (wpAny_newObj_type (wpAny_bind (wpAny_pure (wpAny_pure ⟨_, rfl, wpAny_pure h⟩))) htake)
    | exact wpAny_bind (wpAny_bind (m := Builtin.Tuple.tupleExact _) (wpAny_newObj_type (wpAny_pure (wpAny_pure ⟨_, rfl, wpAny_pure h⟩)) htake))
    | exact wpAny_bind (wpAny_bind (m := Builtin.Tuple.tupleExact _) (wpAny_newObj_type (wpAny_pure ⟨_, rfl, wpAny_pure h⟩) htake))
end
end HT
namespace Sp1
open PySem PySem.Spec PyProof.Rows L2
section
variable {X : Cx} {e se : Expr} {te ts : TE} {pos p2 : Pos}
def tRevT (K : PySem.W.Frag) (te ts : TE) : TE := fun σ H Q => te σ H fun x H1 => ts σ H1 fun v H2 => v = .int (-1) ∧ ∃ a xs, x = .ref a ∧ SqT K H2 a xs ∧ ∀ p, H2 p = none → Q (.ref p) (upd H2 p (.tup xs.reverse))
theorem vals_rev : ∀ {xs : List V} {us : List Value}, Vals xs us → Vals xs.reverse us.reverse
  | _, _, .nil => .nil
  | _, _, .cons r t => by
    rw [List.reverse_cons, List.reverse_cons]
    exact (vals_rev t).append (.cons r .nil)
theorem pe_revT (he : PE X e te) (hs : PE X se ts) : PE X (.Subscript e (.Slice none none (some se) p2) pos) (tRevT X.K te ts) := by
  refine ⟨fun pins s σ H Q I h => ?_⟩
  refine Subscript_ (thn (he.run pins s σ H _ I h) fun v s1 ⟨x, H1, I1, r1, q1⟩ => ?_)
  refine wpAny_Slice ?_
  rw [evalPart_none]
  refine wpAny_pure ?_
  refine wpAny_pure ?_
  rw [evalPart_some]
  refine thn (hs.run pins s1 σ H1 _ I1 q1) fun vs s3 ⟨y, H3, I3, r3, q3⟩ => ?_
  obtain ⟨rfl, a, xs, rfl, hx, q⟩ := q3
  obtain ⟨t, rfl⟩ := r3
  obtain rfl : v = Value.ref a := r1
  have I4 : Inv X pins σ H3 { s3 with heap := s3.heap.push { cls := .type "slice", data := .fields #[.none, .none, .int (-1) t] } } := I3.kept (t' := s3.toks) fun b ob q => Heap.get?_push_of_some _ q
  obtain ⟨its, r, ht, hz⟩ := I4.tuple hx
  show wpAny (model X.prog X.w) X.A (subscriptTail e (.Slice none none (some se) p2) (.ref a) (.ref s3.heap.objs.size)) (EP X pins σ Q) X.xe { s3 with heap := s3.heap.push { cls := .type "slice", data := .fields #[.none, .none, .int (-1) t] } }
  refine tail_any (ops := [.ref a, .ref s3.heap.objs.size]) ht.typeIs PyProof.Rows.slot_tuple_getitem.lookup ?_ (by with_unfolding_all rfl)
  refine HT.getItem_tuple_rev ht (Heap.IsSliceOf.new ..) ?_ (by rw [List.size_toArray]; rw [← r.length]; exact hz)
  refine ⟨.ref _, _, I4.laid (o := .tup xs.reverse) (fun b ob q => Heap.get?_push_of_some _ q) (Nat.le_refl _) ?_, rfl, q _ (I4.hok.fresh (Nat.le_refl _))⟩
  refine ⟨by rw [List.length_reverse]; exact hz, _, vals_rev r, ?_⟩
  exact IsTup.new _ _
end
end Sp1

set_option Elab.async false
set_option linter.all false
set_option maxRecDepth 100000
set_option maxHeartbeats 4000000
/-! exceptions of the program's own classes, over any built-in base: their making -/
namespace Sp1X
open PySem PySem.Calls PySem.W PyProof.Rows PySem.HandSPX Builtin Builtin.ObjectAttr
/-- what is asked of the classes above one's own -/
structure BmOk (B : String) (bm : List Value) : Prop where
  hB : bm.contains (.type B) = true
  hA : bm.contains (.type "AttributeError") = false
  hN : bm.contains (.type "NameError") = false
  hO : bm.contains (.type "object") = true
  ne : bm.isEmpty = false
  pass : ∀ self : Value, refuseLoop self "__setattr__" bm = pure ()
theorem BmOk.ref {B : String} {bm : List Value} (T : BmOk B bm) (c : Addr) : BmOk B (.ref c :: bm) := by
  have z : ∀ X : String, (Value.ref c :: bm).contains (.type X) = bm.contains (.type X) := fun X => by
    rw [List.contains_cons]
    rfl
  exact ⟨by rw [z]; exact T.hB, by rw [z]; exact T.hA, by rw [z]; exact T.hN, by rw [z]; exact T.hO, rfl, fun self => by rw [refuseLoop_ref]; exact T.pass self⟩
theorem bm_value : BmOk "ValueError" [.type "ValueError", .type "Exception", .type "BaseException", .type "object"] := ⟨by decide +kernel, by decide +kernel, by decide +kernel, by decide +kernel, rfl, fun self => by kernel_rfl⟩
theorem bm_key : BmOk "LookupError" [.type "KeyError", .type "LookupError", .type "Exception", .type "BaseException", .type "object"] := ⟨by decide +kernel, by decide +kernel, by decide +kernel, by decide +kernel, rfl, fun self => by kernel_rfl⟩
section
variable {prog : Program} {w : World} {A : Around} {E : Value → Shared → Prop} {R : Result → Shared → Prop} {h : Heap} {g : Array GenState} {d : Drawn} {t : Nat} {os : OsState}
variable {nm q : Str} {C N : Addr} {bs bm bmB : List Value} {hdct : Bool} {sn : List Str} {sub : List Value} {ab : Bool} {col : Option Bool} {dd : Option Addr} {k0 k1 k2 k3 k5 : Option Value} {B newId initId : String}
theorem x_check {M : Model} (F : ExcBaseFacts B newId initId bmB) (T : BmOk B bm) {rest : List Value} {Q : Unit → Shared → Prop} (cC : h.get? C = some (excClassObj nm q C N bs bm hdct sn sub ab col dd k0 k1 k2 k3 k5 newId)) (fin : Q () ⟨h, g, d, t, os⟩) :
    wpAny M A (checkBuiltinCall newId ⟨.ref C :: rest, []⟩) Q E ⟨h, g, d, t, os⟩ := by
  have cB := (T.ref C).hB
  have star := F.noStar
  simp only [checkBuiltinCall, F.newKind, F.newSplit, F.newRow]
  repeat (first | refine wpAny_loadPart_at cC ?_ | (refine wpAny_isSubtype_exc cC ?_; rw [cB]) | refine wpAny_staticBase_exc cC ?_ | refine wpAny_madeBy_exc cC ?_ | simp only [bne_self_eq_false, Bool.false_eq_true, if_false] | wp_step)
  exact fin
theorem x_new (F : ExcBaseFacts B newId initId bmB) (T : BmOk B bm) {rest : List Value} (cC : h.get? C = some (excClassObj nm q C N bs bm hdct sn sub ab col dd k0 k1 k2 k3 k5 newId)) (small : rest.length ≤ sizeLine)
    (fin : R (.ok (.ret (.ref (h.objs.size + 1)))) ⟨(h.push (kdv_tup rest)).push (excO C h.objs.size), g, d, t, os⟩) : codeAny (model prog w) A (.builtin newId ⟨.ref C :: rest, []⟩) R ⟨h, g, d, t, os⟩ := by
  have fends := F.ends
  have cB := (T.ref C).hB
  have cA := (T.ref C).hA
  have cN := (T.ref C).hN
  refine codeAny_builtinAt F.entry ?_
  unfold Builtin.«BaseException.__new__»
  refine PySem.wpAt_bind ?_
  show PySem.wpAt _ _ _ (stack >>= _) _ _ _
  refine PySem.wpAt_bind (PySem.wpAt_stack fun p below => PySem.wpAt_of_wpAny ?_)
  wp_walk
  refine PySem.wpAt_of_wpAny ?_
  rw [F.owner]
  repeat (first | with_reducible refine wpAny_madeHere_exc F.canon cC ?_ | with_reducible refine wpAny_loadPart_at cC ?_ | (with_reducible refine wpAny_isSubtype_exc cC ?_; first | rw [cB] | rw [cA] | rw [cN]) | wp_step)
  show R _ _
  rw [Heap.size_push]
  exact fin
theorem x_type_call (F : ExcBaseFacts B newId initId bmB) (T : BmOk B bm) {rest : List Value} {fI : Addr} {Q : Fin → Shared → Prop} (cC : h.get? C = some (excClassObj nm q C N bs bm hdct sn sub ab col dd k0 k1 k2 k3 k5 newId))
    (li : Looks (model prog w) h (typeLookup (.ref C) "__init__") (some (.ref fI))) (lb : ∀ self, Looks (model prog w) h (bindSpecial (.ref fI) self) (.ref fI, [self])) (small : rest.length ≤ sizeLine)
    (fin : codeAny (model prog w) A (.call (.ref fI) ⟨.ref (h.objs.size + 1) :: rest, []⟩) (fun r s' => match r with | .ok (.ret v) => v = .none ∧ Q (.done (.ret (.ref (h.objs.size + 1)))) s' | .ok _ => False | .error e => E e s')
      ⟨(h.push (kdv_tup rest)).push (excO C h.objs.size), g, d, t, os⟩) : wpAny (model prog w) A (Builtin.«type.__call__» ⟨.ref C :: rest, []⟩) Q E ⟨h, g, d, t, os⟩ := by
  repeat (first | with_reducible refine wpAny_loadPart_at cC ?_ | with_reducible refine wpAny_madeBy_exc cC ?_ | wp_step)
  refine codeAny_call_builtin_code (Code.quiet_builtin _ F.quiet) (x_check F T cC (x_new F T cC small ?_))
  show wpAny _ _ _ _ _ _
  have old : ∀ b o, h.get? b = some o → ((h.push (kdv_tup rest)).push (excO C h.objs.size)).get? b = some o := fun b o e => Heap.get?_push_of_some _ (Heap.get?_push_of_some _ e)
  have cC1 := old _ _ cC
  have here : ((h.push (kdv_tup rest)).push (excO C h.objs.size)).get? (h.objs.size + 1) = some (excO C h.objs.size) := by heap_get
  have self_in : (Value.ref C :: bm).contains (.ref C) = true := by simp
  have li1 := li.keeps old
  have lb1 := (lb (.ref (h.objs.size + 1))).keeps old
  unfold isInstance
  repeat (first | with_reducible refine wpAny_loadPart_at here ?_ | (with_reducible refine wpAny_isSubtype_exc cC1 ?_; rw [self_in]) | wp_step)
  show wpAny _ _ (typeLookup (.ref C) _) _ _ _
  refine li1.at (wpAny_holding (wpAny_bind (lb1.at (wpAny_bind (wpAny_call (codeAny_mono fin fun r s' z => ?_))))))
  rcases r with err | (val | _ | _ | _) <;> first | exact z | exact z.elim | skip
  obtain ⟨rfl, z⟩ := z
  first
    | exact wpAny_pure (wpAny_pure z)
    | (wp_walk; exact z)
theorem x_call (F : ExcBaseFacts B newId initId bmB) (T : BmOk B bm) {rest : List Value} {fI : Addr} (cC : h.get? C = some (excClassObj nm q C N bs bm hdct sn sub ab col dd k0 k1 k2 k3 k5 newId))
    (li : Looks (model prog w) h (typeLookup (.ref C) "__init__") (some (.ref fI))) (lb : ∀ self, Looks (model prog w) h (bindSpecial (.ref fI) self) (.ref fI, [self])) (small : rest.length ≤ sizeLine)
    (fin : codeAny (model prog w) (A.under (.builtin "type.__call__" ⟨.ref C :: rest, []⟩)) (.call (.ref fI) ⟨.ref (h.objs.size + 1) :: rest, []⟩) (InitBack (h.objs.size + 1) R) ⟨(h.push (kdv_tup rest)).push (excO C h.objs.size), g, d, t, os⟩) :
    codeAny (model prog w) A (.call (.ref C) ⟨rest, []⟩) R ⟨h, g, d, t, os⟩ := by
  have l1 := tc_lookup
  have l2 := tc_bind (.ref C)
  have ty : (⟨h, g, d, t, os⟩ : Shared).TypeIs (.ref C) "type" := ⟨_, cC, rfl⟩
  refine codeAny_of_tree ?_
  show wpAny _ _ (callAny (.ref C) _) _ _ _
  repeat (any_goals (first | assumption | with_reducible refine wpAny_loadPart_at cC ?_ | wp_step))
  refine ⟨rfl, codeAny_call_builtin_at (Code.quiet_builtin _ (by decide +kernel)) entry_typeCall (wpAny_check_type_call_sub cC (x_type_call F T cC li lb small (codeAny_mono fin fun r s' z => ?_)))⟩
  rcases r with e | (v | _ | _ | _) <;> exact z
end
section
variable {prog : Program} {w : World} {A : Around} {R : Result → Shared → Prop} {hp : Heap} {g : Array GenState} {d : Drawn} {t : Nat} {os : OsState}
/-- self.name = v where there is no dict yet -/
theorem x_store {K : Frag} {name : Str} {tk : Tok} {v : Value} {x C : Addr} {fv : Array Value} {cd : ClassData} (X : K.In hp) (hx : hp.get? x = some { cls := .ref C, data := .fields fv }) (hcd : clsIn K C = some cd) (hO : cd.mro.contains (.type "object") = true) (hne : cd.mro.isEmpty = false)
    (hpass : ∀ self : Value, refuseLoop self "__setattr__" cd.mro = pure ()) (hh : cd.hasDict = true) (no : findIn K (.ref C) name = some none)
    (fin : ∀ h' tk' dx, (∀ b o, b ≠ x → hp.get? b = some o → h'.get? b = some o) → hp.objs.size ≤ dx → dx ≠ x → h'.get? x = some { cls := .ref C, dict := some dx, data := .fields fv } → h'.Ns1 dx (fun y => if y = name then some v else none) → R (.ok (.ret .none)) ⟨h', g, d, tk', os⟩) :
    codeAny (model prog w) A (.call (.builtin "object.__setattr__") ⟨[.ref x, .str name tk, v], []⟩) R ⟨hp, g, d, t, os⟩ := by
  have J : InstAt hp x { cls := .ref C, data := .fields fv } C none := ⟨hx, rfl, rfl, trivial⟩
  have SF := F.store_object
  have xs : x ≠ hp.objs.size := Nat.ne_of_lt (Heap.lt_size hx)
  have isO : Looks (model prog w) hp (isInstance (.ref x) (.type "object")) true := J.type.andThen (looks_mroIn X (by unfold mroIn; rw [hcd, Option.bind_some, if_neg (by rw [hne]; decide), hO]))
  refine codeAny_call_builtin SF.slot.plain SF.entry (@check_slot (model prog w) _ _ ⟨hp, g, d, t, os⟩ "object.__setattr__" "object" "__setattr__" (.ref x) [.str name tk, v] [] _ SF.kind SF.split isO (SF.args (.ref x) (.str name tk) v) ?_)
  have lm : Looks (model prog w) hp (mroOf (.ref C)) cd.mro := (looks_clsIn X hcd).andThen .now
  have lt : Looks (model prog w) hp (storeTaker? none) none := .now
  have lc : Looks (model prog w) hp (classData C) cd := looks_clsIn X hcd
  rw [osa_eq, refuse_eq]
  refine wpAny_bind (wpAny_bind (J.type.at (wpAny_bind (lm.at ?_))))
  rw [hpass]
  refine wpAny_pure (wpAny_bind (J.type.at (wpAny_bind ((looks_findIn X no).at (wpAny_bind (lt.at ?_))))))
  show wpAny _ _ (storeInOwnDict (.ref x) (.ref C) (.str name tk) name v false) _ _ _
  obtain ⟨nm, bs, mro, ns, qn, hd, sn, sb, ab, col, del⟩ := cd
  dsimp only at hh
  subst hh
  unfold storeInOwnDict ownDictForStores
  repeat (first | with_reducible refine store_in_new ?_ ?_ | with_reducible refine wpAny_loadPart_at hx ?_ | with_reducible refine lc.at ?_ | wp_step)
  · exact ⟨_, #[], _, (Heap.get?_update_ne _ _ _ _ xs.symm).trans (Heap.get?_push_at rfl rfl), rfl, fun e he => absurd he (by simp), fun _ => rfl⟩
  · intro h' tk' hn' hs
    have hx1 : (hp.push { cls := .type "dict", data := .dict #[] }).get? x = some { cls := .ref C, data := .fields fv } := Heap.get?_push_of_some _ hx
    refine fin h' tk' hp.objs.size (fun b o hb ho => ?_) (Nat.le_refl _) xs.symm ?_ hn'
    · exact (hs.2 b (Nat.ne_of_lt (Heap.lt_size ho))).trans ((Heap.get?_update_ne _ _ _ _ hb).trans (Heap.get?_push_of_some _ ho))
    · exact (hs.2 x xs).trans (Heap.get?_update_self _ hx1 rfl)
end
end Sp1X

set_option Elab.async false
set_option linter.all false
set_option maxRecDepth 100000
set_option maxHeartbeats 4000000
namespace Sp1X
open PySem PySem.W PySem.Calls PyProof.Rows PySem.HandSPX
theorem ldX {M : Model} {s : Shared} {name : Str} {scope : Scope} {L a : Addr} {cd : Value} {m : Str → Option Value} {x : Str} {pos : Pos} {v : Value} {Q : Value → Shared → Prop} {A : Around} {E : Value → Shared → Prop} (hn : s.heap.Ns L m) (hv : m x = some v) (fin : Q v s)
    (hk : scope.kind = .function := by rfl) (hl : (envOfC name scope L a cd).kindOf x = some .local := by rfl) (hd : (x == ("__debug__" : Str)) = false := by decide) : wpAny M A (eval (.Name x pos) (envOfC name scope L a cd)) Q E s := wpAny_Name (wpAny_loadName_local hk hl hn hv fin) hd
end Sp1X
namespace Sp1
open PySem PySem.Spec PyProof.Rows L2
theorem relO_one {g : Str} {v : V} {v' : Value} (r : RelV v v') (f : Str) : RelO (List.lookup f [((g : Str), v)]) (if f = g then some v' else none) := by
  by_cases hw : f = g
  · subst hw
    rw [if_pos rfl]
    have q : List.lookup f [((f : Str), v)] = some v := by simp [List.lookup]
    rw [q]
    exact r
  · rw [if_neg hw]
    have qw : (f == g) = false := by simpa using hw
    have q2 : List.lookup f [((g : Str), v)] = none := by simp [List.lookup, qw]
    rw [q2]
    trivial
/-- C(e), C an own exception class that keeps e as f -/
def tMkX (C : Addr) (f : Str) (ta : TA) : L2.St → Hp → XK → Prop := fun σ H Q => ta σ H fun vs H1 => ∃ v, vs = [v] ∧ ∀ d, H1 d = none → Q (.ref C) (some d) (upd H1 d (.xd [(f, v)]))
def tRaiseX (C : Addr) (f : Str) (W : WX) (ta : TA) : TS := fun _ σ H => tMkX C f ta σ H fun cls d H' => W cls d σ H'
/-- e.f, e the exception that the suite holds (at a; its class cls, its dict d) -/
def tByX (C : Addr) (f : Str) (a : Addr) (cls : Value) (d : Option Addr) (te : TE) : TE := fun σ H Q => te σ H fun x H1 => x = .ref a ∧ cls = .ref C ∧ ∃ (dd : Addr) (v : V), d = some dd ∧ H1 dd = some (.xd [(f, v)]) ∧ Q v H1
/-- isinstance(e, c) of it -/
def rIsX (K : PySem.W.Frag) (D a : Addr) (d : Option Addr) : List V → Hp → VK → Prop := fun xs H Q => ∃ (c : V) (cv : Value) (b : Bool), xs = [.ref a, c] ∧ (∀ u, RelV c u → u = cv) ∧ PySem.W.kitOne K (.ref D) cv = some b ∧ (∃ (dd : Addr) (fs : List (Str × V)), d = some dd ∧ H dd = some (.xd fs)) ∧ Q (.bl b) H
end Sp1
namespace Sp1X
open PySem PySem.W PySem.Calls PyProof.Rows PySem.HandSPX
/-- what __init__ leaves of a fresh exception at x -/
structure InitEnd_name (h h' : Heap) (x C dx t1 : Addr) (v : Value) : Prop where
  keep : ∀ b o, b ≠ x → h.get? b = some o → h'.get? b = some o
  obj : h'.get? x = some { cls := .ref C, dict := some dx, data := .fields #[.ref t1, .none, .none, .none, .bool false, .none] }
  dbig : h.objs.size ≤ dx
  dne : dx ≠ x
  ns : h'.Ns1 dx (fun y => if y = "name" then some v else none)
/-- one that is made -/
structure Made_name (h h' : Heap) (e C d : Addr) (v : Value) : Prop where
  keep : ∀ b o, h.get? b = some o → h'.get? b = some o
  new : h.objs.size ≤ e
  obj : ∃ oe vs, h'.get? e = some oe ∧ oe.cls = .ref C ∧ oe.dict = some d ∧ oe.data = .fields vs ∧ vs[1]? = some .none
  dbig : h.objs.size ≤ d
  dne : d ≠ e
  ns : h'.Ns1 d (fun y => if y = "name" then some v else none)
end Sp1X
namespace Sp1X
open PySem PySem.W PySem.Calls PyProof.Rows PySem.HandSPX
/-- what __init__ leaves of a fresh exception at x -/
structure InitEnd_part (h h' : Heap) (x C dx t1 : Addr) (v : Value) : Prop where
  keep : ∀ b o, b ≠ x → h.get? b = some o → h'.get? b = some o
  obj : h'.get? x = some { cls := .ref C, dict := some dx, data := .fields #[.ref t1, .none, .none, .none, .bool false, .none] }
  dbig : h.objs.size ≤ dx
  dne : dx ≠ x
  ns : h'.Ns1 dx (fun y => if y = "part" then some v else none)
/-- one that is made -/
structure Made_part (h h' : Heap) (e C d : Addr) (v : Value) : Prop where
  keep : ∀ b o, h.get? b = some o → h'.get? b = some o
  new : h.objs.size ≤ e
  obj : ∃ oe vs, h'.get? e = some oe ∧ oe.cls = .ref C ∧ oe.dict = some d ∧ oe.data = .fields vs ∧ vs[1]? = some .none
  dbig : h.objs.size ≤ d
  dne : d ≠ e
  ns : h'.Ns1 d (fun y => if y = "part" then some v else none)
end Sp1X
/-! the class UnknownName: its __init__ keeps name -/
namespace Sp1X
open PySem PySem.W PySem.Calls PyProof.Rows PySem.HandSPX
def iA_UnknownName (p1 p2 : Pos) : Arguments := { posonlyargs := [], args := [{ arg := "self", annotation := none, pos := p1 }, { arg := "name", annotation := none, pos := p2 }], vararg := none, kwonlyargs := [], kw_defaults := [], kwarg := none, defaults := [] }
def iB_UnknownName (q1 q2 q3 q4 : Pos) : List Stmt := [.Assign [.Attribute (.Name "self" q1) "name" q2] (.Name "name" q3) q4]
def iS_UnknownName : Scope := { kind := .function, names := [(PySem.Str.ofString "self", .local), (PySem.Str.ofString "name", .local)], isGenerator := false, isCoroutine := false, more := [] }
/-- what the written part says of UnknownName, at C, and of its __init__, at fI -/
structure Txt_UnknownName (K : Frag) (mg : Str → Option Value) (C fI : Addr) : Prop where
  gC : mg "UnknownName" = some (.ref C)
  cls : ∃ nm q N bs bm sn sub ab col dd k0 k1 k2 k3 k5, K.lookup C = some (excClassObj nm q C N bs bm true sn sub ab col dd k0 k1 k2 k3 k5 "LookupError.__new__") ∧ BmOk "LookupError" bm
  sa : findIn K (.ref C) "__setattr__" = some (some (.builtin "object.__setattr__"))
  ga : findIn K (.ref C) "__getattribute__" = some (some (.builtin "BaseException.__getattribute__"))
  gg : findIn K (.ref C) "__getattr__" = some none
  noN : findIn K (.ref C) "name" = some none
  iC : findIn K (.ref C) "__init__" = some (some (.ref fI))
  tC : typeIn K (.ref fI) = some (.type "function")
  kC : keepIn K (.ref C) = true
  exC : subIn K (.ref C) (.type "BaseException") = some true
  tyC : typeIn K (.ref C) = some (.type "type")
  hdC : hasDictIn K C = true
  te : exmOne K (.ref C) (.ref C) = some true
  kcls : findIn K (.ref C) "__class__" = some (some (.builtin "object.__class__"))
  kget : specialIn K (.builtin "object.__class__") "__get__" = some (some (.builtin "getset_descriptor.__get__"))
  ktak : takesIn K (.builtin "object.__class__") = some true
  kmro : mroIn K C (.type "object") = some true
  fn : ∃ (oc : Value) (od : Option Addr) (doc pm : Value) (an : Option Addr) (cdv ct : Value) (osl : Array (Option Value)) (p1 p2 q1 q2 q3 q4 : Pos),
    K.lookup fI = some ⟨oc, od, .func (fnOf "__init__" "UnknownName.__init__" (iA_UnknownName p1 p2) (iB_UnknownName q1 q2 q3 q4) iS_UnknownName .none .none doc pm an cdv ct), osl⟩ ∧ codeIn K cdv "UnknownName.__init__" = true
section
variable {prog : Program} {w : World} {A : Around} {E : Value → Shared → Prop} {R : Result → Shared → Prop} {s : Shared} {K : Frag} {mg : Str → Option Value} {C fI : Addr}
theorem init_UnknownName (T : Txt_UnknownName K mg C fI) {x t0 : Addr} {v : Value} (X : K.In s.heap) (lim : s.heap.NoLimit) (hx : s.heap.get? x = some (excO C t0)) (room : A.depth < recursionLimit)
    (fin : ∀ h' tk dx, InitEnd_name s.heap h' x C dx t0 v → R (.ok (.ret .none)) { s with heap := h', toks := tk }) : codeAny (model prog w) A (.call (.ref fI) ⟨[.ref x, v], []⟩) R s := by
  obtain ⟨oc, od, doc, pm, an, cdv, ct, osl, p1, p2, q1, q2, q3, q4, ho, hcd⟩ := T.fn
  obtain ⟨nm, q, N, bs, bm, sn, sub, ab, col, dd, k0, k1, k2, k3, k5, hC, bmk⟩ := T.cls
  have hcl : clsIn K C = some { name := nm, bases := bs, mro := .ref C :: bm, ns := N, qualname := q, hasDict := true, slotNames := sn, subclasses := sub, abstract := ab, collection := col, hasDel := false } := by unfold clsIn; rw [hC] <;> rfl
  refine Att.call_fn (binds := [("self", .ref x), ("name", v)]) X lim ho hcd room (BindsTo.of_eq (by first | rfl | with_unfolding_all rfl)) (by first | rfl | decide | with_unfolding_all rfl) (fun s1 IC => ?_) rfl rfl rfl
  obtain ⟨h1, tk1, rfl⟩ := IC.toInCall.same
  have k : ∀ b o, s.heap.get? b = some o → h1.get? b = some o := IC.toInCall.keep
  have hn := IC.toInCall.ns
  have X1 : K.In h1 := X.keeps k
  have hx1 := k _ _ hx
  show wpAny _ _ (execs _ _) _ _ _
  refine wpAny_execs_cons (plainObj_wpAny_Assign_Attribute ?_)
  refine ldX (v := v) hn (by first | rfl | with_unfolding_all rfl | kernel_rfl) (ldX (v := .ref x) hn (by first | rfl | with_unfolding_all rfl | kernel_rfl) ?_)
  refine set_plain X1 (ox := excO C t0) (od := none) ⟨hx1, rfl, rfl, trivial⟩ T.sa ?_
  have bm1 := bmk.ref C
  refine x_store X1 hx1 hcl bm1.hO bm1.ne bm1.pass rfl T.noN (fun h3 tk3 dx k3 dn dne hx3 hn3 => ?_)
  show wpAny _ _ (execs _ _) _ _ _
  have z : s.heap.objs.size < h1.objs.size := hn.lt
  exact wpAny_execs_nil (fin h3 tk3 dx ⟨fun b o hb e => k3 b o hb (k b o e), hx3, Nat.le_of_lt (Nat.lt_of_lt_of_le z dn), dne, hn3⟩)
theorem made_UnknownName (T : Txt_UnknownName K mg C fI) {v : Value} (X : K.In s.heap) (lim : s.heap.NoLimit) (room : A.depth + 1 < recursionLimit) (fin : ∀ h' tk e d, Made_name s.heap h' e C d v → R (.ok (.ret (.ref e))) { s with heap := h', toks := tk }) :
    codeAny (model prog w) A (.call (.ref C) ⟨[v], []⟩) R s := by
  obtain ⟨nm, q, N, bs, bm, sn, sub, ab, col, dd, k0, k1, k2, k3, k5, hC, bmk⟩ := T.cls
  obtain ⟨hp, g, dr, tk, os⟩ := s
  have k : ∀ b o, hp.get? b = some o → ((hp.push (kdv_tup [v])).push (excO C hp.objs.size)).get? b = some o := fun b o e => Heap.get?_push_of_some _ (Heap.get?_push_of_some _ e)
  have hget : ((hp.push (kdv_tup [v])).push (excO C hp.objs.size)).get? (hp.objs.size + 1) = some (excO C hp.objs.size) := by heap_get
  refine x_call PySem.F.excBase_LookupError bmk (X _ _ hC) (looks_findIn X T.iC) (fun self => bind_fn X self T.tC) (by show 1 ≤ sizeLine; decide) ?_
  refine init_UnknownName (s := ⟨(hp.push (kdv_tup [v])).push (excO C hp.objs.size), g, dr, tk, os⟩) T (X.keeps k) (lim.keeps k) hget ?_ fun h' tk' dx ⟨k', hx, dn, dne, hns⟩ => ?_
  · show A.depth + 1 < recursionLimit
    exact room
  · have old : ∀ b o, hp.get? b = some o → h'.get? b = some o := fun b o e => k' b o (Nat.ne_of_lt (Nat.lt_succ_of_lt (Heap.lt_size e))) (k b o e)
    have z : hp.objs.size + 1 + 1 ≤ dx := by
      first
        | (simpa only [Heap.size_push] using dn)
        | exact dn
        | (have q := dn; rw [Heap.size_push, Heap.size_push] at q; exact q)
    exact ⟨rfl, fin h' tk' (hp.objs.size + 1) dx ⟨old, Nat.le_succ _, ⟨_, _, hx, rfl, rfl, rfl, rfl⟩, Nat.le_trans (Nat.le_trans (Nat.le_succ _) (Nat.le_succ _)) z, dne, hns⟩⟩
end
end Sp1X
namespace Sp1
open PySem PySem.Spec PyProof.Rows L2 Sp1X
section
variable {X : Cx} {C fI : Addr}
theorem pmk_UnknownName {a : Expr} {ta : TA} {p pos : Pos} {k : Nat} (T : Txt_UnknownName X.K X.mg C fI) (hr : Room k X.A) (ha : PA X [a] ta) (hg : Gl X "UnknownName" := by rfl)
    (he : starEach (a :: []) X.env = (false, eval a X.env) :: starEach [] X.env := by rfl) (hpl : (backTo pos (starEach [] X.env)).any (·.1) = false := by rfl) : PMk X (.Call (.Name "UnknownName" p) [a] [] pos) (tMkX C "name" ta) := by
  intro pins s σ H Q I h
  refine wpAny_Call_Name_kw (ld_glob I hg T.gC ?_)
  refine PySem.W.callWith_K (h₀ := X.base) I.ok.mod.kin T.kC (thn (ha.run pos pins s σ H _ I h) fun us s1 hh => ?_) he hpl
  obtain ⟨vs, H1, I1, r1, v, ev, q1⟩ := hh
  subst ev
  refine ⟨I1.kIn, ?_⟩
  cases r1 with
  | cons rv rn =>
    rename_i v' us'
    cases rn
    show wpAny _ _ (call (.ref C) [v']) _ _ _
    have lim := I1.nolimit
    obtain ⟨hp, g, dr, tk, os⟩ := s1
    refine wpAny_call (made_UnknownName T I1.kIn lim (by have := hr.dp; omega) fun h' tk' e d M => ?_)
    show MkP X pins σ Q (.ref e) ⟨h', g, dr, tk', os⟩
    obtain ⟨oe, fv, hoe, hc, hd, hdat, h1⟩ := M.obj
    have hns := M.ns
    obtain ⟨G', g1, g2⟩ := restrict h' fun b => decide (b ≠ e)
    have gk : ∀ b, b ≠ e → G'.get? b = h'.get? b := fun b hb => g1 b (decide_eq_true hb)
    have ge : G'.get? e = none := g2 e (by simp)
    have old : ∀ b o, hp.get? b = some o → G'.get? b = some o := fun b o q => (gk b (Nat.ne_of_lt (Nat.lt_of_lt_of_le (Heap.lt_size q) M.new))).trans (M.keep b o q)
    have ob : ObjOk X.prog X.w (upd H1 d (.xd [(("name" : Str), v)])) G' d (.xd [(("name" : Str), v)]) := ⟨_, hns.at (fun o q => (gk d M.dne).trans q), fun f => relO_one rv f⟩
    have J : Inv X pins σ (upd H1 d (.xd [(("name" : Str), v)])) ⟨G', g, dr, tk', os⟩ := I1.laid (t' := tk') old M.dbig ob
    refine ⟨e, oe, fv, ⟨G', g, dr, tk', os⟩, _, .ref C, some d, rfl, J, fun b o q => ?_, ge, hoe, ⟨hc, hd⟩, hdat, h1, ?_, rfl, I1.bare, raises_own T.exC T.tyC, q1 d (I1.hok.fresh M.dbig)⟩
    · by_cases hb : b = e
      · have q' : G'.get? b = some o := q
        rw [hb, ge] at q'
        cases q'
      · exact (gk b hb).symm.trans q
    · rw [upd_ne (Ne.symm M.dne)]
      exact I1.hok.fresh M.new
/-- raise UnknownName(e) -/
theorem ps_raise_UnknownName {a : Expr} {ta : TA} {W : WX} {p pos pos2 : Pos} {k : Nat} (hc : X.calm = true) (T : Txt_UnknownName X.K X.mg C fI) (hr : Room k X.A) (tk : Takes X W) (ha : PA X [a] ta) (hg : Gl X "UnknownName" := by rfl)
    (he : starEach (a :: []) X.env = (false, eval a X.env) :: starEach [] X.env := by rfl) (hpl : (backTo pos (starEach [] X.env)).any (·.1) = false := by rfl) :
    PS X (.Raise (some (.Call (.Name "UnknownName" p) [a] [] pos)) none pos2) (tRaiseX C "name" W ta) := ps_raise hc tk (pmk_UnknownName T hr ha hg he hpl)
/-- e.name in the suite that holds e -/
theorem pe_by_UnknownName {a : Addr} {oe : Obj} {cls : Value} {d : Option Addr} {pn : List (Addr × Obj)} {e : Expr} {te : TE} {pos : Pos} (T : Txt_UnknownName X.K X.mg C fI) (hz : Zc cls d oe) (hf : ∃ vs, oe.data = .fields vs) (he : PE (X.suite a ((a, oe) :: pn)) e te)
    (hb : attributeBase e "name" X.env (eval e X.env) = eval e X.env := by rfl) : PE (X.suite a ((a, oe) :: pn)) (.Attribute e "name" pos) (tByX C "name" a cls d te) := by
  refine ⟨fun pins s σ H Q I h => ?_⟩
  refine attr_of hb (thn (he.run pins s σ H _ I h) fun u s1 hh => ?_)
  obtain ⟨x, H1, I1, rx, ex, ec, dd, v, ed, ea, q⟩ := hh
  subst ex
  obtain rfl : u = Value.ref a := rx
  subst ec
  subst ed
  obtain ⟨ha, _⟩ := I1.pin (a, oe) (List.mem_append_left _ List.mem_cons_self)
  obtain ⟨vs, hd⟩ := hf
  have hx : ObjOk X.prog X.w H1 s1.heap dd (.xd [(("name" : Str), v)]) := I1.hok dd _ ea
  obtain ⟨mA, hns, hr⟩ := hx
  obtain ⟨od, ho, hl⟩ := lookIn_ns hns
  have l : List.lookup ("name" : Str) [(("name" : Str), v)] = some v := by simp [List.lookup]
  obtain ⟨u, hu, ru⟩ := RelO.some_of (v := v) (o := mA "name") (by rw [← l]; exact hr "name")
  have J : PySem.W.InstAt s1.heap a oe C (some od) := ⟨ha, hz.1, by unfold PySem.W.notCls; rw [hd] <;> rfl, by rw [hz.2]; exact ho⟩
  exact HandSPX.exc_get I1.kIn J T.ga T.gg T.exC (PySem.W.findObj_own T.hdC T.noN rfl (by rw [hl, hu])) (handed_of ru) ⟨v, H1, I1.tok _, ru, q⟩
/-- isinstance(e, c), e the exception that the suite holds -/
theorem isx_UnknownName {a : Addr} {oe : Obj} {d : Option Addr} {pn : List (Addr × Obj)} (T : Txt_UnknownName X.K X.mg C fI) (hz : Zc (.ref C) d oe) (hf : ∃ vs, oe.data = .fields vs) : CallR (X.suite a ((a, oe) :: pn)) (.builtin "isinstance") (rIsX X.K C a d) := by
  intro pins s σ H xs us Q I r h
  obtain ⟨c, cv, b, rfl, hcv, e, ⟨dd, fs, ed, ea⟩, q⟩ := h
  cases r with
  | cons rx rr => cases rr with
    | cons rt rr =>
      cases rr
      cases rx
      have ec := hcv _ rt
      subst ec
      subst ed
      obtain ⟨hget, _⟩ := I.pin (a, oe) (List.mem_append.mpr (.inl List.mem_cons_self))
      obtain ⟨vs, hv⟩ := hf
      have hx : ObjOk X.prog X.w H s.heap dd (.xd fs) := I.hok dd _ ea
      obtain ⟨mA, hns, hr⟩ := hx
      obtain ⟨od, ho, hl⟩ := lookIn_ns hns
      have J : PySem.W.InstAt s.heap a oe C (some od) := ⟨hget, hz.1, by unfold PySem.W.notCls; rw [hv] <;> rfl, by rw [hz.2]; exact ho⟩
      have hcl : (PySem.W.clsIn X.K C).isSome = true := by
        obtain ⟨cd, hc, _⟩ := PySem.W.any_some T.hdC
        rw [hc]
        rfl
      exact PySem.W.kia_one (PySem.W.kitx_exc hcl T.ga T.gg T.exC T.kcls T.kget T.ktak T.kmro) I.kIn J e (fun z => nomatch z) fun tk => ⟨.bl b, H, I.kept (t' := tk) fun _ _ z => z, rfl, q⟩
end
end Sp1
/-! the class InvalidProgram: its __init__ keeps part -/
namespace Sp1X
open PySem PySem.W PySem.Calls PyProof.Rows PySem.HandSPX
def iA_InvalidProgram (p1 p2 : Pos) : Arguments := { posonlyargs := [], args := [{ arg := "self", annotation := none, pos := p1 }, { arg := "part", annotation := none, pos := p2 }], vararg := none, kwonlyargs := [], kw_defaults := [], kwarg := none, defaults := [] }
def iB_InvalidProgram (q1 q2 q3 q4 : Pos) : List Stmt := [.Assign [.Attribute (.Name "self" q1) "part" q2] (.Name "part" q3) q4]
def iS_InvalidProgram : Scope := { kind := .function, names := [(PySem.Str.ofString "self", .local), (PySem.Str.ofString "part", .local)], isGenerator := false, isCoroutine := false, more := [] }
/-- what the written part says of InvalidProgram, at C, and of its __init__, at fI -/
structure Txt_InvalidProgram (K : Frag) (mg : Str → Option Value) (C fI : Addr) : Prop where
  gC : mg "InvalidProgram" = some (.ref C)
  cls : ∃ nm q N bs bm sn sub ab col dd k0 k1 k2 k3 k5, K.lookup C = some (excClassObj nm q C N bs bm true sn sub ab col dd k0 k1 k2 k3 k5 "ValueError.__new__") ∧ BmOk "ValueError" bm
  sa : findIn K (.ref C) "__setattr__" = some (some (.builtin "object.__setattr__"))
  ga : findIn K (.ref C) "__getattribute__" = some (some (.builtin "BaseException.__getattribute__"))
  gg : findIn K (.ref C) "__getattr__" = some none
  noN : findIn K (.ref C) "part" = some none
  iC : findIn K (.ref C) "__init__" = some (some (.ref fI))
  tC : typeIn K (.ref fI) = some (.type "function")
  kC : keepIn K (.ref C) = true
  exC : subIn K (.ref C) (.type "BaseException") = some true
  tyC : typeIn K (.ref C) = some (.type "type")
  hdC : hasDictIn K C = true
  te : exmOne K (.ref C) (.ref C) = some true
  kcls : findIn K (.ref C) "__class__" = some (some (.builtin "object.__class__"))
  kget : specialIn K (.builtin "object.__class__") "__get__" = some (some (.builtin "getset_descriptor.__get__"))
  ktak : takesIn K (.builtin "object.__class__") = some true
  kmro : mroIn K C (.type "object") = some true
  fn : ∃ (oc : Value) (od : Option Addr) (doc pm : Value) (an : Option Addr) (cdv ct : Value) (osl : Array (Option Value)) (p1 p2 q1 q2 q3 q4 : Pos),
    K.lookup fI = some ⟨oc, od, .func (fnOf "__init__" "InvalidProgram.__init__" (iA_InvalidProgram p1 p2) (iB_InvalidProgram q1 q2 q3 q4) iS_InvalidProgram .none .none doc pm an cdv ct), osl⟩ ∧ codeIn K cdv "InvalidProgram.__init__" = true
section
variable {prog : Program} {w : World} {A : Around} {E : Value → Shared → Prop} {R : Result → Shared → Prop} {s : Shared} {K : Frag} {mg : Str → Option Value} {C fI : Addr}
theorem init_InvalidProgram (T : Txt_InvalidProgram K mg C fI) {x t0 : Addr} {v : Value} (X : K.In s.heap) (lim : s.heap.NoLimit) (hx : s.heap.get? x = some (excO C t0)) (room : A.depth < recursionLimit)
    (fin : ∀ h' tk dx, InitEnd_part s.heap h' x C dx t0 v → R (.ok (.ret .none)) { s with heap := h', toks := tk }) : codeAny (model prog w) A (.call (.ref fI) ⟨[.ref x, v], []⟩) R s := by
  obtain ⟨oc, od, doc, pm, an, cdv, ct, osl, p1, p2, q1, q2, q3, q4, ho, hcd⟩ := T.fn
  obtain ⟨nm, q, N, bs, bm, sn, sub, ab, col, dd, k0, k1, k2, k3, k5, hC, bmk⟩ := T.cls
  have hcl : clsIn K C = some { name := nm, bases := bs, mro := .ref C :: bm, ns := N, qualname := q, hasDict := true, slotNames := sn, subclasses := sub, abstract := ab, collection := col, hasDel := false } := by unfold clsIn; rw [hC] <;> rfl
  refine Att.call_fn (binds := [("self", .ref x), ("part", v)]) X lim ho hcd room (BindsTo.of_eq (by first | rfl | with_unfolding_all rfl)) (by first | rfl | decide | with_unfolding_all rfl) (fun s1 IC => ?_) rfl rfl rfl
  obtain ⟨h1, tk1, rfl⟩ := IC.toInCall.same
  have k : ∀ b o, s.heap.get? b = some o → h1.get? b = some o := IC.toInCall.keep
  have hn := IC.toInCall.ns
  have X1 : K.In h1 := X.keeps k
  have hx1 := k _ _ hx
  show wpAny _ _ (execs _ _) _ _ _
  refine wpAny_execs_cons (plainObj_wpAny_Assign_Attribute ?_)
  refine ldX (v := v) hn (by first | rfl | with_unfolding_all rfl | kernel_rfl) (ldX (v := .ref x) hn (by first | rfl | with_unfolding_all rfl | kernel_rfl) ?_)
  refine set_plain X1 (ox := excO C t0) (od := none) ⟨hx1, rfl, rfl, trivial⟩ T.sa ?_
  have bm1 := bmk.ref C
  refine x_store X1 hx1 hcl bm1.hO bm1.ne bm1.pass rfl T.noN (fun h3 tk3 dx k3 dn dne hx3 hn3 => ?_)
  show wpAny _ _ (execs _ _) _ _ _
  have z : s.heap.objs.size < h1.objs.size := hn.lt
  exact wpAny_execs_nil (fin h3 tk3 dx ⟨fun b o hb e => k3 b o hb (k b o e), hx3, Nat.le_of_lt (Nat.lt_of_lt_of_le z dn), dne, hn3⟩)
theorem made_InvalidProgram (T : Txt_InvalidProgram K mg C fI) {v : Value} (X : K.In s.heap) (lim : s.heap.NoLimit) (room : A.depth + 1 < recursionLimit) (fin : ∀ h' tk e d, Made_part s.heap h' e C d v → R (.ok (.ret (.ref e))) { s with heap := h', toks := tk }) :
    codeAny (model prog w) A (.call (.ref C) ⟨[v], []⟩) R s := by
  obtain ⟨nm, q, N, bs, bm, sn, sub, ab, col, dd, k0, k1, k2, k3, k5, hC, bmk⟩ := T.cls
  obtain ⟨hp, g, dr, tk, os⟩ := s
  have k : ∀ b o, hp.get? b = some o → ((hp.push (kdv_tup [v])).push (excO C hp.objs.size)).get? b = some o := fun b o e => Heap.get?_push_of_some _ (Heap.get?_push_of_some _ e)
  have hget : ((hp.push (kdv_tup [v])).push (excO C hp.objs.size)).get? (hp.objs.size + 1) = some (excO C hp.objs.size) := by heap_get
  refine x_call PySem.F.excBase_ValueError bmk (X _ _ hC) (looks_findIn X T.iC) (fun self => bind_fn X self T.tC) (by show 1 ≤ sizeLine; decide) ?_
  refine init_InvalidProgram (s := ⟨(hp.push (kdv_tup [v])).push (excO C hp.objs.size), g, dr, tk, os⟩) T (X.keeps k) (lim.keeps k) hget ?_ fun h' tk' dx ⟨k', hx, dn, dne, hns⟩ => ?_
  · show A.depth + 1 < recursionLimit
    exact room
  · have old : ∀ b o, hp.get? b = some o → h'.get? b = some o := fun b o e => k' b o (Nat.ne_of_lt (Nat.lt_succ_of_lt (Heap.lt_size e))) (k b o e)
    have z : hp.objs.size + 1 + 1 ≤ dx := by
      first
        | (simpa only [Heap.size_push] using dn)
        | exact dn
        | (have q := dn; rw [Heap.size_push, Heap.size_push] at q; exact q)
    exact ⟨rfl, fin h' tk' (hp.objs.size + 1) dx ⟨old, Nat.le_succ _, ⟨_, _, hx, rfl, rfl, rfl, rfl⟩, Nat.le_trans (Nat.le_trans (Nat.le_succ _) (Nat.le_succ _)) z, dne, hns⟩⟩
end
end Sp1X
namespace Sp1
open PySem PySem.Spec PyProof.Rows L2 Sp1X
section
variable {X : Cx} {C fI : Addr}
theorem pmk_InvalidProgram {a : Expr} {ta : TA} {p pos : Pos} {k : Nat} (T : Txt_InvalidProgram X.K X.mg C fI) (hr : Room k X.A) (ha : PA X [a] ta) (hg : Gl X "InvalidProgram" := by rfl)
    (he : starEach (a :: []) X.env = (false, eval a X.env) :: starEach [] X.env := by rfl) (hpl : (backTo pos (starEach [] X.env)).any (·.1) = false := by rfl) : PMk X (.Call (.Name "InvalidProgram" p) [a] [] pos) (tMkX C "part" ta) := by
  intro pins s σ H Q I h
  refine wpAny_Call_Name_kw (ld_glob I hg T.gC ?_)
  refine PySem.W.callWith_K (h₀ := X.base) I.ok.mod.kin T.kC (thn (ha.run pos pins s σ H _ I h) fun us s1 hh => ?_) he hpl
  obtain ⟨vs, H1, I1, r1, v, ev, q1⟩ := hh
  subst ev
  refine ⟨I1.kIn, ?_⟩
  cases r1 with
  | cons rv rn =>
    rename_i v' us'
    cases rn
    show wpAny _ _ (call (.ref C) [v']) _ _ _
    have lim := I1.nolimit
    obtain ⟨hp, g, dr, tk, os⟩ := s1
    refine wpAny_call (made_InvalidProgram T I1.kIn lim (by have := hr.dp; omega) fun h' tk' e d M => ?_)
    show MkP X pins σ Q (.ref e) ⟨h', g, dr, tk', os⟩
    obtain ⟨oe, fv, hoe, hc, hd, hdat, h1⟩ := M.obj
    have hns := M.ns
    obtain ⟨G', g1, g2⟩ := restrict h' fun b => decide (b ≠ e)
    have gk : ∀ b, b ≠ e → G'.get? b = h'.get? b := fun b hb => g1 b (decide_eq_true hb)
    have ge : G'.get? e = none := g2 e (by simp)
    have old : ∀ b o, hp.get? b = some o → G'.get? b = some o := fun b o q => (gk b (Nat.ne_of_lt (Nat.lt_of_lt_of_le (Heap.lt_size q) M.new))).trans (M.keep b o q)
    have ob : ObjOk X.prog X.w (upd H1 d (.xd [(("part" : Str), v)])) G' d (.xd [(("part" : Str), v)]) := ⟨_, hns.at (fun o q => (gk d M.dne).trans q), fun f => relO_one rv f⟩
    have J : Inv X pins σ (upd H1 d (.xd [(("part" : Str), v)])) ⟨G', g, dr, tk', os⟩ := I1.laid (t' := tk') old M.dbig ob
    refine ⟨e, oe, fv, ⟨G', g, dr, tk', os⟩, _, .ref C, some d, rfl, J, fun b o q => ?_, ge, hoe, ⟨hc, hd⟩, hdat, h1, ?_, rfl, I1.bare, raises_own T.exC T.tyC, q1 d (I1.hok.fresh M.dbig)⟩
    · by_cases hb : b = e
      · have q' : G'.get? b = some o := q
        rw [hb, ge] at q'
        cases q'
      · exact (gk b hb).symm.trans q
    · rw [upd_ne (Ne.symm M.dne)]
      exact I1.hok.fresh M.new
/-- raise InvalidProgram(e) -/
theorem ps_raise_InvalidProgram {a : Expr} {ta : TA} {W : WX} {p pos pos2 : Pos} {k : Nat} (hc : X.calm = true) (T : Txt_InvalidProgram X.K X.mg C fI) (hr : Room k X.A) (tk : Takes X W) (ha : PA X [a] ta) (hg : Gl X "InvalidProgram" := by rfl)
    (he : starEach (a :: []) X.env = (false, eval a X.env) :: starEach [] X.env := by rfl) (hpl : (backTo pos (starEach [] X.env)).any (·.1) = false := by rfl) :
    PS X (.Raise (some (.Call (.Name "InvalidProgram" p) [a] [] pos)) none pos2) (tRaiseX C "part" W ta) := ps_raise hc tk (pmk_InvalidProgram T hr ha hg he hpl)
/-- e.part in the suite that holds e -/
theorem pe_by_InvalidProgram {a : Addr} {oe : Obj} {cls : Value} {d : Option Addr} {pn : List (Addr × Obj)} {e : Expr} {te : TE} {pos : Pos} (T : Txt_InvalidProgram X.K X.mg C fI) (hz : Zc cls d oe) (hf : ∃ vs, oe.data = .fields vs) (he : PE (X.suite a ((a, oe) :: pn)) e te)
    (hb : attributeBase e "part" X.env (eval e X.env) = eval e X.env := by rfl) : PE (X.suite a ((a, oe) :: pn)) (.Attribute e "part" pos) (tByX C "part" a cls d te) := by
  refine ⟨fun pins s σ H Q I h => ?_⟩
  refine attr_of hb (thn (he.run pins s σ H _ I h) fun u s1 hh => ?_)
  obtain ⟨x, H1, I1, rx, ex, ec, dd, v, ed, ea, q⟩ := hh
  subst ex
  obtain rfl : u = Value.ref a := rx
  subst ec
  subst ed
  obtain ⟨ha, _⟩ := I1.pin (a, oe) (List.mem_append_left _ List.mem_cons_self)
  obtain ⟨vs, hd⟩ := hf
  have hx : ObjOk X.prog X.w H1 s1.heap dd (.xd [(("part" : Str), v)]) := I1.hok dd _ ea
  obtain ⟨mA, hns, hr⟩ := hx
  obtain ⟨od, ho, hl⟩ := lookIn_ns hns
  have l : List.lookup ("part" : Str) [(("part" : Str), v)] = some v := by simp [List.lookup]
  obtain ⟨u, hu, ru⟩ := RelO.some_of (v := v) (o := mA "part") (by rw [← l]; exact hr "part")
  have J : PySem.W.InstAt s1.heap a oe C (some od) := ⟨ha, hz.1, by unfold PySem.W.notCls; rw [hd] <;> rfl, by rw [hz.2]; exact ho⟩
  exact HandSPX.exc_get I1.kIn J T.ga T.gg T.exC (PySem.W.findObj_own T.hdC T.noN rfl (by rw [hl, hu])) (handed_of ru) ⟨v, H1, I1.tok _, ru, q⟩
/-- isinstance(e, c), e the exception that the suite holds -/
theorem isx_InvalidProgram {a : Addr} {oe : Obj} {d : Option Addr} {pn : List (Addr × Obj)} (T : Txt_InvalidProgram X.K X.mg C fI) (hz : Zc (.ref C) d oe) (hf : ∃ vs, oe.data = .fields vs) : CallR (X.suite a ((a, oe) :: pn)) (.builtin "isinstance") (rIsX X.K C a d) := by
  intro pins s σ H xs us Q I r h
  obtain ⟨c, cv, b, rfl, hcv, e, ⟨dd, fs, ed, ea⟩, q⟩ := h
  cases r with
  | cons rx rr => cases rr with
    | cons rt rr =>
      cases rr
      cases rx
      have ec := hcv _ rt
      subst ec
      subst ed
      obtain ⟨hget, _⟩ := I.pin (a, oe) (List.mem_append.mpr (.inl List.mem_cons_self))
      obtain ⟨vs, hv⟩ := hf
      have hx : ObjOk X.prog X.w H s.heap dd (.xd fs) := I.hok dd _ ea
      obtain ⟨mA, hns, hr⟩ := hx
      obtain ⟨od, ho, hl⟩ := lookIn_ns hns
      have J : PySem.W.InstAt s.heap a oe C (some od) := ⟨hget, hz.1, by unfold PySem.W.notCls; rw [hv] <;> rfl, by rw [hz.2]; exact ho⟩
      have hcl : (PySem.W.clsIn X.K C).isSome = true := by
        obtain ⟨cd, hc, _⟩ := PySem.W.any_some T.hdC
        rw [hc]
        rfl
      exact PySem.W.kia_one (PySem.W.kitx_exc hcl T.ga T.gg T.exC T.kcls T.kget T.ktak T.kmro) I.kIn J e (fun z => nomatch z) fun tk => ⟨.bl b, H, I.kept (t' := tk) fun _ _ z => z, rfl, q⟩
end
end Sp1

set_option Elab.async false
set_option linter.all false
set_option maxRecDepth 100000
set_option maxHeartbeats 4000000
namespace Pg
open PySem
/-! sums, expressions, statements, as data -/
structure Sm where
  c : Int
  ts : List (Int × Str)
  d : Int
inductive Ex where
  | sum (s : Sm)
  | read
  | two (w : Str) (a b : Sm)
inductive St where
  | set (x : Str) (e : Ex)
  | swap (x y : Str)
  | print (e : Ex)
  | call (p : Str)
  | ite (e : Ex) (a b : List St)
  | whl (e : Ex) (b : List St)
  | rep (e : Ex) (b : List St)
abbrev sD (x : Str) : PyData := .str x
def tD (t : Int × Str) : PyData := .tuple [.int t.1, .str t.2]
def Sm.D (s : Sm) : PyData := .tuple [.str "sum", .int s.c, .tuple (s.ts.map tD), .int s.d]
def Ex.D : Ex → PyData
  | .sum s => s.D
  | .read => .tuple [.str "read"]
  | .two w a b => .tuple [.str w, a.D, b.D]
mutual
def St.D : St → PyData
  | .set x e => .tuple [.str "set", .str x, e.D]
  | .swap x y => .tuple [.str "swap", .str x, .str y]
  | .print e => .tuple [.str "print", e.D]
  | .call p => .tuple [.str "call", .str p]
  | .ite e a b => .tuple [.str "if", e.D, .tuple (blD a), .tuple (blD b)]
  | .whl e b => .tuple [.str "while", e.D, .tuple (blD b)]
  | .rep e b => .tuple [.str "repeat", e.D, .tuple (blD b)]
def blD : List St → List PyData
  | [] => []
  | s :: r => s.D :: blD r
end
theorem blD_map : ∀ b : List St, blD b = b.map St.D
  | [] => rfl
  | s :: r => by rw [blD, blD_map r]; rfl
def bD (b : List St) : PyData := .tuple (b.map St.D)
/-! data of tuples, texts, numbers and None alone -/
mutual
def tupD : PyData → Bool
  | .none | .bool _ | .int _ => true
  | .str x => PyData.canLay0 (.str x)
  | .list _ | .dict _ => false
  | .tuple ds => tupAll ds
def tupAll : List PyData → Bool
  | [] => true
  | d :: ds => tupD d && tupAll ds
end
theorem tupAll_iff {ds : List PyData} : tupAll ds = true ↔ ∀ d ∈ ds, tupD d = true := by
  induction ds with
  | nil => simp [tupAll]
  | cons d r ih => simp [tupAll, ih]
mutual
theorem tupD_lay : ∀ d : PyData, tupD d = true → d.canLay0 = true
  | .none, _ => rfl
  | .bool _, _ => rfl
  | .int _, _ => rfl
  | .str x, h => by simpa [tupD] using h
  | .list _, h => by simp [tupD] at h
  | .dict _, h => by simp [tupD] at h
  | .tuple ds, h => by
    simp only [PyData.canLay0]
    exact tupAll_lay ds (by simpa [tupD] using h)
theorem tupAll_lay : ∀ ds : List PyData, tupAll ds = true → PyData.canLayAll0 ds = true
  | [], _ => rfl
  | d :: r, h => by
    simp only [tupAll, Bool.and_eq_true] at h
    simp only [PyData.canLayAll0, Bool.and_eq_true]
    exact ⟨tupD_lay d h.1, tupAll_lay r h.2⟩
end
theorem depthAll_le {ds : List PyData} {n : Nat} (h : ∀ d ∈ ds, d.depth ≤ n) : PyData.depthAll ds ≤ n := by
  induction ds with
  | nil => exact Nat.zero_le _
  | cons d r ih =>
    simp only [PyData.depthAll]
    exact Nat.max_le.mpr ⟨h d List.mem_cons_self, ih fun x hx => h x (List.mem_cons_of_mem _ hx)⟩
theorem depthAll_mem {ds : List PyData} {d : PyData} (h : d ∈ ds) : d.depth ≤ PyData.depthAll ds := by
  induction ds with
  | nil => cases h
  | cons x r ih =>
    simp only [PyData.depthAll]
    rcases List.mem_cons.mp h with rfl | h
    · exact Nat.le_max_left _ _
    · exact Nat.le_trans (ih h) (Nat.le_max_right _ _)
theorem shaped_of {d : PyData} (h : tupD d = true) (n : d.depth ≤ 64) : SeqAt.shaped d = true := Bool.and_eq_true_iff.mpr ⟨tupD_lay d h, decide_eq_true n⟩
theorem shaped_list {ds : List PyData} (h : ∀ d ∈ ds, tupD d = true) (n : ∀ d ∈ ds, d.depth ≤ 63) : SeqAt.shaped (.list ds) = true := by
  have h1 : PyData.canLayAll0 ds = true := tupAll_lay ds (tupAll_iff.mpr h)
  have h2 := depthAll_le n
  exact Bool.and_eq_true_iff.mpr ⟨by simp only [PyData.canLay0]; exact h1, decide_eq_true (by simp only [PyData.depth]; omega)⟩
/-! names -/
/-- one to eight letters, no word of the language -/
def words : List Str := ["given", "var", "proc", "main", "end", "set", "swap", "print", "if", "else", "while", "repeat", "call", "read", "product", "quotient", "remainder", "less", "same"]
def pairWords : List Str := ["product", "quotient", "remainder", "less", "same"]
structure Nm (x : Str) : Prop where
  l1 : 1 ≤ x.length
  l8 : x.length ≤ 8
  ch : ∀ c ∈ x.cps.toList, 97 ≤ c ∧ c ≤ 122
  nw : x ∉ words
theorem str_lay {x : Str} (h : ∀ c ∈ x.cps.toList, c < 0x110000) : tupD (.str x) = true := by
  simp only [tupD, PyData.canLay0, PyData.strOk]
  rw [Array.all_eq_true_iff_forall_mem]
  intro c hc
  exact decide_eq_true (h c (Array.mem_toList_iff.mpr hc))
theorem Nm.tup {x : Str} (h : Nm x) : tupD (.str x) = true := str_lay fun c hc => by have := h.ch c hc; omega
def sLt (a b : Str) : Prop := a.cps.toList < b.cps.toList
/-! what a program may hold -/
def great : Int := 10 ^ 300
structure Sm.Ok (names : List Str) (s : Sm) : Prop where
  nz : ∀ t ∈ s.ts, t.1 ≠ 0 ∧ t.2 ∈ names
  asc : (s.ts.map (·.2)).Pairwise sLt
  dp : 1 ≤ s.d
  len : s.ts.length ≤ 60
  gcd : ((s.ts.map (·.1)).foldl (fun (a : Nat) x => Nat.gcd a x.natAbs) (Nat.gcd (Nat.gcd 0 s.c.natAbs) s.d.natAbs)) = 1
  sh : ∀ x ∈ s.c :: s.d :: s.ts.map (·.1), -great < x ∧ x < great
def Ex.Ok (names : List Str) : Ex → Prop
  | .sum s => s.Ok names
  | .read => True
  | .two w a b => w ∈ pairWords ∧ a.Ok names ∧ b.Ok names
mutual
/-- a statement in at most n further blocks -/
def St.Ok (names procs : List Str) : Nat → St → Prop
  | _, .set x e => x ∈ names ∧ e.Ok names
  | _, .swap x y => x ∈ names ∧ y ∈ names ∧ y ≠ x
  | _, .print e => e.Ok names
  | _, .call p => p ∈ procs
  | n, .ite e a b => e.Ok names ∧ ∃ m, n = m + 1 ∧ blOk names procs m a ∧ blOk names procs m b
  | n, .whl e b => e.Ok names ∧ ∃ m, n = m + 1 ∧ blOk names procs m b
  | n, .rep e b => e.Ok names ∧ ∃ m, n = m + 1 ∧ blOk names procs m b
def blOk (names procs : List Str) : Nat → List St → Prop
  | _, [] => True
  | n, s :: r => St.Ok names procs n s ∧ blOk names procs n r
end
theorem blOk_iff {names procs : List Str} {n : Nat} : ∀ {b : List St}, blOk names procs n b ↔ ∀ s ∈ b, St.Ok names procs n s
  | [] => by simp [blOk]
  | s :: r => by simp [blOk, blOk_iff (b := r)]
/-! code -/
def goD (n w : Int) : PyData := .tuple [.str "go", .int n, .int w]
mutual
def St.code : St → Int → List PyData
  | .ite e a b, n => .tuple [.str "test", e.D, .int (n + 1 + (blCode a (n + 1)).length + 1)] :: (blCode a (n + 1) ++ (goD (n + 1 + (blCode a (n + 1)).length + 1 + (blCode b (n + 1 + (blCode a (n + 1)).length + 1)).length + 1) 1 :: (blCode b (n + 1 + (blCode a (n + 1)).length + 1) ++ [goD (n + 1 + (blCode a (n + 1)).length + 1 + (blCode b (n + 1 + (blCode a (n + 1)).length + 1)).length + 1) 0])))
  | .whl e b, n => goD (n + 1) 0 :: .tuple [.str "test", e.D, .int (n + 1 + 1 + (blCode b (n + 1 + 1)).length + 1)] :: (blCode b (n + 1 + 1) ++ [goD (n + 1) 1])
  | .rep e b, n => .tuple [.str "begin", e.D] :: .tuple [.str "turn", .int (n + 1 + 1 + (blCode b (n + 1 + 1)).length + 1)] :: (blCode b (n + 1 + 1) ++ [.tuple [.str "again", .int (n + 1)]])
  | .set x e, _ => [St.D (.set x e)]
  | .swap x y, _ => [St.D (.swap x y)]
  | .print e, _ => [St.D (.print e)]
  | .call p, _ => [St.D (.call p)]
def blCode : List St → Int → List PyData
  | [], _ => []
  | s :: r, n => s.code n ++ blCode r (n + (s.code n).length)
end
end Pg

set_option Elab.async false
set_option linter.all false
set_option maxRecDepth 100000
set_option maxHeartbeats 4000000
namespace Sp1
open PySem PySem.Spec PyProof.Rows L2 Pg
section
variable {K : PySem.W.Frag} {H H' : Hp}
mutual
theorem dp_keep (s : TK H H') : ∀ {d : PyData} {v : V}, Dp K H v d → tupD d = true → Dp K H' v d
  | .none, _, h, _ => by cases h; exact .non
  | .bool b, _, h, _ => by cases h; exact .bl b
  | .int i, _, h, _ => by cases h; exact .int i
  | .str x, _, h, _ => by cases h; exact .str x
  | .list _, _, _, t => by simp [tupD] at t
  | .dict _, _, _, t => by simp [tupD] at t
  | .tuple ds, _, h, t => by
    cases h with
    | tup hs ha => exact .tup (s.sqt hs) (dpAll_keep s ha (by simpa [tupD] using t))
theorem dpAll_keep (s : TK H H') : ∀ {ds : List PyData} {vs : List V}, DpAll K H vs ds → tupAll ds = true → DpAll K H' vs ds
  | [], _, h, _ => by cases h; exact .nil
  | d :: ds, _, h, t => by
    simp only [tupAll, Bool.and_eq_true] at t
    cases h with
    | cons h1 h2 => exact .cons (dp_keep s h1 t.1) (dpAll_keep s h2 t.2)
end
theorem dp_tup {v : V} {ds : List PyData} (h : Dp K H v (.tuple ds)) : ∃ a xs, v = .ref a ∧ SqT K H a xs ∧ DpAll K H xs ds := by
  cases h with
  | tup hs ha => exact ⟨_, _, rfl, hs, ha⟩
theorem dp_str {v : V} {x : Str} (h : Dp K H v (.str x)) : v = .str x := by cases h; rfl
theorem dp_int {v : V} {i : Int} (h : Dp K H v (.int i)) : v = .int i := by cases h; rfl
theorem dpAll_len : ∀ {ds : List PyData} {vs : List V}, DpAll K H vs ds → vs.length = ds.length
  | [], _, h => by cases h; rfl
  | d :: ds, _, h => by
    cases h with
    | cons _ h2 => rw [List.length_cons, List.length_cons, dpAll_len h2]
theorem dpAll_at : ∀ {ds : List PyData} {vs : List V}, DpAll K H vs ds → ∀ {i : Nat} {v : V}, vs[i]? = some v → ∃ d, ds[i]? = some d ∧ Dp K H v d
  | [], _, h, i, v, e => by cases h; simp at e
  | d :: ds, _, h, i, v, e => by
    cases h with
    | cons h1 h2 =>
      cases i with
      | zero => cases e; exact ⟨d, rfl, h1⟩
      | succ i => exact dpAll_at h2 e
theorem dpAll_get {ds : List PyData} {vs : List V} (h : DpAll K H vs ds) {i : Nat} {d : PyData} (e : ds[i]? = some d) : ∃ v, vs[i]? = some v ∧ Dp K H v d := by
  have hi := (List.getElem?_eq_some_iff.mp e).1
  have hv : i < vs.length := by rw [dpAll_len h]; exact hi
  obtain ⟨d', e', q⟩ := dpAll_at h (List.getElem?_eq_getElem hv)
  rw [e] at e'
  cases e'
  exact ⟨_, List.getElem?_eq_getElem hv, q⟩
theorem dpAll_app {ds es : List PyData} {vs ws : List V} (h : DpAll K H vs ds) (h' : DpAll K H ws es) : DpAll K H (vs ++ ws) (ds ++ es) := by
  induction h using DpAll.rec (motive_1 := fun _ _ _ => True) with
  | nil => exact h'
  | cons h1 _ _ ih => exact .cons h1 ih
  | _ => trivial
theorem dpAll_snoc {ds : List PyData} {vs : List V} {d : PyData} {v : V} (h : DpAll K H vs ds) (h' : Dp K H v d) : DpAll K H (vs ++ [v]) (ds ++ [d]) := dpAll_app h (.cons h' .nil)
theorem dpAll_strs : ∀ xs : List Str, DpAll K H (xs.map V.str) (xs.map sD)
  | [] => .nil
  | x :: r => .cons (.str x) (dpAll_strs r)
theorem dpAll_strs_inv : ∀ {xs : List Str} {vs : List V}, DpAll K H vs (xs.map sD) → vs = xs.map V.str
  | [], _, h => by cases h; rfl
  | x :: r, _, h => by
    cases h with
    | cons h1 h2 =>
      rw [dp_str h1, dpAll_strs_inv h2]
      rfl
/-- a tuple of texts -/
def Ts (K : PySem.W.Frag) (H : Hp) (v : V) (xs : List Str) : Prop := ∃ a, v = .ref a ∧ SqT K H a (xs.map V.str)
theorem Ts.tk {v : V} {xs : List Str} (h : Ts K H v xs) (s : TK H H') : Ts K H' v xs := by
  obtain ⟨a, e, h⟩ := h
  exact ⟨a, e, s.sqt h⟩
theorem Ts.dp {v : V} {xs : List Str} (h : Ts K H v xs) : Dp K H v (.tuple (xs.map sD)) := by
  obtain ⟨a, rfl, h⟩ := h
  exact .tup h (dpAll_strs xs)
theorem ts_of_dp {v : V} {xs : List Str} (h : Dp K H v (.tuple (xs.map sD))) : Ts K H v xs := by
  obtain ⟨a, vs, rfl, hs, ha⟩ := dp_tup h
  rw [dpAll_strs_inv ha] at hs
  exact ⟨a, rfl, hs⟩
/-- a list or a tuple of texts -/
def Tl (K : PySem.W.Frag) (H : Hp) (v : V) (xs : List Str) : Prop := ∃ a, v = .ref a ∧ (SqL K H a (xs.map V.str) ∨ SqT K H a (xs.map V.str))
theorem Ts.tl {v : V} {xs : List Str} (h : Ts K H v xs) : Tl K H v xs := by
  obtain ⟨a, e, h⟩ := h
  exact ⟨a, e, .inr h⟩
theorem Tl.same {v : V} {xs : List Str} (h : Tl K H v xs) (s : Same H H') : Tl K H' v xs := by
  obtain ⟨a, e, h⟩ := h
  exact ⟨a, e, h.imp (fun h => s.seq h) fun h => Same.sqt s h⟩
theorem flat_strs (xs : List Str) : (xs.map V.str).all flatV = true := by
  rw [List.all_eq_true]
  intro x hx
  obtain ⟨_, _, rfl⟩ := List.mem_map.mp hx
  rfl
theorem inV_strs (x : Str) (xs : List Str) : inV (.str x) (xs.map V.str) = decide (x ∈ xs) := by
  unfold inV
  rw [Bool.eq_iff_iff, List.any_eq_true, decide_eq_true_eq]
  constructor
  · rintro ⟨v, hv, e⟩
    obtain ⟨y, hy, rfl⟩ := List.mem_map.mp hv
    have : y = x := beq_iff_eq.mp e
    rw [← this]
    exact hy
  · intro h
    exact ⟨.str x, List.mem_map.mpr ⟨x, h, rfl⟩, beq_self_eq_true x⟩
theorem tyx_tupS {a : Addr} {xs : List V} (h : SqT K H a xs) : TyX K H (.ref a) (.type "tuple") := by
  rcases h with (h | ⟨o, h⟩) | ⟨o, its, n, e, c, _⟩
  · exact .base (.tup h)
  · exact .fTuple h
  · exact .kTuple e c
theorem tyx_dp {v : V} {ds : List PyData} (h : Dp K H v (.tuple ds)) : TyX K H v (.type "tuple") := by
  obtain ⟨a, xs, rfl, hs, _⟩ := dp_tup h
  exact tyx_tupS hs
/-! all(..) of a list of truths -/
theorem all_true (n : Nat) : ((List.range n).map fun _ => true).all id = true := by
  rw [List.all_eq_true]
  intro x hx
  obtain ⟨_, _, rfl⟩ := List.mem_map.mp hx
  rfl
theorem acc_true {D : Addr} {n : Nat} (h : Acc H D (fun _ => V.bl true) n H') : H' D = some (.lst (((List.range n).map fun _ => true).map V.bl)) := by
  rw [h.2, List.map_map]
  rfl
end
end Sp1

set_option Elab.async false
set_option linter.all false
set_option maxRecDepth 100000
set_option maxHeartbeats 4000000
namespace Sp1
open PySem PySem.W PySem.Spec PyProof.Rows L2
theorem nodup_len {α : Type} {ys xs : List α} (h : ys.Nodup) (h' : ∀ k ∈ ys, k ∈ xs) : ys.length ≤ xs.length := List.Nodup.length_le_of_subset h h'
section
variable {P : Program} {w : World} {A : Around} {E : Value → Shared → Prop} {s : Shared}
/-- a text that is in it changes nothing -/
theorem addT_old {a : Addr} {k : Str} {tk : Tok} {xs : List Str} {Q : Bool → Shared → Prop} (S : SetS w s.heap a xs) (old : k ∈ xs) (q : Q false s) :
    wpAny (model P w) A (setAddHashed a (.str k tk) ((strKind P w).hash k)) Q E s := by
  obtain ⟨nd, o, es, ep, t, ho, hex, hd, g, hp, hb, hf, hr, hl⟩ := S
  have sc : (Value.str k tk).scannable = true := rfl
  have el : ElemsOf (strKind P w) es.toList := good_elemsT g
  obtain ⟨j, yes⟩ : ∃ j, List.findIdx? (fun e => (strKind P w).is k e.2) es.toList = some j := by
    cases e : List.findIdx? (fun e => (strKind P w).is k e.2) es.toList with
    | some j => exact ⟨j, rfl⟩
    | none =>
      exfalso
      obtain ⟨e', he, hk⟩ := List.mem_map.mp (hp.mem_iff.mpr old)
      have := List.findIdx?_eq_none_iff.mp e e' he
      obtain ⟨x, tk', h1, _⟩ := g e' he
      unfold skey at hk
      rw [h1] at hk this
      have hk : x = k := hk
      subst hk
      rw [strKind_is P w x tk'] at this
      cases this
  unfold setAddHashed setAddHashedIn
  refine wpAny_holding (wpAny_bind (wpAny_setState_of ho hd hf ?_))
  dsimp only
  rw [byScan_of sc hb el]
  simp only [↓reduceIte]
  unfold setAddByScan
  refine wpAny_bind (wpAny_bind (wpAny_rule (wpAny_bind (wpAny_setScan_of (strKind_is P w k tk) ho hd hf el ?_))))
  rw [yes]
  exact wpAny_pure (wpAny_pure q)
/-- one after another -/
theorem updTd {I : Addr} {fp wr : List Addr} {G : Array GenState → Array GenState → Prop} {n : Nat} {Pv : Nat → Value → Prop} {St : Nat → Shared → Prop} {R : Result → Shared → Prop} (W : WalksS P w A.in1 I fp wr G n Pv St) (S : Addr) (hS : S ∉ fp) (xs : List Str) (hn : n = xs.length)
    (hb : xs.length + 1 < scanBound) (val : ∀ i v, Pv i v → ∃ k t, xs[i]? = some k ∧ v = .str k t) : ∀ (m i : Nat) (z : Shared) (ys : List Str), n - i = m → i ≤ n → St i z → SetS w z.heap S ys → (∀ k, k ∈ ys ↔ k ∈ xs.take i) →
      (∀ z' ys, Moved (S :: wr) G z z' → SetS w z'.heap S ys → (∀ k, k ∈ ys ↔ k ∈ xs) → R (.ok (.ret .none)) z') → codeAny (model P w) A (.builtin "set.update.loop" ⟨[.ref S, .ref I], []⟩) R z := by
  have hSw : S ∉ wr := fun h => hS (W.sub _ h)
  have sub : ∀ b ∈ wr, b ∈ S :: wr := fun b => List.mem_cons_of_mem _
  intro m
  induction m with
  | zero =>
    intro i z ys hm hi hst hSet hp hR
    obtain rfl : i = n := by omega
    refine codeAny_builtin PyProof.Rows.F.entry_set_update_loop ?_
    rw [Around.under_plainId PyProof.Rows.F.plain_set_update_loop _]
    refine wpAny_bind (m := pyNext (.ref I)) (W.done z _ _ hst fun z' hm => ?_)
    rw [List.take_of_length_le (by omega)] at hp
    exact wpAny_pure (hR z' ys (hm.mono sub) (hSet.keeps fun o e => hm.heap S o hSw e) hp)
  | succ m ih =>
    intro i z ys hm hi hst hSet hp hR
    have lt : i < n := by omega
    refine codeAny_builtin PyProof.Rows.F.entry_set_update_loop ?_
    rw [Around.under_plainId PyProof.Rows.F.plain_set_update_loop _]
    refine wpAny_bind (m := pyNext (.ref I)) (W.item i z _ _ lt hst fun v z' hv hst' hm => ?_)
    obtain ⟨k, t, hk, rfl⟩ := val i v hv
    have S' := hSet.keeps (h' := z'.heap) fun o e => hm.heap S o hSw e
    have yl : ys.length ≤ i := by
      have h1 := nodup_len S'.1 fun k hk => (hp k).mp hk
      rw [List.length_take] at h1
      omega
    refine wpAny_bind (m := holding [Value.str k t] (setAdd S (.str k t))) (wpAny_holding ?_)
    unfold setAdd
    refine wpAny_holding (wpAny_bind ((strKind P w).pyHash (strKind_is P w k t) ?_))
    have next : ∀ (h' : Heap) (ys2 : List Str), Heap.SameBut S z'.heap h' → SetS w h' S ys2 → (∀ x, x ∈ ys2 ↔ x ∈ xs.take (i + 1)) → codeAny (model P w) A (.builtin "set.update.loop" ⟨[.ref S, .ref I], []⟩) R { z' with heap := h', toks := z'.toks + 1 } := fun h' ys2 sb r hp2 => by
      refine ih (i + 1) _ ys2 (by omega) lt (W.frame _ z' _ _ hst' (Nat.le_succ _) fun b hb o e => ?_) r hp2 fun z'' ys' hm'' r' p' => ?_
      · rw [sb.2 b (fun h : b = S => hS (by rw [← h]; exact hb))]
        exact e
      · refine hR z'' ys' (Moved.trans W.gtrans ((hm.mono sub).then_heap (Nat.le_succ _) fun b o hb e => ?_) hm'') r' p'
        rw [sb.2 b (fun h : b = S => hb (by rw [h]; exact List.mem_cons_self))]
        exact e
    have htk : xs.take (i + 1) = xs.take i ++ [k] := by
      rw [List.take_add_one, hk]
      rfl
    by_cases old : k ∈ ys
    · refine addT_old (s := { z' with toks := z'.toks + 1 }) S' old ?_
      refine wpAny_pure ⟨plainId_quiet PyProof.Rows.F.plain_set_update_loop _, next z'.heap ys (Heap.SameBut.refl _ _) S' fun x => ?_⟩
      rw [htk, List.mem_append, List.mem_singleton, ← hp x]
      exact ⟨.inl, fun h => h.elim id fun e => e ▸ old⟩
    · refine addT_new (s := { z' with toks := z'.toks + 1 }) S' old (by omega) fun h' sb r => ?_
      refine wpAny_pure ⟨plainId_quiet PyProof.Rows.F.plain_set_update_loop _, next h' (k :: ys) sb r fun x => ?_⟩
      rw [htk, List.mem_append, List.mem_singleton, ← hp x, List.mem_cons]
      exact ⟨Or.symm, Or.symm⟩
end
section
variable {P : Program} {w : World} {A : Around} {s : Shared}
/-- filling a new set from texts that differ, by any walk over them -/
theorem fillTd {S I : Addr} {h0 : Heap} {vs : Array Value} {xs : List Str} {it : Obj} {St : Nat → Shared → Prop} {R : Result → Shared → Prop} (hS : h0.get? S = some (set0 w)) (hI : I = h0.objs.size) {l : Addr} (W : WalksS P w A.in1 I [I, l] [I] (fun a b => b = a) vs.size (fun i v => vs[i]? = some v) St) (hl : l < h0.objs.size) (hlS : l ≠ S)
    (hv : StrsAre vs.toList xs) (hb : xs.length + 1 < scanBound) (st : St 0 { s with heap := h0.push it })
    (h1 : ∀ (h' : Heap) (tk : Nat) ys, SetS w h' S ys → (∀ k, k ∈ ys ↔ k ∈ xs) → (∀ b o, b ≠ S → h0.get? b = some o → h'.get? b = some o) → R (.ok (.ret .none)) { s with heap := h', toks := tk }) :
    codeAny (model P w) A (.builtin "set.update.loop" ⟨[.ref S, .ref I], []⟩) R { s with heap := h0.push it } := by
  have Sh : S < h0.objs.size := Heap.lt_size hS
  have size : vs.size = xs.length := (Array.length_toList.symm).trans hv.length
  have nS : S ∉ [I, l] := fun z => by
    rcases List.mem_cons.mp z with z | z
    · rw [hI] at z
      exact absurd z (Nat.ne_of_lt Sh)
    · exact hlS (List.mem_singleton.mp z).symm
  have empty : SetS w (h0.push it) S [] := ⟨List.nodup_nil, _, #[], 0, _, Heap.get?_push_of_some _ hS, ⟨rfl, rfl, rfl⟩, rfl, (fun e he => by simp at he), (List.Perm.refl _), by decide, rfl, List.Pairwise.nil, by
    cases h : w.params.followText "set-order"
    · exact .inr rfl
    · exact .inl rfl⟩
  refine updTd (P := P) (A := A) W S nS xs size hb (fun i v e => ?_) vs.size 0 _ [] rfl (Nat.zero_le _) st empty (fun k => Iff.rfl) fun s' ys m r p => ?_
  · have hi : i < xs.length := by
      have := (Array.getElem?_eq_some_iff.mp e).1
      omega
    obtain ⟨y, t, x, z⟩ := hv.item i v (by rw [Array.getElem?_toList]; exact e)
    exact ⟨y, t, z, x⟩
  · obtain ⟨hp, g, d, tk, os⟩ := s'
    obtain ⟨mh, mg, md, mo, _⟩ := m
    dsimp only at mg md mo mh r
    subst mg md mo
    refine h1 hp tk ys r p fun b o hb e => mh b o (fun z => ?_) (Heap.get?_push_of_some _ e)
    rcases List.mem_cons.mp z with z | z
    · exact hb z
    · have z := List.mem_singleton.mp z
      rw [hI] at z
      exact absurd z (Nat.ne_of_lt (Heap.lt_size e))
end
section
variable {X : Cx}
/-- set(l) of a list or a tuple of texts that differ -/
def rSetTd (K : PySem.W.Frag) (w : World) : List V → Hp → VK → Prop := fun vs H Q => ∃ (l : Addr) (xs : List Str), vs = [V.ref l] ∧ (SqL K H l (xs.map V.str) ∨ SqT K H l (xs.map V.str)) ∧ xs.length ≤ 1000 ∧
  ∀ (a : Addr) (ys : List Str), H a = none → ys.Nodup → (∀ k, k ∈ ys ↔ k ∈ xs) → Q (.ref a) (upd H a (SetSO w a ys))
theorem cr_setTd (hc : X.calm = true) : CallR X (.type "set") (rSetTd X.K X.w) := by
  intro pins s σ H vs us Q I r h
  obtain ⟨l, xs, rfl, hq, h1000, q⟩ := h
  rw [Vals.ref1 r]
  have hlt : ∀ b o, s.heap.get? b = some o → b ≠ s.heap.objs.size := fun b o e => Nat.ne_of_lt (Heap.lt_size e)
  have fin : ∀ (h' : Heap) (tk : Nat), (∃ ys, SetS X.w h' s.heap.objs.size ys ∧ ys.Nodup ∧ (∀ k, k ∈ ys ↔ k ∈ xs)) → (∀ b o, s.heap.get? b = some o → h'.get? b = some o) → EP X pins σ Q (.ref s.heap.objs.size) { s with heap := h', toks := tk } :=
    fun h' tk ⟨ys, S, p⟩ k => ⟨.ref _, upd H s.heap.objs.size (SetSO X.w s.heap.objs.size ys), I.laid (t' := tk) k (Nat.le_refl _) (setSO_new S), rfl, q _ _ (I.hok.fresh (Nat.le_refl _)) p.1 p.2⟩
  have push : ∀ b o, s.heap.get? b = some o → (s.heap.push (set0 X.w)).get? b = some o := fun b o e => Heap.get?_push_of_some _ e
  rcases hq with hl | hl
  · obtain ⟨its, rv, pl, hz⟩ := I.list hl
    obtain ⟨⟨oc, od, dt, os⟩, e1, e2, n, e3⟩ := id pl.isList
    dsimp only at e2 e3
    subst e2 e3
    refine set_of_walk (Φ := fun h' => ∃ ys, SetS X.w h' s.heap.objs.size ys ∧ ys.Nodup ∧ (∀ k, k ∈ ys ↔ k ∈ xs)) (I.ok.hd hc) e1 PySem.F.sub_list_set PySem.F.sub_list_frozenset (by decide) (fun A' R E' hh hR => ?_) fin
    have hl1 : (s.heap.push (set0 X.w)).IsList l its.toArray := ⟨_, push _ _ e1, rfl, n, rfl⟩
    have lt1 := Heap.lt_size (push _ _ e1)
    refine wpAny_pyIter_list hl1 ?_
    exact fillTd (s := s) (h0 := s.heap.push (set0 X.w)) (Heap.get?_push_size _ rfl) rfl (Walks.list (A := A'.in1) hh _ l (Nat.ne_of_lt lt1) its.toArray).toS lt1 (hlt _ _ e1) (by simpa using rv.strs) (by unfold scanBound; omega)
      ⟨⟨_, Heap.get?_push_size _ rfl, rfl, rfl⟩, hl1.push _⟩ fun h' tk ys S p k => hR h' tk ⟨ys, S, S.1, p⟩ fun b o e => k b o (hlt b o e) (push b o e)
  · obtain ⟨its, rv, pl, hz⟩ := I.tuple hl
    obtain ⟨⟨oc, od, dt, os⟩, e1, e2, n, e3⟩ := id pl
    dsimp only at e2 e3
    subst e2 e3
    refine set_of_walk (Φ := fun h' => ∃ ys, SetS X.w h' s.heap.objs.size ys ∧ ys.Nodup ∧ (∀ k, k ∈ ys ↔ k ∈ xs)) (I.ok.hd hc) e1 PySem.F.sub_tuple_set PySem.F.sub_tuple_frozenset (by decide) (fun A' R E' hh hR => ?_) fin
    have hl1 : (s.heap.push (set0 X.w)).IsTuple l its.toArray := ⟨_, push _ _ e1, rfl, n, rfl⟩
    have lt1 := Heap.lt_size (push _ _ e1)
    refine wpAny_pyIter_tuple hl1 ?_
    exact fillTd (s := s) (h0 := s.heap.push (set0 X.w)) (Heap.get?_push_size _ rfl) rfl (Walks.tuple (A := A'.in1) hh _ l (Nat.ne_of_lt lt1) its.toArray).toS lt1 (hlt _ _ e1) (by simpa using rv.strs) (by unfold scanBound; omega)
      ⟨⟨_, Heap.get?_push_size _ rfl, rfl, rfl⟩, hl1.push _⟩ fun h' tk ys S p k => hR h' tk ⟨ys, S, S.1, p⟩ fun b o e => k b o (hlt b o e) (push b o e)
end
end Sp1

set_option Elab.async false
set_option linter.all false
set_option maxRecDepth 100000
set_option maxHeartbeats 4000000
namespace PySem.SeqAt
open AutoSeq1 (wpAny_loadPart')
open MeetsSeq
theorem dict_eq_declines_str (l : Addr) (es : Array DictEntry) (n : Nat) (dd : Option Addr) (sl : Array (Option Value)) (b : Str) (u : Tok) :
    Meets (Builtin.«dict.__eq__» ⟨[.ref l, .str b u], []⟩) (fun _ R s => s.heap.get? l = some { cls := .type "dict", dict := dd, data := .dict es n, slots := sl } ∧ R (.ok (.ret .notImplemented)) s) :=
  .of_wp fun prog w A R s h => by obtain ⟨hp, g, d, tk, os⟩ := s; obtain ⟨hl, h⟩ := h; have f1 := F.sub_str_dict; wp_walk using wpAny_loadPart' hl; exact ⟨_, rfl, h⟩
theorem str_eq_declines_dict (b : Str) (u : Tok) (l : Addr) (es : Array DictEntry) (n : Nat) (dd : Option Addr) (sl : Array (Option Value)) :
    Meets (Builtin.«str.__eq__» ⟨[.str b u, .ref l], []⟩) (fun _ R s => s.heap.get? l = some { cls := .type "dict", dict := dd, data := .dict es n, slots := sl } ∧ R (.ok (.ret .notImplemented)) s) :=
  .of_wp fun prog w A R s h => by obtain ⟨hp, g, d, tk, os⟩ := s; obtain ⟨hl, h⟩ := h; wp_walk using wpAny_loadPart' hl, wpAny_load hl; exact ⟨_, rfl, h⟩
theorem dict_eq_declines_tuple (l b : Addr) (es : Array DictEntry) (items2 : Array Value) (n n2 : Nat) (dd dd2 : Option Addr) (sl sl2 : Array (Option Value)) :
    Meets (Builtin.«dict.__eq__» ⟨[.ref l, .ref b], []⟩) (fun _ R s => s.heap.get? l = some { cls := .type "dict", dict := dd, data := .dict es n, slots := sl } ∧ s.heap.get? b = some { cls := .type "tuple", dict := dd2, data := .seq items2 n2, slots := sl2 } ∧ R (.ok (.ret .notImplemented)) s) :=
  .of_wp fun prog w A R s h => by obtain ⟨hp, g, d, tk, os⟩ := s; obtain ⟨hl, hb, h⟩ := h; have f1 := F.sub_tuple_dict; wp_walk using wpAny_loadPart' hl, wpAny_loadPart' hb; exact ⟨_, rfl, h⟩
theorem tuple_eq_declines_dict (l b : Addr) (items : Array Value) (es : Array DictEntry) (n n2 : Nat) (dd dd2 : Option Addr) (sl sl2 : Array (Option Value)) :
    Meets (Builtin.«tuple.__eq__» ⟨[.ref l, .ref b], []⟩) (fun _ R s => s.heap.get? l = some { cls := .type "tuple", dict := dd, data := .seq items n, slots := sl } ∧ s.heap.get? b = some { cls := .type "dict", dict := dd2, data := .dict es n2, slots := sl2 } ∧ R (.ok (.ret .notImplemented)) s) :=
  .of_wp fun prog w A R s h => by obtain ⟨hp, g, d, tk, os⟩ := s; obtain ⟨hl, hb, h⟩ := h; have f1 := F.sub_dict_tuple; wp_walk using wpAny_loadPart' hl, wpAny_loadPart' hb; exact ⟨_, rfl, h⟩
section
variable {A : Around} {s : Shared}
theorem RcAt.dict_str {l : Addr} {es : Array DictEntry} {n : Nat} {dd : Option Addr} {sl : Array (Option Value)} (b : Str) (u : Tok) (ho : s.heap.get? l = some { cls := .type "dict", dict := dd, data := .dict es n, slots := sl }) (hu : A.units < cLine) : RcAt A s (.ref l) (.str b u) false := fun prog w E Q h => by
  exact rc_eq_decline_or (k := false) ⟨_, ho, rfl⟩ (typeIs_str s b u) (by decide) F.sub_str_dict F.slot_dict_eq F.slot_str_eq_refl
    (fun _ hq => call_meets F.slot_dict_eq ⟨_, ho, rfl⟩ F.entry_dict_eq (F.args_dict_eq_2 _ _) (dict_eq_declines_str l es n dd sl b u) ⟨ho, hq⟩)
    (fun _ hq => call_meets F.slot_str_eq_refl (typeIs_str s b u) F.entry_str_eq (F.args_str_eq_2 _ _) (str_eq_declines_dict b u l es n dd sl) ⟨ho, hq⟩)
    (fun _ hq => wpAny_of_eq (rfl : isSame (.ref l) (.str b u) = pure false) hq) (.inr hu) h
theorem RcAt.str_dict {l : Addr} {es : Array DictEntry} {n : Nat} {dd : Option Addr} {sl : Array (Option Value)} (b : Str) (u : Tok) (ho : s.heap.get? l = some { cls := .type "dict", dict := dd, data := .dict es n, slots := sl }) (hu : A.units < cLine) : RcAt A s (.str b u) (.ref l) false := fun prog w E Q h => by
  exact rc_eq_decline_or (k := false) (typeIs_str s b u) ⟨_, ho, rfl⟩ (by decide) F.sub_dict_str F.slot_str_eq (by first | exact F.slot_dict_eq_refl | exact F.slot_dict_eq)
    (fun _ hq => call_meets F.slot_str_eq (typeIs_str s b u) F.entry_str_eq (F.args_str_eq_2 _ _) (str_eq_declines_dict b u l es n dd sl) ⟨ho, hq⟩)
    (fun _ hq => call_meets F.slot_dict_eq ⟨_, ho, rfl⟩ F.entry_dict_eq (F.args_dict_eq_2 _ _) (dict_eq_declines_str l es n dd sl b u) ⟨ho, hq⟩)
    (fun _ hq => wpAny_of_eq (rfl : isSame (.str b u) (.ref l) = pure false) hq) (.inr hu) h
theorem EqAt.str_dict {l : Addr} {es : Array DictEntry} {n : Nat} {dd : Option Addr} {sl : Array (Option Value)} (b : Str) (u : Tok) (ho : s.heap.get? l = some { cls := .type "dict", dict := dd, data := .dict es n, slots := sl }) (hu : A.units < cLine) : EqAt A s (.str b u) (.ref l) false := fun prog w E Q h => by
  unfold eqBool
  refine wpAny_holding ?_
  refine wpAny_ite_split (fun hab => absurd (eq_of_beq hab) nofun) (fun _ => ?_)
  exact wpAny_bind (RcAt.str_dict b u ho hu prog w E _ (wpAny_truthy_bool h))
theorem EqAt.dict_str {l : Addr} {es : Array DictEntry} {n : Nat} {dd : Option Addr} {sl : Array (Option Value)} (b : Str) (u : Tok) (ho : s.heap.get? l = some { cls := .type "dict", dict := dd, data := .dict es n, slots := sl }) (hu : A.units < cLine) : EqAt A s (.ref l) (.str b u) false := fun prog w E Q h => by
  unfold eqBool
  refine wpAny_holding ?_
  refine wpAny_ite_split (fun hab => absurd (eq_of_beq hab) nofun) (fun _ => ?_)
  exact wpAny_bind (RcAt.dict_str b u ho hu prog w E _ (wpAny_truthy_bool h))
theorem RcAt.dict_tuple {l b : Addr} {es : Array DictEntry} {n : Nat} {dd : Option Addr} {sl : Array (Option Value)} {items2 : Array Value} (ho : s.heap.get? l = some { cls := .type "dict", dict := dd, data := .dict es n, slots := sl }) (hb : s.heap.IsTuple b items2) (hu : A.units < cLine) : RcAt A s (.ref l) (.ref b) false := fun prog w E Q h => by
  obtain ⟨⟨cls2, dd2, data2, sl2⟩, ho2, hc2, n2, hd2⟩ := id hb
  simp only at hc2 hd2
  subst hc2 hd2
  have hne : l ≠ b := fun e => by
    subst e
    have z := congrArg Obj.cls (Option.some.inj (ho.symm.trans ho2))
    simp at z
  exact (rc_eq_decline_or (k := false) ⟨_, ho, rfl⟩ ⟨_, ho2, rfl⟩ (by decide) F.sub_tuple_dict F.slot_dict_eq F.slot_tuple_eq_refl
    (fun _ hq => call_meets F.slot_dict_eq ⟨_, ho, rfl⟩ F.entry_dict_eq (F.args_dict_eq_2 _ _) (dict_eq_declines_tuple l b es items2 n n2 dd dd2 sl sl2) ⟨ho, ho2, hq⟩)
    (fun _ hq => call_meets F.slot_tuple_eq_refl ⟨_, ho2, rfl⟩ F.entry_tuple_eq (F.args_tuple_eq_2 _ _) (tuple_eq_declines_dict b l items2 es n2 n dd2 dd sl2 sl) ⟨ho2, ho, hq⟩)
    (fun _ hq => wpAny_isSame_ref_other hne ho ho2 (by simp) hq) (.inr hu) h)
end
end PySem.SeqAt

set_option Elab.async false
set_option linter.all false
set_option maxRecDepth 100000
set_option maxHeartbeats 4000000
namespace Sp1
open PySem PySem.Spec PyProof.Rows L2 Pg
/-! data that may hold lists and empty dicts -/
mutual
inductive Gp (K : PySem.W.Frag) (H : Hp) : V → PyData → Prop
  | non : Gp K H .non .none
  | bl (b : Bool) : Gp K H (.bl b) (.bool b)
  | int (i : Int) : Gp K H (.int i) (.int i)
  | str (x : Str) : Gp K H (.str x) (.str x)
  | lst {a : Addr} {xs : List V} {ds : List PyData} : SqL K H a xs → GpAll K H xs ds → Gp K H (.ref a) (.list ds)
  | tup {a : Addr} {xs : List V} {ds : List PyData} : SqT K H a xs → GpAll K H xs ds → Gp K H (.ref a) (.tuple ds)
  | emp {a : Addr} : H a = some (.dK []) → Gp K H (.ref a) (.dict [])
inductive GpAll (K : PySem.W.Frag) (H : Hp) : List V → List PyData → Prop
  | nil : GpAll K H [] []
  | cons {v : V} {vs : List V} {d : PyData} {ds : List PyData} : Gp K H v d → GpAll K H vs ds → GpAll K H (v :: vs) (d :: ds)
end
section
variable {K : PySem.W.Frag} {H H' : Hp}
mutual
theorem gp_of_dp : ∀ {d : PyData} {v : V}, Dp K H v d → Gp K H v d
  | .none, _, h => by cases h; exact .non
  | .bool b, _, h => by cases h; exact .bl b
  | .int i, _, h => by cases h; exact .int i
  | .str x, _, h => by cases h; exact .str x
  | .list ds, _, h => by
    cases h with
    | lst hs ha => exact .lst hs (gpAll_of_dp ha)
  | .tuple ds, _, h => by
    cases h with
    | tup hs ha => exact .tup hs (gpAll_of_dp ha)
  | .dict _, _, h => by cases h
theorem gpAll_of_dp : ∀ {ds : List PyData} {vs : List V}, DpAll K H vs ds → GpAll K H vs ds
  | [], _, h => by cases h; exact .nil
  | d :: ds, _, h => by
    cases h with
    | cons a b => exact .cons (gp_of_dp a) (gpAll_of_dp b)
end
mutual
theorem Gp.same (s : Same H H') : ∀ {d : PyData} {v : V}, Gp K H v d → Gp K H' v d
  | .none, _, h => by cases h; exact .non
  | .bool b, _, h => by cases h; exact .bl b
  | .int i, _, h => by cases h; exact .int i
  | .str x, _, h => by cases h; exact .str x
  | .list ds, _, h => by
    cases h with
    | lst hs ha => exact .lst (s.seq hs) (GpAll.same s ha)
  | .tuple ds, _, h => by
    cases h with
    | tup hs ha => exact .tup (Same.sqt s hs) (GpAll.same s ha)
  | .dict _, _, h => by
    cases h with
    | emp e => exact .emp (s _ _ e)
theorem GpAll.same (s : Same H H') : ∀ {ds : List PyData} {vs : List V}, GpAll K H vs ds → GpAll K H' vs ds
  | [], _, h => by cases h; exact .nil
  | d :: ds, _, h => by
    cases h with
    | cons a b => exact .cons (Gp.same s a) (GpAll.same s b)
end
theorem gpAll_len : ∀ {vs : List V} {ds : List PyData}, GpAll K H vs ds → vs.length = ds.length
  | _, _, .nil => rfl
  | _, _, .cons _ t => congrArg (· + 1) (gpAll_len t)
theorem gpAll_at : ∀ {vs : List V} {ds : List PyData} {i : Nat} {v : V}, GpAll K H vs ds → vs[i]? = some v → ∃ d, ds[i]? = some d ∧ Gp K H v d
  | _, _, _, _, .nil, e => by simp at e
  | _, _, 0, _, .cons h _, e => by
    simp at e
    subst e
    exact ⟨_, rfl, h⟩
  | _, _, i + 1, v, .cons _ t, e => by
    obtain ⟨d, h1, h2⟩ := gpAll_at (i := i) (v := v) t (by simpa using e)
    exact ⟨d, by simpa using h1, h2⟩
theorem gp_tup {v : V} {ds : List PyData} (h : Gp K H v (.tuple ds)) : ∃ a vs, v = .ref a ∧ SqT K H a vs ∧ GpAll K H vs ds := by
  cases h with
  | tup hs ha => exact ⟨_, _, rfl, hs, ha⟩
theorem gp_str {v : V} {x : Str} (h : Gp K H v (.str x)) : v = .str x := by cases h; rfl
theorem gp_int {v : V} {i : Int} (h : Gp K H v (.int i)) : v = .int i := by cases h; rfl
theorem gp_tup2 {v : V} {d1 d2 : PyData} (h : Gp K H v (.tuple [d1, d2])) : ∃ a x1 x2, v = .ref a ∧ SqT K H a [x1, x2] ∧ Gp K H x1 d1 ∧ Gp K H x2 d2 := by
  obtain ⟨a, ys, rfl, hS, hA⟩ := gp_tup h
  cases hA with
  | cons x y => cases y with
    | cons x2 y => cases y; exact ⟨_, _, _, rfl, hS, x, x2⟩
theorem gp_tup3 {v : V} {d1 d2 d3 : PyData} (h : Gp K H v (.tuple [d1, d2, d3])) : ∃ a x1 x2 x3, v = .ref a ∧ SqT K H a [x1, x2, x3] ∧ Gp K H x1 d1 ∧ Gp K H x2 d2 ∧ Gp K H x3 d3 := by
  obtain ⟨a, ys, rfl, hS, hA⟩ := gp_tup h
  cases hA with
  | cons x y => cases y with
    | cons x2 y => cases y with
      | cons x3 y => cases y; exact ⟨_, _, _, _, rfl, hS, x, x2, x3⟩
theorem gp_tup4 {v : V} {d1 d2 d3 d4 : PyData} (h : Gp K H v (.tuple [d1, d2, d3, d4])) : ∃ a x1 x2 x3 x4, v = .ref a ∧ SqT K H a [x1, x2, x3, x4] ∧ Gp K H x1 d1 ∧ Gp K H x2 d2 ∧ Gp K H x3 d3 ∧ Gp K H x4 d4 := by
  obtain ⟨a, ys, rfl, hS, hA⟩ := gp_tup h
  cases hA with
  | cons x y => cases y with
    | cons x2 y => cases y with
      | cons x3 y => cases y with
        | cons x4 y => cases y; exact ⟨_, _, _, _, _, rfl, hS, x, x2, x3, x4⟩
/-- what type it has -/
def tyG : PyData → String
  | .none => "NoneType" | .bool _ => "bool" | .int _ => "int" | .str _ => "str" | .list _ => "list" | .tuple _ => "tuple" | .dict _ => "dict"
theorem gp_ty {v : V} {d : PyData} (h : Gp K H v d) : TyX K H v (.type (tyG d)) := by
  cases h with
  | non => exact .base .non
  | bl b => exact .base (.bl b)
  | int i => exact .base (.int i)
  | str x => exact .base (.str x)
  | lst hs _ =>
    rcases hs with (h | ⟨o, h⟩) | ⟨o, its, n, e, c, _⟩
    · exact .base (.lst h)
    · exact .base (.frz h)
    · exact .kList e c
  | tup hs _ => exact tyx_tupS hs
  | emp e => exact .base (.dK e)
end
section
variable {X : Cx} {pins : List (Addr × Obj)} {σ : L2.St} {H : Hp} {s : Shared}
mutual
theorem Gp.reads (I : Inv X pins σ H s) : ∀ (d : PyData) (v : V) (u : Value), Gp X.K H v d → RelV v u → ∃ as, Reads s.heap u d as
  | .none, _, _, h, r => by
    cases h
    cases r
    exact ⟨_, Reads.none⟩
  | .bool b, _, _, h, r => by
    cases h
    cases r
    exact ⟨_, Reads.bool b⟩
  | .int i, _, _, h, r => by
    cases h
    obtain ⟨t, rfl⟩ := r
    exact ⟨_, Reads.int i t⟩
  | .str x, _, _, h, r => by
    cases h
    obtain ⟨t, rfl⟩ := r
    exact ⟨_, Reads.str x t⟩
  | .list ds, _, _, h, r => by
    cases h with
    | lst hs ha =>
      cases r
      obtain ⟨its, rv, ⟨o, n, ho, hc, _, hd⟩, _⟩ := I.list hs
      obtain ⟨as, hr⟩ := Gp.readsAll I ds _ its ha rv
      exact ⟨_, Reads.list ho hc hd hr⟩
  | .tuple ds, _, _, h, r => by
    cases h with
    | tup hs ha =>
      cases r
      obtain ⟨its, rv, ⟨o, ho, hc, n, hd⟩, _⟩ := I.tuple hs
      obtain ⟨as, hr⟩ := Gp.readsAll I ds _ its ha rv
      exact ⟨_, Reads.tuple ho hc hd hr⟩
  | .dict kvs, _, _, h, r => by
    cases h with
    | emp e =>
      cases r
      obtain ⟨hl, hsm, vs, kv, ⟨o, es, ep, ho, hx, hd, hk, hp, _⟩⟩ := I.hok _ _ e
      cases kv
      have e0 : es.toList = [] := by
        generalize es.toList = l at hp
        cases hp
        rfl
      exact ⟨_, Reads.dict (n := ep) ho hx.1 hd (by rw [e0]; exact .nil) (by rw [e0]; exact .nil)⟩
theorem Gp.readsAll (I : Inv X pins σ H s) : ∀ (ds : List PyData) (vs : List V) (us : List Value), GpAll X.K H vs ds → Vals vs us → ∃ as, ReadsAll s.heap us ds as
  | [], _, _, h, r => by
    cases h
    cases r
    exact ⟨_, ReadsAll.nil⟩
  | d :: ds, _, _, h, r => by
    cases h with
    | cons h1 h2 =>
      cases r with
      | cons r1 r2 =>
        obtain ⟨as, q1⟩ := Gp.reads I d _ _ h1 r1
        obtain ⟨bs, q2⟩ := Gp.readsAll I ds _ _ h2 r2
        exact ⟨_, ReadsAll.cons q1 q2⟩
end
/-- the object of an empty dict -/
theorem emp_obj {a : Addr} (I : Inv X pins σ H s) (e : H a = some (.dK [])) : ∃ dd es n sl, s.heap.get? a = some { cls := .type "dict", dict := dd, data := .dict es n, slots := sl } := by
  obtain ⟨hl, hsm, vs, kv, ⟨⟨oc, od, dt, sl⟩, es, ep, ho, hx, hd, hk, hp, _⟩⟩ := I.hok _ _ e
  have h1 := hx.1
  dsimp only at h1 hd
  subst h1 hd
  exact ⟨_, _, _, _, ho⟩
end
/-- what == compares -/
def eqOk (d e : PyData) : Prop := (SeqAt.shaped d = true ∧ SeqAt.shaped e = true) ∨ (d = .dict [] ∧ ((∃ x, e = .str x) ∨ ∃ ts, e = .tuple ts))
def rEqG (K : PySem.W.Frag) : R2 := fun x y H Q => ∃ d e, Gp K H x d ∧ Gp K H y e ∧ eqOk d e ∧ Q (.bl (PyData.eqv d e)) H
def rNeG (K : PySem.W.Frag) : R2 := fun x y H Q => ∃ d e, Gp K H x d ∧ Gp K H y e ∧ SeqAt.shaped d = true ∧ SeqAt.shaped e = true ∧ Q (.bl (!PyData.eqv d e)) H
/-- d is one of the texts -/
def nameIn (names : List Str) : PyData → Bool
  | .str x => decide (x ∈ names)
  | _ => false
def rInG (K : PySem.W.Frag) (neg : Bool) : R2 := fun x y H Q => ∃ p xs d, y = .ref p ∧ (SqL K H p (xs.map V.str) ∨ SqT K H p (xs.map V.str)) ∧ Gp K H x d ∧ (SeqAt.shaped d = true ∨ d = .dict [] ∨ (∃ ds, d = .tuple ds) ∨ ∃ ds, d = .list ds) ∧ (∀ x ∈ xs, tupD (.str x) = true) ∧ Q (.bl (if neg then !nameIn xs d else nameIn xs d)) H
theorem any_nameIn {xs : List Str} {d : PyData} : ((xs.map sD).any fun y => PyData.eqv y d) = nameIn xs d := by
  rw [List.any_map]
  cases d with
  | str x =>
    unfold nameIn
    rw [Bool.eq_iff_iff, List.any_eq_true, decide_eq_true_eq]
    constructor
    · rintro ⟨y, hy, e⟩
      have : y = x := by
        have e : (y == x) = true := by simpa [PyData.eqv] using e
        exact eq_of_beq e
      exact this ▸ hy
    · intro h
      exact ⟨x, h, by simp [PyData.eqv]⟩
  | _ =>
    unfold nameIn
    rw [List.any_eq_false]
    intro y hy
    simp [PyData.eqv]
section
variable {X : Cx}
theorem op_eqG (hu : X.A.units + 64 < cLine) : OpR X (compareOp .Eq) (rEqG X.K) := by
  intro pins s σ H x y v u Q I rx ry h
  obtain ⟨d, e, hd, he, ok, q⟩ := h
  rcases ok with ⟨sd, se⟩ | ⟨rfl, ⟨x, rfl⟩ | ⟨ts, rfl⟩⟩
  · obtain ⟨as, r1⟩ := Gp.reads I d x v hd rx
    obtain ⟨bs, r2⟩ := Gp.reads I e y u he ry
    exact SeqAt.compareEq_shaped r1 r2 sd se hu ⟨.bl _, H, I, rfl, q⟩
  · cases hd with
    | emp hd =>
      cases rx
      obtain rfl := gp_str he
      obtain ⟨t, rfl⟩ := ry
      obtain ⟨dd, es, n, sl, ho⟩ := emp_obj I hd
      refine SeqAt.RcAt.dict_str x t ho (by omega) X.prog X.w _ _ ⟨.bl _, H, I, rfl, ?_⟩
      simpa [PyData.eqv] using q
  · cases hd with
    | emp hd =>
      cases rx
      obtain ⟨b, vs, rfl, hS, hA⟩ := gp_tup he
      cases ry
      obtain ⟨dd, es, n, sl, ho⟩ := emp_obj I hd
      obtain ⟨its, rv, pl, hz⟩ := I.tuple hS
      refine SeqAt.RcAt.dict_tuple ho pl (by omega) X.prog X.w _ _ ⟨.bl _, H, I, rfl, ?_⟩
      simpa [PyData.eqv] using q
theorem op_neG (hu : X.A.units + 64 < cLine) : OpR X (compareOp .NotEq) (rNeG X.K) := by
  intro pins s σ H x y v u Q I rx ry h
  obtain ⟨d, e, hd, he, sd, se, q⟩ := h
  obtain ⟨as, r1⟩ := Gp.reads I d x v hd rx
  obtain ⟨bs, r2⟩ := Gp.reads I e y u he ry
  exact SeqAt.compareNe_shaped r1 r2 sd se hu ⟨.bl _, H, I, rfl, q⟩
theorem strs_eqAt {A : Around} {s : Shared} {a : Addr} {es : Array DictEntry} {n : Nat} {dd : Option Addr} {sl : Array (Option Value)} (ho : s.heap.get? a = some { cls := .type "dict", dict := dd, data := .dict es n, slots := sl }) (hu : A.units < cLine) :
    ∀ {xs : List Str} {us : List Value}, Vals (xs.map V.str) us → ∀ u ∈ us, SeqAt.EqAt A s u (.ref a) ((fun _ => false) u)
  | [], _, .nil, u, h => by cases h
  | x :: xs, _, .cons r t, u, h => by
    rcases List.mem_cons.mp h with rfl | h
    · obtain ⟨t, rfl⟩ := r
      exact SeqAt.EqAt.str_dict x t ho hu
    · exact strs_eqAt ho hu t u h
theorem any_no {its : Array Value} : (its.any fun _ => false) = false := by simp
theorem lay_strs {xs : List Str} (h : ∀ x ∈ xs, tupD (.str x) = true) : PyData.canLayAll0 (xs.map sD) = true := by
  induction xs with
  | nil => rfl
  | cons x r ih =>
    simp only [List.map_cons, PyData.canLayAll0, Bool.and_eq_true]
    exact ⟨tupD_lay _ (h x List.mem_cons_self), ih fun y hy => h y (List.mem_cons_of_mem _ hy)⟩
theorem depth_strs (xs : List Str) : PyData.depthAll (xs.map sD) ≤ 0 := by
  induction xs with
  | nil => simp [PyData.depthAll]
  | cons x r ih =>
    simp only [List.map_cons, PyData.depthAll, PyData.depth]
    omega
theorem strs_eqAt2 {A : Around} {s : Shared} {v : Value} (f : ∀ (x : Str) (t : Tok), SeqAt.EqAt A s (.str x t) v false) :
    ∀ {xs : List Str} {us : List Value}, Vals (xs.map V.str) us → ∀ u ∈ us, SeqAt.EqAt A s u v ((fun _ => false) u)
  | [], _, .nil, u, h => by cases h
  | x :: xs, _, .cons r t, u, h => by
    rcases List.mem_cons.mp h with rfl | h
    · obtain ⟨t, rfl⟩ := r
      exact f x t
    · exact strs_eqAt2 f t u h
theorem op_inG (hu : X.A.units + 64 < cLine) : OpR X (compareOp .In) (rInG X.K false) := by
  intro pins s σ H x y v u Q I rx ry h
  obtain ⟨p, xs, d, rfl, hq, hd, ok, hl, q⟩ := h
  cases ry
  have lay := lay_strs hl
  have dep := depth_strs xs
  rcases ok with sd | rfl | ⟨ds, rfl⟩ | ⟨ds, rfl⟩
  · obtain ⟨as, r1⟩ := Gp.reads I d x v hd rx
    have l0 : d.canLay0 = true := (Bool.and_eq_true_iff.mp sd).1
    rcases hq with hq | hq
    · obtain ⟨bs, r2⟩ := Dp.reads I (.list (xs.map sD)) (.ref p) (.ref p) (.lst hq (dpAll_strs _)) rfl
      refine SeqAt.in_list_reads r2 r1 lay l0 (by omega) ⟨.bl _, H, I, rfl, ?_⟩
      rw [any_nameIn]
      exact q
    · obtain ⟨bs, r2⟩ := Dp.reads I (.tuple (xs.map sD)) (.ref p) (.ref p) (.tup hq (dpAll_strs _)) rfl
      refine SeqAt.in_tuple_reads r2 r1 lay l0 (by omega) ⟨.bl _, H, I, rfl, ?_⟩
      rw [any_nameIn]
      exact q
  · cases hd with
    | emp hd =>
      cases rx
      obtain ⟨dd, es, n, sl, ho⟩ := emp_obj I hd
      rcases hq with hq | hq
      · obtain ⟨its, r, pl, hz⟩ := I.list hq
        exact SeqAt.in_listAt (fun _ => false) pl.isList (fun w hw => strs_eqAt ho (by show X.A.units + 1 < cLine; omega) r w (by simpa using hw)) ⟨.bl _, H, I, rfl, by rw [any_no]; exact q⟩
      · obtain ⟨its, r, pl, hz⟩ := I.tuple hq
        exact SeqAt.in_tupleAt (fun _ => false) pl (fun w hw => strs_eqAt ho (by show X.A.units + 1 < cLine; omega) r w (by simpa using hw)) ⟨.bl _, H, I, rfl, by rw [any_no]; exact q⟩
  · obtain ⟨c, vs, rfl, hS, hA⟩ := gp_tup hd
    cases rx
    obtain ⟨its2, r2, pl2, hz2⟩ := I.tuple hS
    rcases hq with hq | hq
    · obtain ⟨its, r, pl, hz⟩ := I.list hq
      exact SeqAt.in_listAt (fun _ => false) pl.isList (fun w hw => strs_eqAt2 (fun x t => SeqAt.EqAt.str_tuple x t pl2 (by show X.A.units + 1 < cLine; omega)) r w (by simpa using hw)) ⟨.bl _, H, I, rfl, by rw [any_no]; exact q⟩
    · obtain ⟨its, r, pl, hz⟩ := I.tuple hq
      exact SeqAt.in_tupleAt (fun _ => false) pl (fun w hw => strs_eqAt2 (fun x t => SeqAt.EqAt.str_tuple x t pl2 (by show X.A.units + 1 < cLine; omega)) r w (by simpa using hw)) ⟨.bl _, H, I, rfl, by rw [any_no]; exact q⟩
  · cases hd with
    | lst hS hA =>
      cases rx
      obtain ⟨its2, r2, pl2, hz2⟩ := I.list hS
      rcases hq with hq | hq
      · obtain ⟨its, r, pl, hz⟩ := I.list hq
        exact SeqAt.in_listAt (fun _ => false) pl.isList (fun w hw => strs_eqAt2 (fun x t => SeqAt.EqAt.str_list x t pl2.isList (by show X.A.units + 1 < cLine; omega)) r w (by simpa using hw)) ⟨.bl _, H, I, rfl, by rw [any_no]; exact q⟩
      · obtain ⟨its, r, pl, hz⟩ := I.tuple hq
        exact SeqAt.in_tupleAt (fun _ => false) pl (fun w hw => strs_eqAt2 (fun x t => SeqAt.EqAt.str_list x t pl2.isList (by show X.A.units + 1 < cLine; omega)) r w (by simpa using hw)) ⟨.bl _, H, I, rfl, by rw [any_no]; exact q⟩
theorem op_notInG (hu : X.A.units + 64 < cLine) : OpR X (compareOp .NotIn) (rInG X.K true) := by
  intro pins s σ H x y v u Q I rx ry h
  obtain ⟨p, xs, d, rfl, hq, hd, ok, hl, q⟩ := h
  cases ry
  have lay := lay_strs hl
  have dep := depth_strs xs
  rcases ok with sd | rfl | ⟨ds, rfl⟩ | ⟨ds, rfl⟩
  · obtain ⟨as, r1⟩ := Gp.reads I d x v hd rx
    have l0 : d.canLay0 = true := (Bool.and_eq_true_iff.mp sd).1
    rcases hq with hq | hq
    · obtain ⟨bs, r2⟩ := Dp.reads I (.list (xs.map sD)) (.ref p) (.ref p) (.lst hq (dpAll_strs _)) rfl
      refine SeqAt.notIn_list_reads r2 r1 lay l0 (by omega) ⟨.bl _, H, I, rfl, ?_⟩
      rw [any_nameIn]
      exact q
    · obtain ⟨bs, r2⟩ := Dp.reads I (.tuple (xs.map sD)) (.ref p) (.ref p) (.tup hq (dpAll_strs _)) rfl
      refine SeqAt.notIn_tuple_reads r2 r1 lay l0 (by omega) ⟨.bl _, H, I, rfl, ?_⟩
      rw [any_nameIn]
      exact q
  · cases hd with
    | emp hd =>
      cases rx
      obtain ⟨dd, es, n, sl, ho⟩ := emp_obj I hd
      rcases hq with hq | hq
      · obtain ⟨its, r, pl, hz⟩ := I.list hq
        exact SeqAt.notIn_listAt (fun _ => false) pl.isList (fun w hw => strs_eqAt ho (by show X.A.units + 1 < cLine; omega) r w (by simpa using hw)) ⟨.bl _, H, I, rfl, by rw [any_no]; exact q⟩
      · obtain ⟨its, r, pl, hz⟩ := I.tuple hq
        exact SeqAt.notIn_tupleAt (fun _ => false) pl (fun w hw => strs_eqAt ho (by show X.A.units + 1 < cLine; omega) r w (by simpa using hw)) ⟨.bl _, H, I, rfl, by rw [any_no]; exact q⟩
  · obtain ⟨c, vs, rfl, hS, hA⟩ := gp_tup hd
    cases rx
    obtain ⟨its2, r2, pl2, hz2⟩ := I.tuple hS
    rcases hq with hq | hq
    · obtain ⟨its, r, pl, hz⟩ := I.list hq
      exact SeqAt.notIn_listAt (fun _ => false) pl.isList (fun w hw => strs_eqAt2 (fun x t => SeqAt.EqAt.str_tuple x t pl2 (by show X.A.units + 1 < cLine; omega)) r w (by simpa using hw)) ⟨.bl _, H, I, rfl, by rw [any_no]; exact q⟩
    · obtain ⟨its, r, pl, hz⟩ := I.tuple hq
      exact SeqAt.notIn_tupleAt (fun _ => false) pl (fun w hw => strs_eqAt2 (fun x t => SeqAt.EqAt.str_tuple x t pl2 (by show X.A.units + 1 < cLine; omega)) r w (by simpa using hw)) ⟨.bl _, H, I, rfl, by rw [any_no]; exact q⟩
  · cases hd with
    | lst hS hA =>
      cases rx
      obtain ⟨its2, r2, pl2, hz2⟩ := I.list hS
      rcases hq with hq | hq
      · obtain ⟨its, r, pl, hz⟩ := I.list hq
        exact SeqAt.notIn_listAt (fun _ => false) pl.isList (fun w hw => strs_eqAt2 (fun x t => SeqAt.EqAt.str_list x t pl2.isList (by show X.A.units + 1 < cLine; omega)) r w (by simpa using hw)) ⟨.bl _, H, I, rfl, by rw [any_no]; exact q⟩
      · obtain ⟨its, r, pl, hz⟩ := I.tuple hq
        exact SeqAt.notIn_tupleAt (fun _ => false) pl (fun w hw => strs_eqAt2 (fun x t => SeqAt.EqAt.str_list x t pl2.isList (by show X.A.units + 1 < cLine; omega)) r w (by simpa using hw)) ⟨.bl _, H, I, rfl, by rw [any_no]; exact q⟩
end
end Sp1

set_option Elab.async false
set_option linter.all false
set_option maxRecDepth 100000
set_option maxHeartbeats 4000000
/-! sorted of a tuple of texts -/
namespace Sp1S
open PySem PySem.Spec PyProof.Rows
section
variable {prog : Program} {w : World} {A : Around} {E : Value → Shared → Prop} {s : Shared}
theorem collect_tup {l : Addr} {vs : List Value} {Q : List Value → Shared → Prop} (hl : s.heap.IsTuple l vs.toArray)
    (h : Q vs { s with heap := (s.heap.push (seqObj "list" #[] 0)).update s.heap.objs.size (Obj.mapSeq (· ++ vs.toArray)) }) (hsz : vs.length ≤ sizeLine) :
    wpAny (model prog w) A (collect (.ref l)) Q E s := by
  obtain ⟨o, ho, hc, n, hd⟩ := id hl
  unfold collect
  refine wpAny_bind (wpAny_runValue (codeAny_builtin entry_proto_collect' ?_))
  show wpAny _ _ (do again (.builtin "list.__iadd__" ⟨[← newList [], .ref l], []⟩)) _ _ s
  refine wpAny_bind (wpAny_newList (wpAny_pure ⟨Code.quiet_builtin _ (by decide +kernel), codeAny_builtin entry_list_iadd' ?_⟩))
  show wpAny _ _ (Builtin.List.listExtendWith (.ref s.heap.objs.size) (.ref l) (.ref s.heap.objs.size)) _ _ { s with heap := s.heap.push (seqObj "list" #[] 0) }
  unfold Builtin.List.listExtendWith
  have ho' : (s.heap.push (seqObj "list" #[] 0)).get? l = some o := Heap.get?_push_of_some _ ho
  refine wpAny_bind (wpAny_typeOf (T := "tuple") ⟨o, ho', hc⟩ ?_)
  have ht : (Value.type "tuple" == Value.type "tuple") = true := by rfl
  rw [if_pos (by rw [ht]; simp)]
  refine wpAny_bind (listItems_at ho' hd ?_)
  refine wpAny_bind (listItems_at (xs := #[]) (n := 0) (Heap.get?_push_size _ rfl) rfl ?_)
  rw [if_neg (by simp)]
  refine wpAny_bind (listUpdate_at (xs := #[]) (n := 0) (Heap.get?_push_size _ rfl) rfl ?_ (Nat.zero_le _) (by show (#[] ++ vs.toArray).size ≤ sizeLine + 1; simp only [Array.size_append, List.size_toArray, List.length_nil]; omega))
  refine wpAny_pure ?_
  show wpAny (model prog w) A (do
      let o ← load s.heap.objs.size
      match o.data with
      | .seq xs _ => pure xs.toList
      | _ => unsupported "internal:collect") Q E { s with heap := (s.heap.push (seqObj "list" #[] 0)).update s.heap.objs.size (Obj.mapSeq (· ++ vs.toArray)) }
  refine wpAny_bind (wpAny_load (get?_update_seq (Heap.get?_push_size _ rfl) _) ?_)
  show wpAny _ _ (pure ((#[] : Array Value) ++ vs.toArray).toList) Q E _
  rw [show ((#[] : Array Value) ++ vs.toArray).toList = vs by simp]
  exact wpAny_pure h
theorem sortedT {κ : KeyKind} (hO : κ.OneLt) {l : Addr} {vs : List Value} {Q : Value → Shared → Prop} (hl : s.heap.IsTuple l vs.toArray) (h0 : KeysOf κ (pairsOf vs)) (hkk : ∀ v₁ v₂ rest, vs = v₁ :: v₂ :: rest → keyKind' (v₁ :: v₂ :: rest).toArray = pure oneType') (h64 : vs.length < 64)
    (h : ∀ st' : SortSt, (arrOf st').Perm (pairsOf vs) → SortedToK κ (arrOf st') (pairsOf vs).size → Q (.ref (s.heap.objs.size + 1)) { s with heap := sortedAll s.heap vs ((arrOf st').map (·.2)) }) :
    wpAny (model prog w) A (call (.builtin "sorted") [.ref l]) Q E s := by
  refine Calls.call_function_entry kind_sorted plain_sorted entry_sorted (args_sorted1 _) ?_
  unfold Builtin.«sorted»
  refine wpAny_bind (m := checkCount "sorted" 1 1 _) (wpAny_pure ?_)
  refine wpAny_bind (collect_tup hl ?_ (by rw [sizeLine_eq]; omega))
  refine wpAny_bind (wpAny_newList ?_)
  have hsz : ((s.heap.push (seqObj "list" #[] 0)).update s.heap.objs.size (Obj.mapSeq (· ++ vs.toArray))).objs.size = s.heap.objs.size + 1 := by
    rw [Heap.size_update, size_push']
  have hoL : (((s.heap.push (seqObj "list" #[] 0)).update s.heap.objs.size (Obj.mapSeq (· ++ vs.toArray))).push (seqObj "list" vs.toArray 0)).get? (s.heap.objs.size + 1) = some (seqObj "list" vs.toArray 0) := by
    rw [← hsz]; exact Heap.get?_push_size _ rfl
  show wpAny _ _ _ _ _ { s with heap := ((s.heap.push (seqObj "list" #[] 0)).update s.heap.objs.size (Obj.mapSeq (· ++ vs.toArray))).push (seqObj "list" vs.toArray 0) }
  rw [hsz]
  refine wpAny_bind (wpAny_holding (wpAny_call_entry slot_list_sort ⟨_, hoL, rfl⟩ entry_list_sort (list_sort_treeK hO hoL h0 hkk h64 fun st' a1 a2 => ⟨_, rfl, ?_⟩) (args_list_sort _)))
  exact wpAny_pure ⟨_, rfl, h st' a1 a2⟩
theorem sorted_strsT {l : Addr} {vs : List Value} {ss : List Str} {Q : Value → Shared → Prop} (hl : s.heap.IsTuple l vs.toArray) (hS : StrsAre vs ss) (h64 : vs.length < 64)
    (h : ∀ (out : Array Value) (ss' : List Str), StrsAre out.toList ss' → ss'.Perm ss → sortedS ss' = true → Q (.ref (s.heap.objs.size + 1)) { s with heap := sortedAll s.heap vs out }) :
    wpAny (model prog w) A (call (.builtin "sorted") [.ref l]) Q E s := by
  refine sortedT strKind_oneLt hl hS.keysOf (fun v₁ v₂ rest e => keyKind_strs (by rw [← e]; exact hS)) h64 fun st' hp hs => ?_
  obtain ⟨ss', h1, h2, h3⟩ := sorted_out_str hS hp hs
  exact h _ ss' h1 h2 h3
end
end Sp1S
namespace Sp1
open PySem PySem.Spec PyProof.Rows L2
section
variable {X : Cx}
/-- sorted of a list or a tuple of texts -/
def rSortedST (K : PySem.W.Frag) : List V → Hp → VK → Prop := fun vs H Q => ∃ (a : Addr) (xs : List Str), vs = [V.ref a] ∧ (SqL K H a (xs.map V.str) ∨ SqT K H a (xs.map V.str)) ∧ xs.length < 64 ∧
  ∀ (ys : List Str) (p : Addr), ys.Perm xs → sortedS ys = true → H p = none → Q (.ref p) (upd H p (.lst (ys.map V.str)))
theorem cr_sortedST : CallR X (.builtin "sorted") (rSortedST X.K) := by
  intro pins s σ H vs us Q I r h
  obtain ⟨a, xs, rfl, hs | hs, h64, q⟩ := h
  · exact cr_sortedS pins s σ H _ us Q I r ⟨a, xs, rfl, hs, h64, q⟩
  obtain ⟨its, rv, hl, _⟩ := I.tuple hs
  rw [Vals.ref1 r]
  have hlen0 := rv.length
  rw [List.length_map] at hlen0
  refine Sp1S.sorted_strsT hl rv.strs (by rw [← hlen0]; exact h64) fun out ys h1 h2 h3 => ?_
  obtain ⟨ep, he'⟩ := PyProof.Rows.sortedAll_at s.heap its out
  have hlen : (ys.map V.str).length ≤ sizeLine := by rw [List.length_map, h2.length_eq]; exact small64 h64
  exact ⟨.ref _, upd H (s.heap.objs.size + 1) (.lst (ys.map V.str)), I.laid (t' := s.toks) (fun _ _ => PyProof.Rows.sortedAll_old) (Nat.le_succ _) ⟨hlen, out.toList, ep, vals_of_strs h1, he'⟩, rfl, q ys _ h2 h3 (I.hok.fresh (Nat.le_succ _))⟩
end
end Sp1

set_option Elab.async false
set_option linter.all false
set_option maxRecDepth 100000
set_option maxHeartbeats 4000000
namespace Sp1
open PySem PySem.Spec PyProof.Rows L2
section
variable {X : Cx}
/-- an int or a truth, times a small int -/
def rMulB : R2 := fun x y H Q => ∃ j : Int, y = .int j ∧ (-(2 ^ 64) < j ∧ j < 2 ^ 64) ∧ ((∃ i, x = .int i ∧ Q (.int (i * j)) H) ∨ ∃ b : Bool, x = .bl b ∧ Q (.int ((if b = true then (1 : Int) else 0) * j)) H)
theorem op_mulB : OpR X (binaryOp .Mult) rMulB := by
  intro pins s σ H x y v u Q I rx ry h
  obtain ⟨j, rfl, hj, ⟨i, rfl, q⟩ | ⟨b, rfl, q⟩⟩ := h
  · exact op_mul pins s σ H _ _ v u Q I rx ry ⟨i, j, rfl, rfl, by first | exact .inr hj | exact Or.inr hj, q⟩
  · cases rx
    obtain ⟨t, rfl⟩ := ry
    exact IntBool.mul_bool_int ⟨.int _, H, I.tok _, ⟨_, rfl⟩, q⟩
def nines : Str := ⟨(List.replicate 300 (("9" : Str)).cps).foldl (· ++ ·) #[]⟩
/-- '9' * 300 -/
theorem op_mulNines : OpR X (binaryOp .Mult) (fun x y H Q => x = .str "9" ∧ y = .int 300 ∧ Q (.str nines) H) := by
  intro pins s σ H x y v u Q I rx ry h
  obtain ⟨rfl, rfl, q⟩ := h
  obtain ⟨t, rfl⟩ := rx
  obtain ⟨t', rfl⟩ := ry
  refine PySem.P.mul_str (by decide) (fun _ _ => ?_) (fun _ _ => ?_) ?_
  · have e : ((("9" : String) : Str)).length = 1 := by decide +kernel
    rw [e]
    decide
  · have e : ((("9" : String) : Str)).length = 1 := by decide +kernel
    rw [e]
    decide +kernel
  · have e : ((300 : Int) == 1 || (("9" : String) : Str).length == 0) = false := by decide +kernel
    rw [if_neg (by decide), if_neg (by rw [e]; decide)]
    exact ⟨by rw [sizeLine_eq]; decide +kernel, .str nines, H, I.tok _, ⟨_, rfl⟩, q⟩
theorem nines_int : PySem.intText? nines = some ((10 : Int) ^ 60 * 10 ^ 60 * 10 ^ 60 * 10 ^ 60 * 10 ^ 60 - 1) := by decide +kernel
theorem nines_len : nines.length ≤ 640 := by decide +kernel
end
end Sp1

set_option Elab.async false
set_option linter.all false
set_option maxRecDepth 100000
set_option maxHeartbeats 4000000
namespace Sp1
open PySem PySem.Spec PyProof.Rows L2
theorem cut_whole {xs : List V} {lo hi : Option Int} (h : HT.sIx xs.length 0 lo = 0 ∧ HT.sIx xs.length xs.length hi = xs.length) : cutV xs lo hi = xs := by
  show (xs.drop (HT.sIx xs.length 0 lo)).take (HT.sIx xs.length xs.length hi - HT.sIx xs.length 0 lo) = xs
  rw [h.1, h.2, List.drop_zero, Nat.sub_zero, List.take_length]
theorem cut_to (xs : List V) (j : Nat) : cutV xs none (some (j : Int)) = xs.take j := by
  show (xs.drop 0).take (HT.sIx xs.length xs.length (some (j : Int)) - 0) = _
  have e : HT.sIx xs.length xs.length (some (j : Int)) = min j xs.length := by
    show (if (j : Int) < 0 then ((j : Int) + (xs.length : Int)).toNat else min (j : Int).toNat xs.length) = _
    rw [if_neg (by omega), Int.toNat_natCast]
  rw [e, List.drop_zero, Nat.sub_zero]
  by_cases h : j ≤ xs.length
  · rw [Nat.min_eq_left h]
  · rw [Nat.min_eq_right (by omega), List.take_length, List.take_of_length_le (by omega)]
theorem cut_from (xs : List V) (j : Nat) : cutV xs (some (j : Int)) none = xs.drop j := by
  show (xs.drop (HT.sIx xs.length 0 (some (j : Int)))).take (xs.length - HT.sIx xs.length 0 (some (j : Int))) = _
  have e : HT.sIx xs.length 0 (some (j : Int)) = min j xs.length := by
    show (if (j : Int) < 0 then ((j : Int) + (xs.length : Int)).toNat else min (j : Int).toNat xs.length) = _
    rw [if_neg (by omega), Int.toNat_natCast]
  rw [e]
  by_cases h : j ≤ xs.length
  · rw [Nat.min_eq_left h, List.take_of_length_le (by rw [List.length_drop]; omega)]
  · rw [Nat.min_eq_right (by omega), List.drop_length, List.drop_eq_nil_of_le (by omega), List.take_nil]
/-- a slice of a tuple, wherever it lies -/
def rSlU (K : PySem.W.Frag) : V → Option Int → Option Int → Hp → VK → Prop := fun x lo hi H Q => ∃ a xs, x = .ref a ∧ SqT K H a xs ∧ ∀ p H', Same H H' → SqT K H' p (cutV xs lo hi) → Q (.ref p) H'
section
variable {X : Cx}
theorem sl_tupU : SlR X (rSlU X.K) := by
  intro pins s σ H x v vl vu lo hi sl Q I rx hs pl pu h
  obtain ⟨a, xs, rfl, hx, q⟩ := h
  exact sl_tupA pins s σ H _ v vl vu lo hi sl Q I rx hs pl pu ⟨a, xs, rfl, hx, fun hw => q a H (Same.refl _) (by rw [cut_whole hw]; exact hx), fun _ p np => q p _ (same_new np) (SqT.of upd_same)⟩
end
section
variable {X : Cx} {CX : CXT} {k : Nat} {f C : Addr} {fd : FuncData} {ps : List Str} {sp : Sp} {E : L2.St → XK} {x : Str} {p pos : Pos} {e : Expr} {es : List Expr} {t : TA}
def tMakeS (C : Addr) (sp : Sp) (E : L2.St → XK) (t : TA) : TE := fun σ H Q => t σ H fun vs H1 => ∀ x dx, H1 x = none → H1 dx = none → dx ≠ x →
  sp (.ref x :: vs) (upd (upd H1 dx (.own x)) x (.ins C dx [])) (fun v H2 => v = .non ∧ Q (.ref x) H2) (E σ)
/-- C(..), what it raises told by the slots -/
theorem pe_makeS (M : Mk X.K C f) (F : FnOk X.prog X.w X.K X.mg X.base CX k f fd ps sp) (hr : Room (k + 1) X.A) (hg : Gl X x) (hm : X.mg x = some (.ref C)) (hb : Binds X.K fd ps []) (hx : ∀ σ, PassesAt CX X σ (E σ))
    (ha : PA X (e :: es) t) (hdb : (x == ("__debug__" : Str)) = false := by decide) (he : starEach (e :: es) X.env = (false, eval e X.env) :: starEach es X.env := by rfl) (hpl : (backTo pos (starEach es X.env)).any (·.1) = false := by rfl) :
    PE X (.Call (.Name x p) (e :: es) [] pos) (tMakeS C sp E t) := by
  refine ⟨fun pins s σ H Q I h => ?_⟩
  refine wpAny_Call_Name_kw (ld_glob I hg hm ?_ hdb)
  refine PySem.W.callWith_K (h₀ := X.base) I.ok.mod.kin M.kp (thn (ha.run pos pins s σ H _ I h) fun us s1 ⟨vs, H1, I1, r, q⟩ => ⟨I1.kIn, ?_⟩) he hpl
  have hq := q (s1.heap.objs.size + 1) s1.heap.objs.size (I1.hok.fresh (Nat.le_succ _)) (I1.hok.fresh (Nat.le_refl _)) (Nat.ne_of_lt (Nat.lt_succ_self _))
  have I2 := Inv.made (C := C) I1
  have r2 : Vals (V.ref (s1.heap.objs.size + 1) :: vs) (Value.ref (s1.heap.objs.size + 1) :: us) := .cons rfl r
  have hl : (Value.ref (s1.heap.objs.size + 1) :: us ++ []).length = ps.length := by
    rw [List.append_nil]
    have e := r2.length
    rw [F.len _ _ _ _ hq] at e
    exact e.symm
  have b := hb _ (Value.ref (s1.heap.objs.size + 1) :: us) I2.kIn hl
  rw [List.append_nil] at b
  refine wpAny_call (make_map (f := f) I1.kIn M.makes M.init (beq_iff_eq.mp M.fn) (codeAny_mono (F.run _ X.stack _ _ ⟨Value.ref (s1.heap.objs.size + 1) :: us, []⟩ (Value.ref (s1.heap.objs.size + 1) :: us) _ _ (E σ) (hr.make C us [])
    (I2.env0.make C us []) b r2 hq) fun r s' hq' => ?_))
  cases r with
  | error e => exact hx σ pins _ _ e s' I2 hq'
  | ok fl =>
    cases fl with
    | ret u =>
      obtain ⟨v, H', I3, rv, ev, q3⟩ := I2.after hq'
      subst ev
      exact ⟨rv, ⟨V.ref (s1.heap.objs.size + 1), H', I3, rfl, q3⟩⟩
    | next => exact False.elim hq'
    | brk => exact False.elim hq'
    | cont => exact False.elim hq'
end
end Sp1

set_option Elab.async false
set_option linter.all false
set_option maxRecDepth 100000
set_option maxHeartbeats 4000000
namespace Pg
open PySem
def compound : List Str := ["if", "while", "repeat"]
end Pg
namespace Sp1
open PySem PySem.Spec PyProof.Rows L2 Pg
def top (i : Nat) : Stmt := PySem.Challenge.pw_frugaltape_k52_invalid_programs.main.body.getD i (.Pass ⟨0, 0, 0, 0⟩)
abbrev s_is_integer : Stmt := top 4
abbrev N_is_integer : List Str := ["value"]
theorem sc_is_integer : FnScope N_is_integer ["value"] (defScope s_is_integer) := ⟨rfl, rfl, rfl, by decide +kernel, rfl, by decide +kernel, by decide +kernel⟩
abbrev s_is_short : Stmt := top 5
abbrev N_is_short : List Str := ["value"]
theorem sc_is_short : FnScope N_is_short ["value"] (defScope s_is_short) := ⟨rfl, rfl, rfl, by decide +kernel, rfl, by decide +kernel, by decide +kernel⟩
abbrev s_common_divisor : Stmt := top 6
abbrev N_common_divisor : List Str := ["numbers", "divisor", "number"]
theorem sc_common_divisor : FnScope N_common_divisor ["numbers"] (defScope s_common_divisor) := ⟨rfl, rfl, rfl, by decide +kernel, rfl, by decide +kernel, by decide +kernel⟩
abbrev s_is_name : Stmt := top 11
abbrev N_is_name : List Str := ["candidate", "letter"]
theorem sc_is_name : FnScope N_is_name ["candidate"] (defScope s_is_name) := ⟨rfl, rfl, rfl, by decide +kernel, rfl, by decide +kernel, by decide +kernel⟩
abbrev s_are_names : Stmt := top 12
abbrev N_are_names : List Str := ["candidate", "name"]
theorem sc_are_names : FnScope N_are_names ["candidate"] (defScope s_are_names) := ⟨rfl, rfl, rfl, by decide +kernel, rfl, by decide +kernel, by decide +kernel⟩
abbrev s_is_term : Stmt := top 13
abbrev N_is_term : List Str := ["candidate", "names", "factor", "name"]
theorem sc_is_term : FnScope N_is_term ["candidate", "names"] (defScope s_is_term) := ⟨rfl, rfl, rfl, by decide +kernel, rfl, by decide +kernel, by decide +kernel⟩
abbrev s_are_terms : Stmt := top 14
abbrev N_are_terms : List Str := ["candidate", "names", "written", "term", "_", "name"]
theorem sc_are_terms : FnScope N_are_terms ["candidate", "names"] (defScope s_are_terms) := ⟨rfl, rfl, rfl, by decide +kernel, rfl, by decide +kernel, by decide +kernel⟩
abbrev s_sum_numbers : Stmt := top 15
abbrev N_sum_numbers : List Str := ["value", "_", "constant", "terms", "divisor", "factor"]
theorem sc_sum_numbers : FnScope N_sum_numbers ["value"] (defScope s_sum_numbers) := ⟨rfl, rfl, rfl, by decide +kernel, rfl, by decide +kernel, by decide +kernel⟩
abbrev s_is_long_sum : Stmt := top 16
abbrev N_is_long_sum : List Str := ["candidate", "names", "_", "constant", "terms", "divisor"]
theorem sc_is_long_sum : FnScope N_is_long_sum ["candidate", "names"] (defScope s_is_long_sum) := ⟨rfl, rfl, rfl, by decide +kernel, rfl, by decide +kernel, by decide +kernel⟩
abbrev s_is_sum : Stmt := top 17
abbrev N_is_sum : List Str := ["candidate", "names", "number"]
theorem sc_is_sum : FnScope N_is_sum ["candidate", "names"] (defScope s_is_sum) := ⟨rfl, rfl, rfl, by decide +kernel, rfl, by decide +kernel, by decide +kernel⟩
abbrev s_is_expression : Stmt := top 18
abbrev N_is_expression : List Str := ["candidate", "names"]
theorem sc_is_expression : FnScope N_is_expression ["candidate", "names"] (defScope s_is_expression) := ⟨rfl, rfl, rfl, by decide +kernel, rfl, by decide +kernel, by decide +kernel⟩
abbrev s_is_block : Stmt := top 23
abbrev N_is_block : List Str := ["candidate", "names", "procedures", "depth", "statement"]
theorem sc_is_block : FnScope N_is_block ["candidate", "names", "procedures", "depth"] (defScope s_is_block) := ⟨rfl, rfl, rfl, by decide +kernel, rfl, by decide +kernel, by decide +kernel⟩
abbrev s_is_statement : Stmt := top 24
abbrev N_is_statement : List Str := ["candidate", "names", "procedures", "depth", "word"]
theorem sc_is_statement : FnScope N_is_statement ["candidate", "names", "procedures", "depth"] (defScope s_is_statement) := ⟨rfl, rfl, rfl, by decide +kernel, rfl, by decide +kernel, by decide +kernel⟩
abbrev s_is_writing : Stmt := top 25
abbrev N_is_writing : List Str := ["candidate", "names", "word", "name", "other"]
theorem sc_is_writing : FnScope N_is_writing ["candidate", "names"] (defScope s_is_writing) := ⟨rfl, rfl, rfl, by decide +kernel, rfl, by decide +kernel, by decide +kernel⟩
abbrev s_is_compound : Stmt := top 26
abbrev N_is_compound : List Str := ["candidate", "names", "procedures", "depth", "word", "parts", "part"]
theorem sc_is_compound : FnScope N_is_compound ["candidate", "names", "procedures", "depth"] (defScope s_is_compound) := ⟨rfl, rfl, rfl, by decide +kernel, rfl, by decide +kernel, by decide +kernel⟩
abbrev s_are_procedures : Stmt := top 27
abbrev N_are_procedures : List Str := ["candidate", "names", "called", "procedure", "name", "_", "block"]
theorem sc_are_procedures : FnScope N_are_procedures ["candidate", "names"] (defScope s_are_procedures) := ⟨rfl, rfl, rfl, by decide +kernel, rfl, by decide +kernel, by decide +kernel⟩
abbrev s_block_code : Stmt := top 29
abbrev N_block_code : List Str := ["block", "start", "code", "statement"]
theorem sc_block_code : FnScope N_block_code ["block", "start"] (defScope s_block_code) := ⟨rfl, rfl, rfl, by decide +kernel, rfl, by decide +kernel, by decide +kernel⟩
abbrev s_statement_code : Stmt := top 30
abbrev N_statement_code : List Str := ["statement", "start", "word"]
theorem sc_statement_code : FnScope N_statement_code ["statement", "start"] (defScope s_statement_code) := ⟨rfl, rfl, rfl, by decide +kernel, rfl, by decide +kernel, by decide +kernel⟩
abbrev s_if_code : Stmt := top 31
abbrev N_if_code : List Str := ["statement", "start", "_", "expression", "first", "second", "first_code", "second_start", "second_code", "behind", "test"]
theorem sc_if_code : FnScope N_if_code ["statement", "start"] (defScope s_if_code) := ⟨rfl, rfl, rfl, by decide +kernel, rfl, by decide +kernel, by decide +kernel⟩
abbrev s_while_code : Stmt := top 32
abbrev N_while_code : List Str := ["statement", "start", "_", "expression", "block", "head", "code", "behind"]
theorem sc_while_code : FnScope N_while_code ["statement", "start"] (defScope s_while_code) := ⟨rfl, rfl, rfl, by decide +kernel, rfl, by decide +kernel, by decide +kernel⟩
abbrev s_repeat_code : Stmt := top 33
abbrev N_repeat_code : List Str := ["statement", "start", "_", "expression", "block", "turn", "code", "behind"]
theorem sc_repeat_code : FnScope N_repeat_code ["statement", "start"] (defScope s_repeat_code) := ⟨rfl, rfl, rfl, by decide +kernel, rfl, by decide +kernel, by decide +kernel⟩
abbrev s_program_code : Stmt := top 34
abbrev N_program_code : List Str := ["procedures", "main", "code", "entries", "name", "block"]
theorem sc_program_code : FnScope N_program_code ["procedures", "main"] (defScope s_program_code) := ⟨rfl, rfl, rfl, by decide +kernel, rfl, by decide +kernel, by decide +kernel⟩
abbrev s_check_names : Stmt := top 42
abbrev N_check_names : List Str := ["given", "variables"]
theorem sc_check_names : FnScope N_check_names ["given", "variables"] (defScope s_check_names) := ⟨rfl, rfl, rfl, by decide +kernel, rfl, by decide +kernel, by decide +kernel⟩
abbrev s_check_blocks : Stmt := top 43
abbrev N_check_blocks : List Str := ["names", "procedures", "main", "name", "_"]
theorem sc_check_blocks : FnScope N_check_blocks ["names", "procedures", "main"] (defScope s_check_blocks) := ⟨rfl, rfl, rfl, by decide +kernel, rfl, by decide +kernel, by decide +kernel⟩
abbrev s_check_size : Stmt := top 44
abbrev N_check_size : List Str := ["code", "calls", "instruction"]
theorem sc_check_size : FnScope N_check_size ["code"] (defScope s_check_size) := ⟨rfl, rfl, rfl, by decide +kernel, rfl, by decide +kernel, by decide +kernel⟩
/-- what stands behind the top: the package's part that makes programs -/
structure PgF (K : PySem.W.Frag) (mg : Str → Option Value) where
  m_isinstance : mg "isinstance" = none
  m_int : mg "int" = none
  m_bool : mg "bool" = none
  m_str : mg "str" = none
  m_tuple : mg "tuple" = none
  m_len : mg "len" = none
  m_all : mg "all" = none
  m_set : mg "set" = none
  m_sorted : mg "sorted" = none
  m_gcd : mg "gcd" = some (.builtin "math.gcd")
  t_SHORT_BOUND : Tok
  c_SHORT_BOUND : mg "SHORT_BOUND" = some (.int Pg.great t_SHORT_BOUND)
  t_MAX_LETTERS : Tok
  c_MAX_LETTERS : mg "MAX_LETTERS" = some (.int 8 t_MAX_LETTERS)
  t_MAX_DEPTH : Tok
  c_MAX_DEPTH : mg "MAX_DEPTH" = some (.int 8 t_MAX_DEPTH)
  t_MAX_PROCEDURES : Tok
  c_MAX_PROCEDURES : mg "MAX_PROCEDURES" = some (.int 6 t_MAX_PROCEDURES)
  t_MAX_NAMES : Tok
  c_MAX_NAMES : mg "MAX_NAMES" = some (.int 4 t_MAX_NAMES)
  t_MAX_CODE : Tok
  c_MAX_CODE : mg "MAX_CODE" = some (.int 120 t_MAX_CODE)
  t_MAX_CALLS : Tok
  c_MAX_CALLS : mg "MAX_CALLS" = some (.int 8 t_MAX_CALLS)
  a_WORDS : Addr
  g_WORDS : mg "WORDS" = some (.ref a_WORDS)
  w_WORDS : ∀ H, SqT K H a_WORDS (Pg.words.map V.str)
  a_PAIRS : Addr
  g_PAIRS : mg "PAIRS" = some (.ref a_PAIRS)
  w_PAIRS : ∀ H, SqT K H a_PAIRS (Pg.pairWords.map V.str)
  a_COMPOUND : Addr
  g_COMPOUND : mg "COMPOUND" = some (.ref a_COMPOUND)
  w_COMPOUND : ∀ H, SqT K H a_COMPOUND (Pg.compound.map V.str)
  f_is_integer : Addr
  fd_is_integer : FuncData
  D_is_integer : Dn K mg "is_integer" s_is_integer ["value"] f_is_integer fd_is_integer
  f_is_short : Addr
  fd_is_short : FuncData
  D_is_short : Dn K mg "is_short" s_is_short ["value"] f_is_short fd_is_short
  f_common_divisor : Addr
  fd_common_divisor : FuncData
  D_common_divisor : Dn K mg "common_divisor" s_common_divisor ["numbers"] f_common_divisor fd_common_divisor
  f_is_name : Addr
  fd_is_name : FuncData
  D_is_name : Dn K mg "is_name" s_is_name ["candidate"] f_is_name fd_is_name
  f_are_names : Addr
  fd_are_names : FuncData
  D_are_names : Dn K mg "are_names" s_are_names ["candidate"] f_are_names fd_are_names
  f_is_term : Addr
  fd_is_term : FuncData
  D_is_term : Dn K mg "is_term" s_is_term ["candidate", "names"] f_is_term fd_is_term
  f_are_terms : Addr
  fd_are_terms : FuncData
  D_are_terms : Dn K mg "are_terms" s_are_terms ["candidate", "names"] f_are_terms fd_are_terms
  f_sum_numbers : Addr
  fd_sum_numbers : FuncData
  D_sum_numbers : Dn K mg "sum_numbers" s_sum_numbers ["value"] f_sum_numbers fd_sum_numbers
  f_is_long_sum : Addr
  fd_is_long_sum : FuncData
  D_is_long_sum : Dn K mg "is_long_sum" s_is_long_sum ["candidate", "names"] f_is_long_sum fd_is_long_sum
  f_is_sum : Addr
  fd_is_sum : FuncData
  D_is_sum : Dn K mg "is_sum" s_is_sum ["candidate", "names"] f_is_sum fd_is_sum
  f_is_expression : Addr
  fd_is_expression : FuncData
  D_is_expression : Dn K mg "is_expression" s_is_expression ["candidate", "names"] f_is_expression fd_is_expression
  f_is_statement : Addr
  fd_is_statement : FuncData
  D_is_statement : Dn K mg "is_statement" s_is_statement ["candidate", "names", "procedures", "depth"] f_is_statement fd_is_statement
  f_is_writing : Addr
  fd_is_writing : FuncData
  D_is_writing : Dn K mg "is_writing" s_is_writing ["candidate", "names"] f_is_writing fd_is_writing
  f_is_compound : Addr
  fd_is_compound : FuncData
  D_is_compound : Dn K mg "is_compound" s_is_compound ["candidate", "names", "procedures", "depth"] f_is_compound fd_is_compound
  f_are_procedures : Addr
  fd_are_procedures : FuncData
  D_are_procedures : Dn K mg "are_procedures" s_are_procedures ["candidate", "names"] f_are_procedures fd_are_procedures
  f_block_code : Addr
  fd_block_code : FuncData
  D_block_code : Dn K mg "block_code" s_block_code ["block", "start"] f_block_code fd_block_code
  f_statement_code : Addr
  fd_statement_code : FuncData
  D_statement_code : Dn K mg "statement_code" s_statement_code ["statement", "start"] f_statement_code fd_statement_code
  f_if_code : Addr
  fd_if_code : FuncData
  D_if_code : Dn K mg "if_code" s_if_code ["statement", "start"] f_if_code fd_if_code
  f_while_code : Addr
  fd_while_code : FuncData
  D_while_code : Dn K mg "while_code" s_while_code ["statement", "start"] f_while_code fd_while_code
  f_repeat_code : Addr
  fd_repeat_code : FuncData
  D_repeat_code : Dn K mg "repeat_code" s_repeat_code ["statement", "start"] f_repeat_code fd_repeat_code
  f_program_code : Addr
  fd_program_code : FuncData
  D_program_code : Dn K mg "program_code" s_program_code ["procedures", "main"] f_program_code fd_program_code
  f_check_names : Addr
  fd_check_names : FuncData
  D_check_names : Dn K mg "check_names" s_check_names ["given", "variables"] f_check_names fd_check_names
  f_check_blocks : Addr
  fd_check_blocks : FuncData
  D_check_blocks : Dn K mg "check_blocks" s_check_blocks ["names", "procedures", "main"] f_check_blocks fd_check_blocks
  f_check_size : Addr
  fd_check_size : FuncData
  D_check_size : Dn K mg "check_size" s_check_size ["code"] f_check_size fd_check_size
  f_is_block : Addr
  fd_is_block : FuncData
  F_is_block : FunD K "is_block" "is_block" (defArgs s_is_block) (defBody s_is_block) (defScope s_is_block) [.int 1] [] f_is_block fd_is_block
  g_is_block : mg "is_block" = some (.ref f_is_block)
  b4_is_block : Binds K fd_is_block ["candidate", "names", "procedures", "depth"] []
  ds_is_block : List Value
  v3_is_block : Vals [.int 1] ds_is_block
  b3_is_block : Binds K fd_is_block ["candidate", "names", "procedures", "depth"] ds_is_block
end Sp1

set_option Elab.async false
set_option linter.all false
set_option maxRecDepth 100000
set_option maxHeartbeats 4000000
namespace Pg
open PySem
def gcdL (u : List Int) : Nat := u.foldl (fun (a : Nat) x => Nat.gcd a x.natAbs) 0
theorem gcdL_take {u : List Int} {i : Nat} (h : i < u.length) : gcdL (u.take (i + 1)) = Nat.gcd (gcdL (u.take i)) u[i].natAbs := by
  unfold gcdL
  rw [List.take_add_one, List.getElem?_eq_getElem h, List.foldl_append]
  rfl
def Names (names : List Str) : Prop := ∀ x ∈ names, Nm x
def Sm.nums (s : Sm) : List Int := s.c :: s.d :: s.ts.map (·.1)
theorem Sm.Ok.gcdL {names : List Str} {s : Sm} (h : s.Ok names) : gcdL s.nums = 1 := h.gcd
theorem tD_tup {t : Int × Str} (h : tupD (.str t.2) = true) : tupD (tD t) = true := by
  show tupAll [.int t.1, .str t.2] = true
  simp [tupAll, tupD] at h ⊢
  exact h
theorem tD_depth (t : Int × Str) : (tD t).depth = 1 := by simp [tD, PyData.depth, PyData.depthAll]
theorem lit_tup {x : Str} (h : (x.cps.all (· < 0x110000)) = true) : tupD (.str x) = true := by
  simp only [tupD, PyData.canLay0, PyData.strOk]
  exact h
theorem Sm.tup {names : List Str} {s : Sm} (n : Names names) (h : s.Ok names) : tupD s.D = true := by
  have h1 : tupAll (s.ts.map tD) = true := tupAll_iff.mpr fun d hd => by
    obtain ⟨t, ht, rfl⟩ := List.mem_map.mp hd
    exact tD_tup (n _ (h.nz t ht).2).tup
  have h0 : tupD (.str "sum") = true := by decide +kernel
  simp only [Sm.D, tupD, tupAll] at h0 h1 ⊢
  rw [h0, h1]
  rfl
theorem Sm.depth (s : Sm) : s.D.depth ≤ 3 := by
  have h1 : PyData.depthAll (s.ts.map tD) ≤ 1 := depthAll_le fun d hd => by
    obtain ⟨t, ht, rfl⟩ := List.mem_map.mp hd
    rw [tD_depth]
    exact Nat.le_refl _
  simp only [Sm.D, PyData.depth, PyData.depthAll]
  omega
theorem pairWords_tup {w : Str} (h : w ∈ pairWords) : tupD (.str w) = true := by
  simp only [pairWords, List.mem_cons, List.not_mem_nil, or_false] at h
  rcases h with rfl | rfl | rfl | rfl | rfl <;> decide +kernel
theorem Ex.tup {names : List Str} {e : Ex} (n : Names names) (h : e.Ok names) : tupD e.D = true := by
  cases e with
  | sum s => exact Sm.tup n h
  | read => decide +kernel
  | two w a b =>
    obtain ⟨h1, h2, h3⟩ := h
    simp only [Ex.D]
    rw [tupD, tupAll, tupAll, tupAll, tupAll, pairWords_tup h1, Sm.tup n h2, Sm.tup n h3]
    rfl
theorem Ex.depth (e : Ex) : e.D.depth ≤ 4 := by
  cases e with
  | sum s => exact Nat.le_trans s.depth (by decide)
  | read => simp [Ex.D, PyData.depth, PyData.depthAll]
  | two w a b =>
    have h1 := a.depth
    have h2 := b.depth
    simp only [Ex.D, PyData.depth, PyData.depthAll]
    omega
theorem sLt_irrefl (x : Str) : ¬ sLt x x := fun h => (List.lt_irrefl _ : ¬ x.cps.toList < x.cps.toList) h
theorem sLt_trans {x y z : Str} (h : sLt x y) (h' : sLt y z) : sLt x z := List.lt_trans h h'
theorem asc_nodup {xs : List Str} (h : xs.Pairwise sLt) : xs.Nodup := h.imp fun {a b} l e => by
  subst e
  exact sLt_irrefl _ l
end Pg
namespace Sp1
open PySem PySem.Spec PyProof.Rows L2 Pg
section
variable {P : Program} {w : World} {K : PySem.W.Frag} {mg : Str → Option Value} {base : Heap}
def sp_is_integer : Sp := fun vs H Q _ => ∃ i, vs = [.int i] ∧ Q (.bl true) H
theorem ok_is_integer (T : PgF K mg) : FnOk P w K mg base CX0 1 T.f_is_integer T.fd_is_integer ["value"] sp_is_integer := by
  refine T.D_is_integer.F.ok sc_is_integer (fun vs H Q E h => ?_) (fun cdv A outer s H vs Q E hr h => ?_)
  · obtain ⟨i, rfl, _⟩ := h
    rfl
  · obtain ⟨i, rfl, q⟩ := h
    refine ⟨_, (pss_one (ps_ret (pe_and (pe_callB call_isi (by rfl) T.m_isinstance (by decide +kernel) (pa_cons (pv 0) (pa_cons (pe_ty (n := "int") (by rfl) T.m_int (by decide +kernel)) pa_nil))) (pe_one (pe_not (pe_callB call_isi (by rfl) T.m_isinstance (by decide +kernel) (pa_cons (pv 0) (pa_cons (pe_ty (n := "bool") (by rfl) T.m_bool (by decide +kernel)) pa_nil)))))))), ?_⟩
    refine ⟨_, rfl, .int i, .ty "int", _, _, true, rfl, .ty _, .base (.int i), kit_ty (by decide +kernel), true, rfl, iteT ?_⟩
    exact ⟨_, rfl, .int i, .ty "bool", _, _, false, rfl, .ty _, .base (.int i), kit_ty (by decide +kernel), false, rfl, q⟩
def sp_is_short : Sp := fun vs H Q _ => ∃ i : Int, vs = [.int i] ∧ -great < i ∧ i < great ∧ Q (.bl true) H
theorem ok_is_short (T : PgF K mg) : FnOk P w K mg base CX0 2 T.f_is_short T.fd_is_short ["value"] sp_is_short := by
  refine T.D_is_short.F.ok sc_is_short (fun vs H Q E h => ?_) (fun cdv A outer s H vs Q E hr h => ?_)
  · obtain ⟨i, rfl, _⟩ := h
    rfl
  · obtain ⟨i, rfl, h1, h2, q⟩ := h
    refine ⟨_, (pss_one (ps_ret (pe_and (pe_call ((ok_is_integer T).mono (by decide)) hr (by rfl) T.D_is_integer.g T.D_is_integer.kp T.D_is_integer.b .nil pass0 (pa_cons (pv 0) pa_nil)) (pe_one (pe_chain op_lt op_lt (pe_un un_neg (pe_glob (v := .int Pg.great) rfl T.c_SHORT_BOUND ⟨_, rfl⟩)) (pv 0) (pe_glob (v := .int Pg.great) rfl T.c_SHORT_BOUND ⟨_, rfl⟩) ))))), ?_⟩
    refine ⟨_, rfl, i, rfl, true, rfl, iteT ?_⟩
    refine ⟨_, rfl, _, rfl, _, _, rfl, rfl, _, rfl, ?_⟩
    rw [decide_eq_true h1]
    refine iteT ⟨_, _, rfl, rfl, ?_⟩
    show Q (.bl (decide (i < great))) H
    rw [decide_eq_true h2]
    exact q
def sp_common_divisor : Sp := fun vs H Q _ => ∃ (g : Addr) (u : List Int), vs = [.ref g] ∧ H g = some (.lst (u.map V.int)) ∧ gcdL u = 1 ∧ Q (.int 1) H
theorem ok_common_divisor (T : PgF K mg) : FnOk P w K mg base CX0 1 T.f_common_divisor T.fd_common_divisor ["numbers"] sp_common_divisor := by
  refine T.D_common_divisor.F.ok sc_common_divisor (fun vs H Q E h => ?_) (fun cdv A outer s H vs Q E hr h => ?_)
  · obtain ⟨g, u, rfl, _⟩ := h
    rfl
  · obtain ⟨g, u, rfl, hg, h1, q⟩ := h
    have nd := sc_common_divisor.nd
    refine ⟨_, (pss_cons (ps_set (i := 1) nd rfl (.inl rfl) pe_int)
      (pss_cons (ps_for PassesOwn.never rfl (pi_list (pv 0)) (pg_name (i := 2) nd rfl (.inl rfl))
      (pss_cons (ps_set (i := 1) nd rfl (.inl rfl) (pe_callBfun cr_gcd (by rfl) T.m_gcd (pa_cons (pv 1) (pa_cons (pv 2) pa_nil))))
        (pss_one (ps_if (pt_cmpR op_eq (pv 1) pe_int (nomark _))
        (pss_one (ps_ret pe_int))
        pss_nil))))
      (pss_one (ps_ret (pv 1))))), ?_⟩
    refine ⟨_, rfl, g, rfl, ⟨_, SqL.of hg⟩, for_list (K := K) (a := g) (xs := u.map V.int) (fun i σ H' => H' = H ∧ ∃ y, σ = [some (.ref g), some (.int (gcdL (u.take i) : Nat)), y])
      ⟨rfl, none, rfl⟩ (fun i σ H' _ h => by rw [h.1]; exact SqL.of hg) ?_ ?_⟩
    · rintro i x σ H' hx ⟨rfl, y, rfl⟩
      obtain ⟨hi, rfl⟩ := int_of hx
      refine ⟨_, rfl, _, rfl, _, _, rfl, ?_⟩
      refine ⟨_, rfl, rfl, _, rfl, ite2 (fun e => q) fun _ => ⟨rfl, some (.int u[i]), ?_⟩⟩
      rw [gcdL_take hi]
      rfl
    · rintro σ H' ⟨rfl, y, rfl⟩
      refine ⟨_, rfl, ?_⟩
      rw [List.length_map, List.take_length, h1]
      exact q
def sp_is_name : Sp := fun vs H Q _ => ∃ x : Str, vs = [.str x] ∧ Nm x ∧ ∀ H', Same H H' → Q (.bl true) H'
theorem ok_is_name (T : PgF K mg) : FnOk P w K mg base CX0 1 T.f_is_name T.fd_is_name ["candidate"] sp_is_name := by
  refine T.D_is_name.F.ok sc_is_name (fun vs H Q E h => ?_) (fun cdv A outer s H vs Q E hr h => ?_)
  · obtain ⟨x, rfl, _⟩ := h
    rfl
  · obtain ⟨x, rfl, n, q⟩ := h
    have nd := sc_is_name.nd
    refine ⟨_, (pss_cons (ps_if (PW.pt (pw_or (pt_not (pt_val (pe_callB call_isi (by rfl) T.m_isinstance (by decide +kernel) (pa_cons (pv 0) (pa_cons (pe_ty (n := "str") (by rfl) T.m_str (by decide +kernel)) pa_nil))))) (pw_or1 (pt_not (pt_chain op_le op_le pe_int (pe_callB call_len_str (by rfl) T.m_len PySem.boot_len (pa_cons (pv 0) pa_nil)) (pe_glob (v := .int 8) rfl T.c_MAX_LETTERS ⟨_, rfl⟩) )))))
      (pss_one (ps_ret pe_bl))
      pss_nil)
      (pss_one (ps_ret (pe_and (pe_callB (cr_all rfl) (by rfl) T.m_all (by decide +kernel) (pa_cons (pe_lc (own := [("letter", 1)]) (g := (gName 1)) (tt := tYes) rfl nd (pi_str (pv 0)) (blkOk_by (N := N_is_name) (sc := defScope s_is_name) (by decide +kernel)) (fun _ _ _ _ _ => (pg_name (i := 1) nd rfl (.inl rfl))) (fun _ _ _ _ _ => pts_nil) (fun _ _ _ _ _ => (pe_chain op_le_str op_le_str pe_str (pv 1) pe_str ))) pa_nil)) (pe_one (pe_cmpR op_notIn_seq (pv 0) (pe_glob (v := .ref T.a_WORDS) rfl T.g_WORDS rfl) (by with_unfolding_all rfl))))))), ?_⟩
    have l1 := n.l1
    have l8 := n.l8
    refine ⟨_, rfl, .str x, .ty "str", _, _, true, rfl, .ty _, .base (.str x), kit_ty (by decide +kernel), true, rfl, iteF ?_⟩
    refine ⟨_, rfl, x, rfl, by rw [sizeLine_eq]; omega, _, _, rfl, rfl, _, rfl, ?_⟩
    rw [decide_eq_true (by omega)]
    refine iteT ⟨_, _, rfl, rfl, _, rfl, ?_⟩
    rw [decide_eq_true (by omega)]
    refine iteF ?_
    refine ⟨_, rfl, x, rfl, fun D nD => ?_⟩
    refine lc_it (walk_str (z := x)) (Acc H D fun _ => V.bl true) (Acc.start nD) (fun _ _ _ _ => trivial) ?_ ?_
    · rintro i v H1 H2 hi h ⟨rfl, c, hc, rfl⟩
      have hm := n.ch c (by
        have := Array.getElem?_eq_some_iff.mp hc
        obtain ⟨hlt, e⟩ := this
        rw [← e]
        simp)
      refine ⟨rfl, ?_⟩
      dsimp only [tYes]
      refine iteT ?_
      have hx : x.cps.size = x.length := rfl
      refine ⟨_, rfl, _, _, rfl, rfl, _, rfl, ?_⟩
      rw [show (!decide ((⟨#[c]⟩ : Str).cps.toList < ((("a" : String) : Str)).cps.toList)) = true from by
        have e : ((("a" : String) : Str)).cps.toList = [97] := by decide +kernel
        rw [e, Bool.not_eq_true', decide_eq_false_iff_not]
        show ¬ [c] < [97]
        intro z
        cases z with
        | rel z => omega
        | cons z => cases z]
      refine iteT ⟨_, _, rfl, rfl, ?_⟩
      refine h.turn nD (Same.refl _) (by omega) ?_
      have e : ((("z" : String) : Str)).cps.toList = [122] := by decide +kernel
      rw [e]
      refine congrArg V.bl ?_
      rw [Bool.not_eq_true', decide_eq_false_iff_not]
      show ¬ [122] < [c]
      intro z
      cases z with
      | rel z => omega
      | cons z => cases z
    · rintro H1 h
      refine ⟨D, _, rfl, SqL.of (acc_true h), ?_⟩
      rw [all_true]
      refine ⟨true, rfl, iteT ?_⟩
      refine ⟨_, rfl, T.a_WORDS, _, rfl, .inr (T.w_WORDS _), rfl, flat_strs _, ?_⟩
      rw [inV_strs, decide_eq_false n.nw]
      exact q _ h.1
def sp_are_names (K : PySem.W.Frag) : Sp := fun vs H Q _ => ∃ v xs, vs = [v] ∧ Ts K H v xs ∧ Names xs ∧ xs.Nodup ∧ xs.length ≤ 100 ∧ ∀ H', Same H H' → Q (.bl true) H'
theorem ok_are_names (T : PgF K mg) : FnOk P w K mg base CX0 2 T.f_are_names T.fd_are_names ["candidate"] (sp_are_names K) := by
  refine T.D_are_names.F.ok sc_are_names (fun vs H Q E h => ?_) (fun cdv A outer s H vs Q E hr h => ?_)
  · obtain ⟨v, xs, rfl, _⟩ := h
    rfl
  · obtain ⟨v, xs, rfl, ⟨a, rfl, hS⟩, n, hnd, h100, q⟩ := h
    have nd := sc_are_names.nd
    refine ⟨_, (pss_cons (ps_if (PW.pt (pw_or (pt_not (pt_val (pe_callB call_isi (by rfl) T.m_isinstance (by decide +kernel) (pa_cons (pv 0) (pa_cons (pe_ty (n := "tuple") (by rfl) T.m_tuple (by decide +kernel)) pa_nil))))) (pw_or1 (pt_not (pt_val (pe_callB (cr_all rfl) (by rfl) T.m_all (by decide +kernel) (pa_cons (pe_lc (own := [("name", 1)]) (g := (gName 1)) (tt := tYes) rfl nd (pi_tup (pv 0)) (blkOk_by (N := N_are_names) (sc := defScope s_are_names) (by decide +kernel)) (fun _ _ _ _ _ => (pg_name (i := 1) nd rfl (.inl rfl))) (fun _ _ _ _ _ => pts_nil) (fun _ _ _ _ _ => (pe_call ((ok_is_name T).mono (by decide)) hr (by rfl) T.D_is_name.g T.D_is_name.kp T.D_is_name.b .nil pass0 (pa_cons (pv 1) pa_nil)))) pa_nil)))))))
      (pss_one (ps_ret pe_bl))
      pss_nil)
      (pss_one (ps_ret (pe_cmpR op_eq (pe_callB cr_lenT (by rfl) T.m_len PySem.boot_len (pa_cons (pe_callTy (cr_setT rfl) (by rfl) T.m_set (by decide +kernel) (pa_cons (pv 0) pa_nil)) pa_nil)) (pe_callB call_len_seq (by rfl) T.m_len PySem.boot_len (pa_cons (pv 0) pa_nil)) (nomark _))))), ?_⟩
    refine ⟨_, rfl, .ref a, .ty "tuple", _, _, true, rfl, .ty _, tyx_tupS hS, kit_ty (by decide +kernel), true, rfl, iteF ?_⟩
    refine ⟨_, rfl, a, rfl, ⟨_, hS⟩, fun D nD => ?_⟩
    refine lc_it (walk_tup (K := K) (a := a) (xs := xs.map V.str)) (Acc H D fun _ => V.bl true) (Acc.start nD) (fun i H' _ h => Same.sqt h.1 hS) ?_ ?_
    · rintro i v H1 H2 hi h ⟨rfl, hv⟩
      rw [List.getElem?_map] at hv
      obtain ⟨x, hx, rfl⟩ := Option.map_eq_some_iff.mp hv
      refine ⟨rfl, ?_⟩
      dsimp only [tYes]
      refine iteT ?_
      refine ⟨_, rfl, x, rfl, n x (List.mem_of_getElem? hx), fun H3 s3 => ?_⟩
      rw [List.length_map] at hi
      exact h.turn nD s3 (by omega) rfl
    · rintro H1 h
      refine ⟨D, _, rfl, SqL.of (acc_true h), true, by rw [all_true], iteF ?_⟩
      refine ⟨_, rfl, a, xs, rfl, .inr (Same.sqt h.1 hS), hnd, by omega, fun S ys nS hp => ?_⟩
      refine ⟨S, ys, rfl, upd_same, ?_⟩
      refine ⟨_, rfl, a, _, rfl, .inr (Same.sqt (h.1.trans (same_new nS)) hS), rfl, ?_⟩
      rw [List.length_map, hp.length_eq, decide_eq_true rfl]
      exact q _ (h.1.trans (same_new nS))
def sp_is_term (K : PySem.W.Frag) : Sp := fun vs H Q _ => ∃ v nv t names, vs = [v, nv] ∧ Dp K H v (tD t) ∧ Tl K H nv names ∧ t.1 ≠ 0 ∧ t.2 ∈ names ∧ Q (.bl true) H
theorem ok_is_term (T : PgF K mg) : FnOk P w K mg base CX0 2 T.f_is_term T.fd_is_term ["candidate", "names"] (sp_is_term K) := by
  refine T.D_is_term.F.ok sc_is_term (fun vs H Q E h => ?_) (fun cdv A outer s H vs Q E hr h => ?_)
  · obtain ⟨v, nv, t, names, rfl, _⟩ := h
    rfl
  · obtain ⟨v, nv, t, names, rfl, hd, ⟨na, rfl, hn⟩, h0, hm, q⟩ := h
    have nd := sc_is_term.nd
    obtain ⟨a, ys, rfl, hS, hA⟩ := dp_tup hd
    obtain ⟨v1, ys1, rfl, h1, hA1⟩ : ∃ v1 r, ys = v1 :: r ∧ Dp K H v1 (.int t.1) ∧ DpAll K H r [.str t.2] := by cases hA with | cons x y => exact ⟨_, _, rfl, x, y⟩
    obtain ⟨v2, rfl, h2⟩ : ∃ v2, ys1 = [v2] ∧ Dp K H v2 (.str t.2) := by
      cases hA1 with
      | cons x y => cases y; exact ⟨_, rfl, x⟩
    obtain rfl := dp_int h1
    obtain rfl := dp_str h2
    refine ⟨_, (pss_cons (ps_if (PW.pt (pw_or (pt_not (pt_val (pe_callB call_isi (by rfl) T.m_isinstance (by decide +kernel) (pa_cons (pv 0) (pa_cons (pe_ty (n := "tuple") (by rfl) T.m_tuple (by decide +kernel)) pa_nil))))) (pw_or1 (pt_cmpR op_ne (pe_callB call_len_seq (by rfl) T.m_len PySem.boot_len (pa_cons (pv 0) pa_nil)) pe_int (nomark _)))))
      (pss_one (ps_ret pe_bl))
      pss_nil)
      (pss_cons (ps_asg (pv 0) (pg_tup rfl (pgs_cons (pg_name (i := 2) nd rfl (.inl rfl)) (pgs_cons (pg_name (i := 3) nd rfl (.inl rfl)) pgs_nil))))
      (pss_one (ps_ret (pe_and (pe_call ((ok_is_integer T).mono (by decide)) hr (by rfl) T.D_is_integer.g T.D_is_integer.kp T.D_is_integer.b .nil pass0 (pa_cons (pv 2) pa_nil)) (pe_and (pe_cmpR op_ne (pv 2) pe_int (nomark _)) (pe_one (pe_cmpR op_in_seq (pv 3) (pv 1) (by with_unfolding_all rfl))))))))), ?_⟩
    refine ⟨_, rfl, .ref a, .ty "tuple", _, _, true, rfl, .ty _, tyx_tupS hS, kit_ty (by decide +kernel), true, rfl, iteF ?_⟩
    refine ⟨_, rfl, a, _, rfl, .inr hS, rfl, _, rfl, iteNS rfl ?_⟩
    refine ⟨_, rfl, a, _, rfl, hS, rfl, _, _, rfl, _, _, rfl, rfl, ?_⟩
    refine ⟨_, rfl, t.1, rfl, true, rfl, iteT ?_⟩
    refine ⟨_, rfl, rfl, true, ?_, iteT ?_⟩
    · rw [decide_eq_false fun z => h0 (V.int.inj z)]
      rfl
    · refine ⟨_, rfl, _, rfl, na, _, rfl, hn, rfl, flat_strs _, ?_⟩
      rw [inV_strs, decide_eq_true hm]
      exact q
end
end Sp1

set_option Elab.async false
set_option linter.all false
set_option maxRecDepth 100000
set_option maxHeartbeats 4000000
namespace Pg
open PySem PySem.Spec PyProof.Rows
theorem sLt_iff {a b : Str} : sLt a b ↔ ltCps a.cps.toList b.cps.toList = true := by
  rw [ltCps_eq, decide_eq_true_eq]
  exact Iff.rfl
theorem rising_pw : ∀ (p : Str) (l : List Str), risingS p l = true → (p :: l).Pairwise (fun a b => ¬ sLt b a)
  | p, [], _ => List.pairwise_singleton _ _
  | p, x :: r, h => by
    have h : (!ltCps x.cps.toList p.cps.toList && risingS x r) = true := h
    rw [Bool.and_eq_true, Bool.not_eq_true'] at h
    have hx : ¬ sLt x p := fun z => by rw [sLt_iff.mp z] at h; exact absurd h.1 (by decide)
    have ih := rising_pw x r h.2
    refine List.pairwise_cons.mpr ⟨fun b hb => ?_, ih⟩
    rcases List.mem_cons.mp hb with rfl | hb
    · exact hx
    · have h2 := (List.pairwise_cons.mp ih).1 b hb
      intro z
      have h1 : ¬ x.cps.toList < p.cps.toList := hx
      have h2 : ¬ b.cps.toList < x.cps.toList := h2
      have z : b.cps.toList < p.cps.toList := z
      have a1 : p.cps.toList ≤ x.cps.toList := List.not_lt.mp h1
      have a2 : x.cps.toList ≤ b.cps.toList := List.not_lt.mp h2
      exact absurd z (List.not_lt.mpr (List.le_trans a1 a2))
theorem str_ext {a b : Str} (h : a.cps.toList = b.cps.toList) : a = b := by
  cases a
  cases b
  congr 1
  exact Array.toList_inj.mp h
theorem sLt_tri {a b : Str} (h1 : ¬ sLt a b) (h2 : ¬ sLt b a) : a = b := str_ext (List.le_antisymm (List.not_lt.mp h2) (List.not_lt.mp h1))
/-- what is sorted and holds the same texts is the same -/
theorem sorted_eq {xs ys : List Str} (h : xs.Pairwise sLt) (p : ys.Perm xs) (s : sortedS ys = true) : ys = xs := by
  have hy : ys.Pairwise (fun a b => ¬ sLt b a) := by
    cases ys with
    | nil => exact List.Pairwise.nil
    | cons y r => exact rising_pw y r s
  have hx : xs.Pairwise (fun a b => ¬ sLt b a) := h.imp fun {a b} l z => sLt_irrefl _ (sLt_trans l z)
  exact p.eq_of_pairwise (fun a b _ _ ha hb => sLt_tri hb ha) hy hx
end Pg
namespace Sp1
open PySem PySem.Spec PyProof.Rows L2 Pg
theorem range_get (xs : List V) : (List.range xs.length).map (fun i => (xs[i]?).getD .non) = xs := by
  apply List.ext_getElem
  · simp
  · intro i h1 h2
    simp [List.getElem?_eq_getElem h2]
/-- a comprehension's list holds xs -/
theorem acc_get {H H' : Hp} {D : Addr} {xs : List V} {n : Nat} (h : Acc H D (fun i => (xs[i]?).getD .non) n H') (e : n = xs.length) : H' D = some (.lst xs) := by
  rw [h.2, e, range_get]
section
variable {P : Program} {w : World} {K : PySem.W.Frag} {mg : Str → Option Value} {base : Heap}
theorem dp_tD {H : Hp} {v : V} {t : Int × Str} (h : Dp K H v (tD t)) : ∃ a, v = .ref a ∧ SqT K H a [.int t.1, .str t.2] := by
  obtain ⟨a, ys, rfl, hS, hA⟩ := dp_tup h
  obtain ⟨v1, ys1, rfl, h1, hA1⟩ : ∃ v1 r, ys = v1 :: r ∧ Dp K H v1 (.int t.1) ∧ DpAll K H r [.str t.2] := by cases hA with | cons x y => exact ⟨_, _, rfl, x, y⟩
  obtain ⟨v2, rfl, h2⟩ : ∃ v2, ys1 = [v2] ∧ Dp K H v2 (.str t.2) := by
    cases hA1 with
    | cons x y => cases y; exact ⟨_, rfl, x⟩
  obtain rfl := dp_int h1
  obtain rfl := dp_str h2
  exact ⟨a, rfl, hS⟩
theorem tts_tup {ts : List (Int × Str)} (h : ∀ t ∈ ts, tupD (.str t.2) = true) : tupD (.tuple (ts.map tD)) = true := by
  show tupAll (ts.map tD) = true
  exact tupAll_iff.mpr fun d hd => by
    obtain ⟨t, ht, rfl⟩ := List.mem_map.mp hd
    exact tD_tup (h t ht)
theorem shaped_strs {xs : List Str} (h : ∀ x ∈ xs, tupD (.str x) = true) : SeqAt.shaped (.list (xs.map sD)) = true := shaped_list (fun d hd => by
    obtain ⟨x, hx, rfl⟩ := List.mem_map.mp hd
    exact h x hx) (fun d hd => by
    obtain ⟨x, hx, rfl⟩ := List.mem_map.mp hd
    exact Nat.zero_le _)
def sp_are_terms (K : PySem.W.Frag) : Sp := fun vs H Q _ => ∃ (v nv : V) (ts : List (Int × Str)) (names : List Str), vs = [v, nv] ∧ Dp K H v (.tuple (ts.map tD)) ∧ Tl K H nv names ∧ (∀ t ∈ ts, t.1 ≠ 0 ∧ t.2 ∈ names) ∧ (∀ t ∈ ts, tupD (.str t.2) = true) ∧ (ts.map (·.2)).Pairwise sLt ∧ ts.length ≤ 60 ∧ ∀ H', Same H H' → Q (.bl true) H'
theorem ok_are_terms (T : PgF K mg) : FnOk P w K mg base CX0 3 T.f_are_terms T.fd_are_terms ["candidate", "names"] (sp_are_terms K) := by
  refine T.D_are_terms.F.ok sc_are_terms (fun vs H Q E h => ?_) (fun cdv A outer s H vs Q E hr h => ?_)
  · obtain ⟨v, nv, t, names, rfl, _⟩ := h
    rfl
  · obtain ⟨v, nv, ts, names, rfl, hd, hn, h0, ht, asc, h60, q⟩ := h
    have nd := sc_are_terms.nd
    have hd0 := hd
    have tt := tts_tup ht
    obtain ⟨a, ys, rfl, hS, hA⟩ := dp_tup hd
    have yl : ys.length = ts.length := by rw [dpAll_len hA, List.length_map]
    refine ⟨_, (pss_cons (ps_if (PW.pt (pw_or (pt_not (pt_val (pe_callB call_isi (by rfl) T.m_isinstance (by decide +kernel) (pa_cons (pv 0) (pa_cons (pe_ty (n := "tuple") (by rfl) T.m_tuple (by decide +kernel)) pa_nil))))) (pw_or1 (pt_not (pt_val (pe_callB (cr_all rfl) (by rfl) T.m_all (by decide +kernel) (pa_cons (pe_lc (own := [("term", 3)]) (g := (gName 3)) (tt := tYes) rfl nd (pi_tup (pv 0)) (blkOk_by (N := N_are_terms) (sc := defScope s_are_terms) (by decide +kernel)) (fun _ _ _ _ _ => (pg_name (i := 3) nd rfl (.inl rfl))) (fun _ _ _ _ _ => pts_nil) (fun _ _ _ _ _ => (pe_call ((ok_is_term T).mono (by decide)) hr (by rfl) T.D_is_term.g T.D_is_term.kp T.D_is_term.b .nil pass0 (pa_cons (pv 3) (pa_cons (pv 1) pa_nil))))) pa_nil)))))))
      (pss_one (ps_ret pe_bl))
      pss_nil)
      (pss_cons (ps_setLc (i := 2) (own := [("_", 4), ("name", 5)]) (g := (gTup K 2 (gCons (gName 4) (gCons (gName 5) gNil)))) (tt := tYes) rfl nd rfl rfl (sw_true rfl rfl rfl (by decide +kernel)) (pi_tup (pv 0)) (blkOk_by (N := N_are_terms) (sc := defScope s_are_terms) (by decide +kernel)) (fun _ _ _ _ _ => (pg_tup rfl (pgs_cons (pg_name (i := 4) nd rfl (.inl rfl)) (pgs_cons (pg_name (i := 5) nd rfl (.inl rfl)) pgs_nil)))) (fun _ _ _ _ _ => pts_nil) (fun _ _ _ _ _ => (pv 5)))
      (pss_one (ps_ret (pe_cmpR (op_eqD hr.units) (pv 2) (pe_callB (cr_sortedT2 rfl) (by rfl) T.m_sorted (by decide +kernel) (pa_cons (pe_callTy (cr_setT rfl) (by rfl) T.m_set (by decide +kernel) (pa_cons (pv 2) pa_nil)) pa_nil)) (nomark _)))))), ?_⟩
    refine ⟨_, rfl, .ref a, .ty "tuple", _, _, true, rfl, .ty _, tyx_tupS hS, kit_ty (by decide +kernel), true, rfl, iteF ?_⟩
    refine ⟨_, rfl, a, rfl, ⟨_, hS⟩, fun D nD => ?_⟩
    refine lc_it (walk_tup (K := K) (a := a) (xs := ys)) (Acc H D fun _ => V.bl true) (Acc.start nD) (fun i H' _ h => Same.sqt h.1 hS) ?_ ?_
    · rintro i v H1 H2 hi h ⟨rfl, hv⟩
      obtain ⟨d, hd, hdp⟩ := dpAll_at hA hv
      rw [List.getElem?_map] at hd
      obtain ⟨t, ht', rfl⟩ := Option.map_eq_some_iff.mp hd
      have hm := List.mem_of_getElem? ht'
      refine ⟨rfl, ?_⟩
      dsimp only [tYes]
      refine iteT ?_
      refine ⟨_, rfl, _, rfl, _, nv, t, names, rfl, dp_keep (Same.tk h.1) hdp (tD_tup (ht t hm)), hn.same h.1, (h0 t hm).1, (h0 t hm).2, ?_⟩
      exact h.turn nD (Same.refl _) (by omega) rfl
    · rintro H1 h
      refine ⟨D, _, rfl, SqL.of (acc_true h), true, by rw [all_true], iteF ?_⟩
      refine ⟨_, rfl, a, rfl, ⟨_, Same.sqt h.1 hS⟩, fun D2 nD2 => ?_⟩
      refine lc_it (walk_tup (K := K) (a := a) (xs := ys)) (Acc H1 D2 fun i => (((ts.map (·.2)).map V.str)[i]?).getD .non) (Acc.start nD2) (fun i H' _ h' => Same.sqt (h.1.trans h'.1) hS) ?_ ?_
      · rintro i v H3 H4 hi h' ⟨rfl, hv⟩
        obtain ⟨d, hd, hdp⟩ := dpAll_at hA hv
        rw [List.getElem?_map] at hd
        obtain ⟨t, ht', rfl⟩ := Option.map_eq_some_iff.mp hd
        have hm := List.mem_of_getElem? ht'
        obtain ⟨ta, rfl, hts⟩ := dp_tD (dp_keep (Same.tk (h.1.trans h'.1)) hdp (tD_tup (ht t hm)))
        refine ⟨ta, _, rfl, hts, rfl, _, _, rfl, _, _, rfl, rfl, rfl, ?_⟩
        dsimp only [tYes]
        refine iteT ⟨_, rfl, ?_⟩
        refine h'.turn nD2 (Same.refl _) (by omega) ?_
        rw [List.getElem?_map, List.getElem?_map, ht']
        rfl
      · rintro H3 h'
        have hD2 := acc_get h' (by rw [List.length_map, List.length_map, yl])
        have hsame := h.1.trans h'.1
        refine ⟨_, rfl, _, rfl, D2, _, rfl, .inl (SqL.of hD2), asc_nodup asc, by rw [List.length_map]; omega, fun S zs nS hp => ?_⟩
        refine ⟨S, zs, rfl, upd_same, by rw [hp.length_eq, List.length_map]; omega, fun us p hu hs np => ?_⟩
        have e : us = ts.map (·.2) := sorted_eq asc (hu.trans hp) hs
        subst e
        have sh : SeqAt.shaped (.list ((ts.map (·.2)).map sD)) = true := shaped_strs fun x hx => by
          obtain ⟨t, ht1, rfl⟩ := List.mem_map.mp hx
          exact ht t ht1
        have nS' : S ≠ D2 := fun z => by rw [z] at nS; rw [hD2] at nS; cases nS
        refine ⟨.list ((ts.map (·.2)).map sD), .list ((ts.map (·.2)).map sD), .lst (SqL.of (same_new np _ _ (same_new nS _ _ hD2))) (dpAll_strs _), .lst (SqL.of upd_same) (dpAll_strs _), sh, sh, ?_⟩
        rw [eqv_same sh]
        exact q _ ((hsame.trans (same_new nS)).trans (same_new np))
end
end Sp1

set_option Elab.async false
set_option linter.all false
set_option maxRecDepth 100000
set_option maxHeartbeats 4000000
namespace Sp1
open PySem PySem.Spec PyProof.Rows L2 Pg
section
variable {P : Program} {w : World} {K : PySem.W.Frag} {mg : Str → Option Value} {base : Heap}
theorem dp_tup1 {H : Hp} {v : V} {d : PyData} (h : Dp K H v (.tuple [d])) : ∃ a x, v = .ref a ∧ SqT K H a [x] ∧ Dp K H x d := by
  obtain ⟨a, ys, rfl, hS, hA⟩ := dp_tup h
  cases hA with
  | cons x y => cases y; exact ⟨_, _, rfl, hS, x⟩
theorem dp_tup2 {H : Hp} {v : V} {d1 d2 : PyData} (h : Dp K H v (.tuple [d1, d2])) : ∃ a x1 x2, v = .ref a ∧ SqT K H a [x1, x2] ∧ Dp K H x1 d1 ∧ Dp K H x2 d2 := by
  obtain ⟨a, ys, rfl, hS, hA⟩ := dp_tup h
  cases hA with
  | cons x y => cases y with
    | cons x2 y => cases y; exact ⟨_, _, _, rfl, hS, x, x2⟩
theorem dp_tup3 {H : Hp} {v : V} {d1 d2 d3 : PyData} (h : Dp K H v (.tuple [d1, d2, d3])) : ∃ a x1 x2 x3, v = .ref a ∧ SqT K H a [x1, x2, x3] ∧ Dp K H x1 d1 ∧ Dp K H x2 d2 ∧ Dp K H x3 d3 := by
  obtain ⟨a, ys, rfl, hS, hA⟩ := dp_tup h
  cases hA with
  | cons x y => cases y with
    | cons x2 y => cases y with
      | cons x3 y => cases y; exact ⟨_, _, _, _, rfl, hS, x, x2, x3⟩
theorem dp_tup4 {H : Hp} {v : V} {d1 d2 d3 d4 : PyData} (h : Dp K H v (.tuple [d1, d2, d3, d4])) : ∃ a x1 x2 x3 x4, v = .ref a ∧ SqT K H a [x1, x2, x3, x4] ∧ Dp K H x1 d1 ∧ Dp K H x2 d2 ∧ Dp K H x3 d3 ∧ Dp K H x4 d4 := by
  obtain ⟨a, ys, rfl, hS, hA⟩ := dp_tup h
  cases hA with
  | cons x y => cases y with
    | cons x2 y => cases y with
      | cons x3 y => cases y with
        | cons x4 y => cases y; exact ⟨_, _, _, _, _, rfl, hS, x, x2, x3, x4⟩
theorem dp_sum {H : Hp} {v : V} {s : Sm} (h : Dp K H v s.D) : ∃ a vt, v = .ref a ∧ SqT K H a [.str "sum", .int s.c, vt, .int s.d] ∧ Dp K H vt (.tuple (s.ts.map tD)) := by
  obtain ⟨a, x1, x2, x3, x4, rfl, hS, h1, h2, h3, h4⟩ := dp_tup4 h
  obtain rfl := dp_str h1
  obtain rfl := dp_int h2
  obtain rfl := dp_int h4
  exact ⟨a, x3, rfl, hS, h3⟩
def sp_sum_numbers (K : PySem.W.Frag) : Sp := fun vs H Q _ => ∃ (v : V) (s : Sm), vs = [v] ∧ Dp K H v s.D ∧ tupD s.D = true ∧ s.ts.length ≤ 60 ∧ ∀ H' p, Same H H' → H p = none → H' p = some (.lst (s.nums.map V.int)) → Q (.ref p) H'
theorem ok_sum_numbers (T : PgF K mg) : FnOk P w K mg base CX0 1 T.f_sum_numbers T.fd_sum_numbers ["value"] (sp_sum_numbers K) := by
  refine T.D_sum_numbers.F.ok sc_sum_numbers (fun vs H Q E h => ?_) (fun cdv A outer s H vs Q E hr h => ?_)
  · obtain ⟨v, s, rfl, _⟩ := h
    rfl
  · obtain ⟨v, s, rfl, hd, ht, h60, q⟩ := h
    have nd := sc_sum_numbers.nd
    obtain ⟨a, vt, rfl, hS, hdt⟩ := dp_sum hd
    have htt : tupD (.tuple (s.ts.map tD)) = true := by
      simp only [Sm.D, tupD, tupAll, Bool.and_eq_true] at ht
      exact ht.2.2.1
    obtain ⟨ta, ys, rfl, hS2, hA⟩ := dp_tup hdt
    have yl : ys.length = s.ts.length := by rw [dpAll_len hA, List.length_map]
    have sm : (2 : Nat) ≤ sizeLine := by rw [sizeLine_eq]; omega
    refine ⟨_, (pss_cons (ps_asg (pv 0) (pg_tup rfl (pgs_cons (pg_name (i := 1) nd rfl (.inl rfl)) (pgs_cons (pg_name (i := 2) nd rfl (.inl rfl)) (pgs_cons (pg_name (i := 3) nd rfl (.inl rfl)) (pgs_cons (pg_name (i := 4) nd rfl (.inl rfl)) pgs_nil))))))
      (pss_one (ps_ret (pe_op op_cat (pe_lst (pa_cons (pv 2) (pa_cons (pv 4) pa_nil))) (pe_lc (own := [("factor", 5), ("_", 1)]) (g := (gTup K 2 (gCons (gName 5) (gCons (gName 1) gNil)))) (tt := tYes) rfl nd (pi_tup (pv 3)) (blkOk_by (N := N_sum_numbers) (sc := defScope s_sum_numbers) (by decide +kernel)) (fun _ _ _ _ _ => (pg_tup rfl (pgs_cons (pg_name (i := 5) nd rfl (.inl rfl)) (pgs_cons (pg_name (i := 1) nd rfl (.inl rfl)) pgs_nil)))) (fun _ _ _ _ _ => pts_nil) (fun _ _ _ _ _ => (pv 5))))))), ?_⟩
    refine ⟨_, rfl, a, _, rfl, hS, rfl, _, _, rfl, _, _, rfl, _, _, rfl, _, _, rfl, rfl, ?_⟩
    refine ⟨_, rfl, _, rfl, sm, fun p1 np1 => ?_⟩
    have s1 : Same H (upd H p1 (.lst [.int s.c, .int s.d])) := same_new np1
    refine ⟨_, rfl, ta, rfl, ⟨_, Same.sqt s1 hS2⟩, fun D nD => ?_⟩
    refine lc_it (walk_tup (K := K) (a := ta) (xs := ys)) (Acc _ D fun i => (((s.ts.map (·.1)).map V.int)[i]?).getD .non) (Acc.start nD) (fun i H' _ h' => Same.sqt (s1.trans h'.1) hS2) ?_ ?_
    · rintro i v H3 H4 hi h' ⟨rfl, hv⟩
      obtain ⟨d, hd, hdp⟩ := dpAll_at hA hv
      rw [List.getElem?_map] at hd
      obtain ⟨t, ht', rfl⟩ := Option.map_eq_some_iff.mp hd
      have hm := List.mem_of_getElem? ht'
      have htd : tupD (tD t) = true := tupAll_iff.mp (by simpa [tupD] using htt) _ (List.mem_map.mpr ⟨t, hm, rfl⟩)
      obtain ⟨pa, rfl, hts⟩ := dp_tD (dp_keep (Same.tk (s1.trans h'.1)) hdp htd)
      refine ⟨pa, _, rfl, hts, rfl, _, _, rfl, _, _, rfl, rfl, rfl, ?_⟩
      dsimp only [tYes]
      refine iteT ⟨_, rfl, ?_⟩
      refine h'.turn nD (Same.refl _) (by omega) ?_
      rw [List.getElem?_map, List.getElem?_map, ht']
      rfl
    · rintro H3 h'
      have hD := acc_get h' (by rw [List.length_map, List.length_map, yl])
      refine ⟨p1, D, _, _, rfl, rfl, h'.1 _ _ upd_same, hD, by rw [List.length_map, List.length_map, sizeLine_eq]; show 2 + _ ≤ _; omega, fun p np => ?_⟩
      have hs := (s1.trans h'.1).trans (same_new (o := .lst ([.int s.c, .int s.d] ++ (s.ts.map (·.1)).map V.int)) np)
      refine q _ p hs ((s1.trans h'.1).free np) ?_
      rw [upd_same]
      rfl
/-- a sum that is right; or a tuple of another length than four -/
def sp_is_long_sum (K : PySem.W.Frag) : Sp := fun vs H Q _ => ∃ (v nv : V) (ds : List PyData) (names : List Str), vs = [v, nv] ∧ Dp K H v (.tuple ds) ∧ Tl K H nv names ∧ Names names ∧ 
  ((∃ s : Sm, ds = [.str "sum", .int s.c, .tuple (s.ts.map tD), .int s.d] ∧ s.Ok names ∧ ∀ H', Same H H' → Q (.bl true) H') ∨ (ds.length ≠ 4 ∧ ∀ H', Same H H' → Q (.bl false) H'))
theorem ok_is_long_sum (T : PgF K mg) : FnOk P w K mg base CX0 4 T.f_is_long_sum T.fd_is_long_sum ["candidate", "names"] (sp_is_long_sum K) := by
  refine T.D_is_long_sum.F.ok sc_is_long_sum (fun vs H Q E h => ?_) (fun cdv A outer s H vs Q E hr h => ?_)
  · obtain ⟨v, nv, t, names, rfl, _⟩ := h
    rfl
  · obtain ⟨v, nv, ds, names, rfl, hd, hn, hN, h⟩ := h
    have nd := sc_is_long_sum.nd
    refine ⟨_, (pss_cons (ps_if (PW.pt (pw_or (pt_not (pt_val (pe_callB call_isi (by rfl) T.m_isinstance (by decide +kernel) (pa_cons (pv 0) (pa_cons (pe_ty (n := "tuple") (by rfl) T.m_tuple (by decide +kernel)) pa_nil))))) (pw_or (pt_cmpR op_ne (pe_callB call_len_seq (by rfl) T.m_len PySem.boot_len (pa_cons (pv 0) pa_nil)) pe_int (nomark _)) (pw_or1 (pt_cmpR op_ne (pe_ix (r := rIxT K) ix_tup (pv 0) pe_int (fun _ _ => rfl)) pe_str (nomark _))))))
      (pss_one (ps_ret pe_bl))
      pss_nil)
      (pss_cons (ps_asg (pv 0) (pg_tup rfl (pgs_cons (pg_name (i := 2) nd rfl (.inl rfl)) (pgs_cons (pg_name (i := 3) nd rfl (.inl rfl)) (pgs_cons (pg_name (i := 4) nd rfl (.inl rfl)) (pgs_cons (pg_name (i := 5) nd rfl (.inl rfl)) pgs_nil))))))
      (pss_cons (ps_if (PW.pt (pw_or (pt_not (pt_val (pe_call ((ok_is_integer T).mono (by decide)) hr (by rfl) T.D_is_integer.g T.D_is_integer.kp T.D_is_integer.b .nil pass0 (pa_cons (pv 3) pa_nil)))) (pw_or (pt_not (pt_val (pe_call ((ok_are_terms T).mono (by decide)) hr (by rfl) T.D_are_terms.g T.D_are_terms.kp T.D_are_terms.b .nil pass0 (pa_cons (pv 4) (pa_cons (pv 1) pa_nil))))) (pw_or (pt_not (pt_val (pe_call ((ok_is_integer T).mono (by decide)) hr (by rfl) T.D_is_integer.g T.D_is_integer.kp T.D_is_integer.b .nil pass0 (pa_cons (pv 5) pa_nil)))) (pw_or1 (pt_cmpR op_lt (pv 5) pe_int (nomark _)))))))
      (pss_one (ps_ret pe_bl))
      pss_nil)
      (pss_one (ps_ret (pe_cmpR op_eq (pe_call ((ok_common_divisor T).mono (by decide)) hr (by rfl) T.D_common_divisor.g T.D_common_divisor.kp T.D_common_divisor.b .nil pass0 (pa_cons (pe_call ((ok_sum_numbers T).mono (by decide)) hr (by rfl) T.D_sum_numbers.g T.D_sum_numbers.kp T.D_sum_numbers.b .nil pass0 (pa_cons (pv 0) pa_nil)) pa_nil)) pe_int (nomark _))))))), ?_⟩
    rcases h with ⟨s, rfl, ok, q⟩ | ⟨hl, q⟩
    · have ht : tupD s.D = true := Sm.tup hN ok
      have hd0 : Dp K H v s.D := hd
      have dp := ok.dp
      obtain ⟨a, vt, rfl, hS, hdt⟩ := dp_sum hd
      refine ⟨_, rfl, .ref a, .ty "tuple", _, _, true, rfl, .ty _, tyx_tupS hS, kit_ty (by decide +kernel), true, rfl, iteF ?_⟩
      refine ⟨_, rfl, a, _, rfl, .inr hS, rfl, _, rfl, iteNS rfl ?_⟩
      refine ⟨_, rfl, a, _, _, _, rfl, rfl, hS, rfl, rfl, _, rfl, iteNS rfl ?_⟩
      refine ⟨_, rfl, a, _, rfl, hS, rfl, _, _, rfl, _, _, rfl, _, _, rfl, _, _, rfl, rfl, ?_⟩
      refine ⟨_, rfl, s.c, rfl, true, rfl, iteF ?_⟩
      refine ⟨_, rfl, _, rfl, vt, nv, s.ts, names, rfl, hdt, hn, ok.nz, fun t ht => (hN _ (ok.nz t ht).2).tup, ok.asc, ok.len, fun H1 s1 => ?_⟩
      refine ⟨true, rfl, iteF ?_⟩
      refine ⟨_, rfl, s.d, rfl, true, rfl, iteF ?_⟩
      refine ⟨_, rfl, _, _, rfl, rfl, _, rfl, ?_⟩
      rw [decide_eq_false (by omega)]
      refine iteF ?_
      refine ⟨_, rfl, .ref a, s, rfl, dp_keep (Same.tk s1) hd0 ht, ht, ok.len, fun H2 p s2 np hp => ?_⟩
      refine ⟨p, s.nums, rfl, hp, ok.gcdL, ?_⟩
      exact ⟨rfl, q _ (s1.trans s2)⟩
    · obtain ⟨a, ys, rfl, hS, hA⟩ := dp_tup hd
      refine ⟨_, rfl, .ref a, .ty "tuple", _, _, true, rfl, .ty _, tyx_tupS hS, kit_ty (by decide +kernel), true, rfl, iteF ?_⟩
      refine ⟨_, rfl, a, _, rfl, .inr hS, rfl, _, rfl, ?_⟩
      rw [dpAll_len hA]
      rw [show (!decide (V.int (ds.length : Int) = V.int 4)) = true from by
        rw [Bool.not_eq_true', decide_eq_false_iff_not]
        intro z
        have := V.int.inj z
        omega]
      exact iteT (q _ (Same.refl _))
def sp_is_sum (K : PySem.W.Frag) : Sp := sp_is_long_sum K
theorem ok_is_sum (T : PgF K mg) : FnOk P w K mg base CX0 5 T.f_is_sum T.fd_is_sum ["candidate", "names"] (sp_is_sum K) := by
  refine T.D_is_sum.F.ok sc_is_sum (fun vs H Q E h => ?_) (fun cdv A outer s H vs Q E hr h => ?_)
  · obtain ⟨v, nv, t, names, rfl, _⟩ := h
    rfl
  · obtain ⟨v, nv, ds, names, rfl, hd, hn, hN, h⟩ := h
    have nd := sc_is_sum.nd
    refine ⟨_, (pss_one (ps_ret (pe_and (pe_call ((ok_is_long_sum T).mono (by decide)) hr (by rfl) T.D_is_long_sum.g T.D_is_long_sum.kp T.D_is_long_sum.b .nil pass0 (pa_cons (pv 0) (pa_cons (pv 1) pa_nil))) (pe_one (pe_callB (cr_all rfl) (by rfl) T.m_all (by decide +kernel) (pa_cons (pe_lc (own := [("number", 2)]) (g := (gName 2)) (tt := tYes) rfl nd (pi_list (pe_call ((ok_sum_numbers T).mono (by decide)) hr (by rfl) T.D_sum_numbers.g T.D_sum_numbers.kp T.D_sum_numbers.b .nil pass0 (pa_cons (pv 0) pa_nil))) (blkOk_by (N := N_is_sum) (sc := defScope s_is_sum) (by decide +kernel)) (fun _ _ _ _ _ => (pg_name (i := 2) nd rfl (.inl rfl))) (fun _ _ _ _ _ => pts_nil) (fun _ _ _ _ _ => (pe_call ((ok_is_short T).mono (by decide)) hr (by rfl) T.D_is_short.g T.D_is_short.kp T.D_is_short.b .nil pass0 (pa_cons (pv 2) pa_nil)))) pa_nil)))))), ?_⟩
    rcases h with ⟨s, rfl, ok, q⟩ | ⟨hl, q⟩
    · have ht : tupD s.D = true := Sm.tup hN ok
      have hd0 : Dp K H v s.D := hd
      refine ⟨_, rfl, _, rfl, v, nv, _, names, rfl, hd, hn, hN, .inl ⟨s, rfl, ok, fun H1 s1 => ?_⟩⟩
      refine ⟨true, rfl, iteT ?_⟩
      refine ⟨_, rfl, v, s, rfl, dp_keep (Same.tk s1) hd0 ht, ht, ok.len, fun H2 p s2 np hp => ?_⟩
      refine ⟨p, rfl, ⟨_, SqL.of hp⟩, fun D nD => ?_⟩
      have nl : s.nums.length = s.ts.length + 2 := by simp [Sm.nums]
      have sh : ∀ x ∈ s.nums, -great < x ∧ x < great := ok.sh
      have h60 := ok.len
      refine lc_it (walk_list (K := K) (a := p) (xs := s.nums.map V.int)) (Acc H2 D fun _ => V.bl true) (Acc.start nD) (fun i H' _ h => SqL.of (h.1 _ _ hp)) ?_ ?_
      · rintro i v H3 H4 hi h ⟨rfl, hv⟩
        obtain ⟨hi', rfl⟩ := int_of hv
        have := sh _ (List.getElem_mem hi')
        refine ⟨rfl, ?_⟩
        dsimp only [tYes]
        refine iteT ?_
        refine ⟨_, rfl, _, rfl, this.1, this.2, ?_⟩
        exact h.turn nD (Same.refl _) (by omega) rfl
      · rintro H3 h
        refine ⟨D, _, rfl, SqL.of (acc_true h), ?_⟩
        rw [all_true]
        exact q _ ((s1.trans s2).trans h.1)
    · refine ⟨_, rfl, _, rfl, v, nv, _, names, rfl, hd, hn, hN, .inr ⟨hl, fun H1 s1 => ?_⟩⟩
      exact ⟨false, rfl, iteF (q _ s1)⟩
end
end Sp1

set_option Elab.async false
set_option linter.all false
set_option maxRecDepth 100000
set_option maxHeartbeats 4000000
namespace Sp1
open PySem PySem.Spec PyProof.Rows L2 Pg
section
variable {P : Program} {w : World} {K : PySem.W.Frag} {mg : Str → Option Value} {base : Heap}
/-- an expression that is right -/
def sp_is_expression (K : PySem.W.Frag) : Sp := fun vs H Q _ => ∃ (v nv : V) (e : Ex) (names : List Str), vs = [v, nv] ∧ Dp K H v e.D ∧ Tl K H nv names ∧ Names names ∧ e.Ok names ∧ ∀ H', Same H H' → Q (.bl true) H'
theorem shaped_read : SeqAt.shaped (.tuple [.str "read"]) = true := by decide +kernel
theorem ok_is_expression (T : PgF K mg) : FnOk P w K mg base CX0 6 T.f_is_expression T.fd_is_expression ["candidate", "names"] (sp_is_expression K) := by
  refine T.D_is_expression.F.ok sc_is_expression (fun vs H Q E h => ?_) (fun cdv A outer s H vs Q E hr h => ?_)
  · obtain ⟨v, nv, t, names, rfl, _⟩ := h
    rfl
  · obtain ⟨v, nv, e, names, rfl, hd, hn, hN, ok, q⟩ := h
    have nd := sc_is_expression.nd
    refine ⟨_, (pss_cons (ps_if (PW.pt (pw_or (pt_val (pe_call ((ok_is_sum T).mono (by decide)) hr (by rfl) T.D_is_sum.g T.D_is_sum.kp T.D_is_sum.b .nil pass0 (pa_cons (pv 0) (pa_cons (pv 1) pa_nil)))) (pw_or1 (pt_cmpR (op_eqD hr.units) (pv 0) (pe_tup (pa_cons pe_str pa_nil)) (nomark _)))))
      (pss_one (ps_ret pe_bl))
      pss_nil)
      (pss_cons (ps_if (PW.pt (pw_or (pt_not (pt_val (pe_callB call_isi (by rfl) T.m_isinstance (by decide +kernel) (pa_cons (pv 0) (pa_cons (pe_ty (n := "tuple") (by rfl) T.m_tuple (by decide +kernel)) pa_nil))))) (pw_or (pt_cmpR op_ne (pe_callB call_len_seq (by rfl) T.m_len PySem.boot_len (pa_cons (pv 0) pa_nil)) pe_int (nomark _)) (pw_or1 (pt_cmpR op_notIn_seq (pe_ix (r := rIxT K) ix_tup (pv 0) pe_int (fun _ _ => rfl)) (pe_glob (v := .ref T.a_PAIRS) rfl T.g_PAIRS rfl) (by with_unfolding_all rfl))))))
      (pss_one (ps_ret pe_bl))
      pss_nil)
      (pss_one (ps_ret (pe_and (pe_call ((ok_is_sum T).mono (by decide)) hr (by rfl) T.D_is_sum.g T.D_is_sum.kp T.D_is_sum.b .nil pass0 (pa_cons (pe_ix (r := rIxT K) ix_tup (pv 0) pe_int (fun _ _ => rfl)) (pa_cons (pv 1) pa_nil))) (pe_one (pe_call ((ok_is_sum T).mono (by decide)) hr (by rfl) T.D_is_sum.g T.D_is_sum.kp T.D_is_sum.b .nil pass0 (pa_cons (pe_ix (r := rIxT K) ix_tup (pv 0) pe_int (fun _ _ => rfl)) (pa_cons (pv 1) pa_nil))))))))), ?_⟩
    cases e with
    | sum s =>
      refine ⟨_, rfl, _, rfl, v, nv, _, names, rfl, hd, hn, hN, .inl ⟨s, rfl, ok, fun H1 s1 => ?_⟩⟩
      exact ⟨true, rfl, iteT (q _ s1)⟩
    | read =>
      refine ⟨_, rfl, _, rfl, v, nv, _, names, rfl, hd, hn, hN, .inr ⟨by show (1 : Nat) ≠ 4; decide, fun H1 s1 => ?_⟩⟩
      refine ⟨false, rfl, iteF ?_⟩
      refine ⟨_, rfl, by rw [sizeLine_eq]; show 1 ≤ _; omega, fun p np => ?_⟩
      have s2 := s1.trans (same_new (o := .tup [.str "read"]) np)
      refine ⟨Ex.read.D, .tuple [.str "read"], dp_keep (Same.tk s2) hd (by decide +kernel), .tup (SqT.of upd_same) (.cons (.str _) .nil), shaped_read, shaped_read, true, ?_, iteT (q _ s2)⟩
      rw [show Ex.read.D = .tuple [.str "read"] from rfl, eqv_same shaped_read]
    | two w0 x y =>
      obtain ⟨hw, okx, oky⟩ := ok
      have hd0 := hd
      have ht : tupD (Ex.two w0 x y).D = true := Ex.tup hN ⟨hw, okx, oky⟩
      have hdep := Ex.depth (.two w0 x y)
      obtain ⟨a, x1, x2, x3, rfl, hS, h1, h2, h3⟩ := dp_tup3 hd
      obtain rfl := dp_str h1
      refine ⟨_, rfl, _, rfl, .ref a, nv, _, names, rfl, hd0, hn, hN, .inr ⟨by show (3 : Nat) ≠ 4; decide, fun H1 s1 => ?_⟩⟩
      refine ⟨false, rfl, iteF ?_⟩
      refine ⟨_, rfl, by rw [sizeLine_eq]; show 1 ≤ _; omega, fun p np => ?_⟩
      have s2 := s1.trans (same_new (o := .tup [.str "read"]) np)
      refine ⟨(Ex.two w0 x y).D, .tuple [.str "read"], dp_keep (Same.tk s2) hd0 ht, .tup (SqT.of upd_same) (.cons (.str _) .nil), shaped_of ht (by omega), shaped_read, false, ?_, iteF ?_⟩
      · refine congrArg V.bl ?_
        show (PyData.eqv (.str w0) (.str "read") && PyData.eqvAll [x.D, y.D] []) = false
        show (_ && false) = false
        rw [Bool.and_false]
      generalize hH : upd H1 p (.tup [.str "read"]) = H2 at s2 ⊢
      have hS2 := Same.sqt s2 hS
      refine ⟨_, rfl, .ref a, .ty "tuple", _, _, true, rfl, .ty _, tyx_tupS hS2, kit_ty (by decide +kernel), true, rfl, iteF ?_⟩
      refine ⟨_, rfl, a, _, rfl, .inr hS2, rfl, _, rfl, iteNS rfl ?_⟩
      refine ⟨_, rfl, a, _, _, _, rfl, rfl, hS2, rfl, T.a_PAIRS, _, rfl, .inr (T.w_PAIRS _), rfl, flat_strs _, _, rfl, ?_⟩
      rw [inV_strs, decide_eq_true hw]
      refine iteF ?_
      have tx : tupD x.D = true := Sm.tup hN okx
      have ty : tupD y.D = true := Sm.tup hN oky
      refine ⟨_, rfl, a, _, _, _, rfl, rfl, hS2, rfl, _, rfl, x2, nv, _, names, rfl, dp_keep (Same.tk s2) h2 tx, hn.same s2, hN, .inl ⟨x, rfl, okx, fun H3 s3 => ?_⟩⟩
      refine ⟨true, rfl, iteT ?_⟩
      have s4 := s2.trans s3
      refine ⟨_, rfl, a, _, _, _, rfl, rfl, Same.sqt s4 hS, rfl, _, rfl, x3, nv, _, names, rfl, dp_keep (Same.tk s4) h3 ty, hn.same s4, hN, .inl ⟨y, rfl, oky, fun H5 s5 => q _ (s4.trans s5)⟩⟩
end
end Sp1

set_option Elab.async false
set_option linter.all false
set_option maxRecDepth 100000
set_option maxHeartbeats 4000000
/-! a, *b = t : the first item, and a list of the others -/
namespace Sp1
open PySem PySem.Spec PyProof.Rows L2
theorem walks_drop {prog : Program} {w : World} {A : Around} {I : Addr} {fp wr : List Addr} {G : Array GenState → Array GenState → Prop} {n : Nat} {P : Nat → Value → Prop} {St : Nat → Shared → Prop}
    (W : WalksS prog w A I fp wr G (n + 1) P St) : WalksS prog w A I fp wr G n (fun i => P (i + 1)) (fun i => St (i + 1)) where
  sub := W.sub
  grefl := W.grefl
  gtrans := W.gtrans
  frame := fun i => W.frame (i + 1)
  item := fun i s Q E hi st hQ => W.item (i + 1) s Q E (by omega) st hQ
  done := W.done
  self := fun i => W.self (i + 1)
section
variable {prog : Program} {w : World} {A : Around} {E : Value → Shared → Prop} {s : Shared}
theorem unpackItems_star {t : Addr} {x : Value} {rest : List Value} {items : Array Value} {Q : List Value → Shared → Prop} (hh : A.handled = none) (ht : IsTup s.heap t items) (he : items.toList = x :: rest) (hz : items.size ≤ sizeLine)
    (hQ : ∀ (h1 : Heap) (tk : Nat), (∀ b o, s.heap.get? b = some o → h1.get? b = some o) → Q [x, .ref h1.objs.size] { s with heap := h1.push { cls := .type "list", data := .seq rest.toArray }, toks := tk }) :
    wpAny (model prog w) A (unpackItems (.ref t) 2 (some 1)) Q E s := by
  have hlt : t ≠ s.heap.objs.size := by obtain ⟨o, ho, _⟩ := ht; exact Nat.ne_of_lt (Heap.lt_size ho)
  have hsz : items.size = rest.length + 1 := by rw [← Array.length_toList, he]; rfl
  unfold unpackItems
  refine wpAny_bind ?_
  unfold notIterableAtAll
  refine wpAny_bind (wpAny_specialOf ht.typeIs slot_tuple_iter.lookup ?_)
  refine wpAny_pure ?_
  simp only [Bool.false_eq_true, if_false]
  refine wpAny_bind (wpAny_holding (iter_tuple ht ?_))
  refine wpAny_bind (wpAny_holding (draw_tuple hlt 1 0 _ _ ⟨_, Heap.get?_push_size _ rfl, rfl, rfl⟩ (ht.push _) (by omega) fun h₁ hit₁ hs₁ => ?_))
  have hall : List.take 1 (List.drop 0 items.toList) = [x] := by
    rw [he]
    rfl
  rw [hall]
  rw [if_neg (by simp)]
  have ht₁ : IsTup h₁ t items := (ht.push _).extBut hs₁.extBut hlt
  have W0 := (Walks.tuple (prog := prog) (w := w) (A := A.in1) hh s.heap.objs.size t hlt items).toS
  rw [hsz] at W0
  have W := walks_drop W0
  have hI : ∃ o, h₁.get? s.heap.objs.size = some o := by obtain ⟨o, ho, _⟩ := id hit₁; exact ⟨o, ho⟩
  have hit₁' : h₁.IsTupleIter s.heap.objs.size t 1 := hit₁
  refine wpAny_bind (wpAny_holding (wpAny_collect_iter (T := "tuple_iterator") (.inr (.inr (.inr rfl))) W (fun i s' st => ?_) ⟨hit₁, ht₁⟩ (fun b hb => ?_) (by simp) (fun s' acc hm hacc => ?_) (by omega)))
  · obtain ⟨o, ho, hc, _⟩ := st.1
    exact ⟨o, ho, hc⟩
  · rcases List.mem_cons.mp hb with rfl | hb
    · obtain ⟨o, ho⟩ := hI
      exact Heap.lt_size ho
    · rw [List.mem_singleton.mp hb]
      obtain ⟨o, ho, _⟩ := ht₁
      exact Heap.lt_size ho
  · have hal : acc.toList = rest := by
      apply List.ext_getElem?
      intro j
      have hr : rest[j]? = items[j + 1]? := by
        rw [← Array.getElem?_toList, he]
        rfl
      by_cases hj : j < acc.size
      · have h1 := hacc.2 j acc[j] (by simp [hj])
        rw [hr, h1, Array.getElem?_toList]
        simp [hj]
      · rw [Array.getElem?_toList, hr, Array.getElem?_eq_none (by omega), Array.getElem?_eq_none (by have := hacc.1; omega)]
    rw [hal]
    rw [show (2 : Nat) - 1 - 1 = 0 from rfl, if_neg (by omega), Nat.sub_zero, List.take_length, List.drop_length]
    have k : ∀ b o, s.heap.get? b = some o → s'.heap.get? b = some o := fun b o e => hm.heap b o (fun z => by
      have := List.mem_singleton.mp z
      exact absurd this (Nat.ne_of_lt (Heap.lt_size e))) (hs₁.extBut b o (Nat.ne_of_lt (Heap.lt_size e)) (Heap.get?_push_of_some _ e))
    refine wpAny_bind (wpAny_newList ?_ (by omega))
    refine wpAny_pure ?_
    rw [Moved.eq_with hm]
    exact hQ s'.heap s'.toks k
end
section
variable {X : Cx} {pos p : Pos}
/-- a, *b = t, t a tuple that is not empty -/
def gStar (K : PySem.W.Frag) (t u : TG) : TG := fun v σ H Q => ∃ a x xs, v = .ref a ∧ SqT K H a (x :: xs) ∧ ∀ p, H p = none → t x σ (upd H p (.lst xs)) fun σ' H' => u (.ref p) σ' H' Q
theorem pg_star {e f : Expr} {k : Nat} {t u : TG} (hc : X.calm = true) (h1 : PG X e t) (h2 : PG X f u)
    (hs : assignEach [e, .Starred f p] X.env = [(false, assign e X.env), (true, assign f X.env)] := by rfl) : PG X (.Tuple [e, .Starred f p] k pos) (gStar X.K t u) := by
  refine ⟨fun pins s σ H v w Q I r hw => ?_⟩
  obtain ⟨a, x, xs, rfl, hq, hw⟩ := hw
  cases r
  obtain ⟨its, rv, ht, hz⟩ := I.tuple hq
  obtain ⟨y, us, rfl, r1, r2⟩ : ∃ y us, its = y :: us ∧ RelV x y ∧ Vals xs us := by
    cases rv with
    | cons r1 r2 => exact ⟨_, _, rfl, r1, r2⟩
  have hl := r2.length
  have hz' : us.length + 1 ≤ sizeLine := by
    rw [List.length_cons] at hz
    omega
  rw [assign_Tuple]
  refine wpAny_bind (wpAny_standAt ?_)
  unfold unpack
  rw [hs]
  refine wpAny_bind (wpAny_holding (unpackItems_star (I.ok.hd hc) ht rfl (by simpa using hz') fun h1' tk kp => ?_))
  have I1 : Inv X pins σ H { s with heap := h1', toks := tk } := I.kept kp
  have np : H h1'.objs.size = none := I1.hok.fresh (Nat.le_refl _)
  have I2 : Inv X pins σ (upd H h1'.objs.size (.lst xs)) { s with heap := h1'.push { cls := .type "list", data := .seq us.toArray }, toks := tk } :=
    I1.laid (fun b o e => Heap.get?_push_of_some _ e) (Nat.le_refl _) ⟨by omega, us, 0, r2, Heap.get?_push_size _ rfl⟩
  show wpAny _ _ (assignInOrder [assign e X.env, assign f X.env] [y, .ref h1'.objs.size]) _ _ _
  refine assignInOrder_cons (thn (h1.run pins _ σ _ _ _ _ I2 r1 (hw _ np)) fun _ s1 ⟨σ1, H1, I3, q1⟩ => ?_)
  refine assignInOrder_cons (thn (h2.run pins s1 σ1 H1 _ _ _ I3 (show RelV (.ref h1'.objs.size) (.ref h1'.objs.size) from rfl) q1) fun _ s2 ⟨σ2, H2, I4, q2⟩ => ?_)
  exact assignInOrder_nil ⟨σ2, H2, I4, q2⟩
end
end Sp1

set_option Elab.async false
set_option linter.all false
set_option maxRecDepth 100000
set_option maxHeartbeats 4000000
namespace Pg
open PySem
mutual
def St.sz : St → Nat
  | .ite _ a b => 3 + blSz a + blSz b
  | .whl _ b => 3 + blSz b
  | .rep _ b => 3 + blSz b
  | _ => 1
def blSz : List St → Nat
  | [] => 0
  | s :: r => s.sz + blSz r
end
theorem St.sz_pos (s : St) : 1 ≤ s.sz := by cases s <;> simp only [St.sz] <;> omega
theorem blSz_len : ∀ b : List St, b.length ≤ blSz b
  | [] => Nat.le_refl _
  | s :: r => by
    have := blSz_len r
    have := s.sz_pos
    simp only [blSz, List.length_cons]
    omega
theorem blSz_mem {s : St} : ∀ {b : List St}, s ∈ b → s.sz ≤ blSz b
  | x :: r, h => by
    simp only [blSz]
    rcases List.mem_cons.mp h with rfl | h
    · omega
    · have := blSz_mem h
      omega
theorem tupD_tuple (ds : List PyData) : tupD (.tuple ds) = tupAll ds := by rw [tupD]
mutual
theorem St.tup {names procs : List Str} (hN : Names names) (hP : Names procs) : ∀ (n : Nat) (s : St), St.Ok names procs n s → tupD s.D = true
  | n, .set x e, h => by
    have h1 := (hN _ h.1).tup
    have h2 := Ex.tup hN h.2
    simp only [St.D]
    rw [tupD, tupAll, tupAll, tupAll, tupAll, h1, h2]
    decide +kernel
  | n, .swap x y, h => by
    have h1 := (hN _ h.1).tup
    have h2 := (hN _ h.2.1).tup
    simp only [St.D]
    rw [tupD, tupAll, tupAll, tupAll, tupAll, h1, h2]
    decide +kernel
  | n, .print e, h => by
    have h2 := Ex.tup hN h
    simp only [St.D]
    rw [tupD, tupAll, tupAll, tupAll, h2]
    decide +kernel
  | n, .call p, h => by
    have h2 := (hP _ h).tup
    simp only [St.D]
    rw [tupD, tupAll, tupAll, tupAll, h2]
    decide +kernel
  | n, .ite e a b, h => by
    obtain ⟨h1, m, _, h2, h3⟩ := h
    have h1 := Ex.tup hN h1
    have h2 := blTup hN hP m a h2
    have h3 := blTup hN hP m b h3
    simp only [St.D]
    rw [tupD, tupAll, tupAll, tupAll, tupAll, tupAll, h1, tupD_tuple, tupD_tuple, h2, h3]
    decide +kernel
  | n, .whl e b, h => by
    obtain ⟨h1, m, _, h2⟩ := h
    have h1 := Ex.tup hN h1
    have h2 := blTup hN hP m b h2
    simp only [St.D]
    rw [tupD, tupAll, tupAll, tupAll, tupAll, h1, tupD_tuple, h2]
    decide +kernel
  | n, .rep e b, h => by
    obtain ⟨h1, m, _, h2⟩ := h
    have h1 := Ex.tup hN h1
    have h2 := blTup hN hP m b h2
    simp only [St.D]
    rw [tupD, tupAll, tupAll, tupAll, tupAll, h1, tupD_tuple, h2]
    decide +kernel
theorem blTup {names procs : List Str} (hN : Names names) (hP : Names procs) : ∀ (n : Nat) (b : List St), blOk names procs n b → tupAll (blD b) = true
  | n, [], _ => by simp only [blD, tupAll]
  | n, s :: r, h => by
    simp only [blD, tupAll]
    rw [St.tup hN hP n s h.1, blTup hN hP n r h.2]
    rfl
end
theorem bD_tup {names procs : List Str} (hN : Names names) (hP : Names procs) {n : Nat} {b : List St} (h : blOk names procs n b) : tupD (bD b) = true := by
  have := blTup hN hP n b h
  rw [blD_map] at this
  unfold bD
  rw [tupD]
  exact this
end Pg
namespace Sp1
open PySem PySem.Spec PyProof.Rows L2 Pg
section
variable {P : Program} {w : World} {K : PySem.W.Frag} {mg : Str → Option Value} {base : Heap}
theorem FnOk.none {CX : CXT} {k : Nat} {f : Addr} {fd : FuncData} {ps : List Str} : FnOk P w K mg base CX k f fd ps (fun _ _ _ _ => False) := ⟨fun _ _ _ _ h => False.elim h, by intro A outer s H args us vs Q E hr e0 hb r h; exact h.elim⟩
def sp_is_writing (K : PySem.W.Frag) : Sp := fun vs H Q _ => ∃ (v nv : V) (s : Pg.St) (names : List Str), vs = [v, nv] ∧ Dp K H v s.D ∧ Tl K H nv names ∧ Names names ∧
  ((∃ x e, s = .set x e ∧ x ∈ names ∧ e.Ok names) ∨ (∃ x y, s = .swap x y ∧ x ∈ names ∧ y ∈ names ∧ y ≠ x)) ∧ ∀ H', Same H H' → Q (.bl true) H'
theorem ok_is_writing (T : PgF K mg) : FnOk P w K mg base CX0 7 T.f_is_writing T.fd_is_writing ["candidate", "names"] (sp_is_writing K) := by
  refine T.D_is_writing.F.ok sc_is_writing (fun vs H Q E h => ?_) (fun cdv A outer s H vs Q E hr h => ?_)
  · obtain ⟨v, nv, t, names, rfl, _⟩ := h
    rfl
  · obtain ⟨v, nv, s, names, rfl, hd, ⟨na, rfl, hn⟩, hN, h, q⟩ := h
    have nd := sc_is_writing.nd
    refine ⟨_, (pss_cons (ps_if (PW.pt (pw_or (pt_cmpR op_ne (pe_callB call_len_seq (by rfl) T.m_len PySem.boot_len (pa_cons (pv 0) pa_nil)) pe_int (nomark _)) (pw_or1 (pt_cmpR op_notIn_seq (pe_ix (r := rIxT K) ix_tup (pv 0) pe_int (fun _ _ => rfl)) (pv 1) (by with_unfolding_all rfl)))))
      (pss_one (ps_ret pe_bl))
      pss_nil)
      (pss_cons (ps_asg (pv 0) (pg_tup rfl (pgs_cons (pg_name (i := 2) nd rfl (.inl rfl)) (pgs_cons (pg_name (i := 3) nd rfl (.inl rfl)) (pgs_cons (pg_name (i := 4) nd rfl (.inl rfl)) pgs_nil)))))
      (pss_cons (ps_if (pt_cmpR op_eq (pv 2) pe_str (nomark _))
      (pss_one (ps_ret (pe_call ((ok_is_expression T).mono (by decide)) hr (by rfl) T.D_is_expression.g T.D_is_expression.kp T.D_is_expression.b .nil pass0 (pa_cons (pv 4) (pa_cons (pv 1) pa_nil)))))
      pss_nil)
      (pss_one (ps_ret (pe_and (pe_cmpR op_in_seq (pv 4) (pv 1) (by with_unfolding_all rfl)) (pe_one (pe_cmpR op_ne (pv 4) (pv 3) (nomark _))))))))), ?_⟩
    rcases h with ⟨x, e, rfl, hx, he⟩ | ⟨x, y, rfl, hx, hy, hne⟩
    · obtain ⟨a, x1, x2, x3, rfl, hS, h1, h2, h3⟩ := dp_tup3 hd
      obtain rfl := dp_str h1
      obtain rfl := dp_str h2
      refine ⟨_, rfl, a, _, rfl, .inr hS, rfl, _, rfl, iteNS rfl ?_⟩
      refine ⟨_, rfl, a, _, _, _, rfl, rfl, hS, rfl, _, rfl, na, _, rfl, hn, rfl, flat_strs _, _, rfl, ?_⟩
      rw [inV_strs, decide_eq_true hx]
      refine iteF ?_
      refine ⟨_, rfl, a, _, rfl, hS, rfl, _, _, rfl, _, _, rfl, _, _, rfl, rfl, ?_⟩
      refine ⟨_, rfl, rfl, _, rfl, iteT ?_⟩
      exact ⟨_, rfl, _, rfl, _, _, e, names, rfl, h3, ⟨na, rfl, hn⟩, hN, he, q⟩
    · obtain ⟨a, x1, x2, x3, rfl, hS, h1, h2, h3⟩ := dp_tup3 hd
      obtain rfl := dp_str h1
      obtain rfl := dp_str h2
      obtain rfl := dp_str h3
      refine ⟨_, rfl, a, _, rfl, .inr hS, rfl, _, rfl, iteNS rfl ?_⟩
      refine ⟨_, rfl, a, _, _, _, rfl, rfl, hS, rfl, _, rfl, na, _, rfl, hn, rfl, flat_strs _, _, rfl, ?_⟩
      rw [inV_strs, decide_eq_true hx]
      refine iteF ?_
      refine ⟨_, rfl, a, _, rfl, hS, rfl, _, _, rfl, _, _, rfl, _, _, rfl, rfl, ?_⟩
      refine ⟨_, rfl, rfl, _, rfl, iteF ?_⟩
      refine ⟨_, rfl, _, rfl, na, _, rfl, hn, rfl, flat_strs _, _, rfl, ?_⟩
      rw [inV_strs, decide_eq_true hy]
      refine iteT ⟨_, rfl, _, rfl, rfl, ?_⟩
      rw [decide_eq_false fun z => hne (V.str.inj z)]
      exact q _ (Same.refl _)
/-- the names and the procedures a block may speak of -/
structure Bx (K : PySem.W.Frag) (H : Hp) (nv qv : V) (names procs : List Str) : Prop where
  n : Tl K H nv names
  p : Tl K H qv procs
  N : Names names
  P : Names procs
theorem Bx.same {H H' : Hp} {nv qv : V} {names procs : List Str} (h : Bx K H nv qv names procs) (s : Same H H') : Bx K H' nv qv names procs := ⟨h.n.same s, h.p.same s, h.N, h.P⟩
def sp_is_block (K : PySem.W.Frag) : Nat → Sp
  | 0 => fun _ _ _ _ => False
  | n + 1 => fun vs H Q _ => ∃ (v nv qv : V) (d : Int) (b : List Pg.St) (names procs : List Str), vs = [v, nv, qv, .int d] ∧ Dp K H v (bD b) ∧ Bx K H nv qv names procs ∧ blOk names procs n b ∧ d + n ≤ 8 ∧ blSz b ≤ 1000 ∧ ∀ H', Same H H' → Q (.bl true) H'
def sp_is_statement (K : PySem.W.Frag) (n : Nat) : Sp := fun vs H Q _ => ∃ (v nv qv : V) (d : Int) (s : Pg.St) (names procs : List Str), vs = [v, nv, qv, .int d] ∧ Dp K H v s.D ∧ Bx K H nv qv names procs ∧ St.Ok names procs n s ∧ d + n ≤ 8 ∧ s.sz ≤ 1000 ∧ ∀ H', Same H H' → Q (.bl true) H'
def _root_.Pg.St.comp : Pg.St → Bool
  | .ite .. => true
  | .whl .. => true
  | .rep .. => true
  | _ => false
def sp_is_compound (K : PySem.W.Frag) (n : Nat) : Sp := fun vs H Q _ => ∃ (v nv qv : V) (d : Int) (s : Pg.St) (names procs : List Str), vs = [v, nv, qv, .int d] ∧ Dp K H v s.D ∧ Bx K H nv qv names procs ∧ St.Ok names procs n s ∧ St.comp s = true ∧ d + n ≤ 8 ∧ s.sz ≤ 1000 ∧ ∀ H', Same H H' → Q (.bl true) H'
theorem ok_is_block (T : PgF K mg) {n : Nat} (hS : FnOk P w K mg base CX0 (3 * n + 9) T.f_is_statement T.fd_is_statement ["candidate", "names", "procedures", "depth"] (sp_is_statement K n)) :
    FnOk P w K mg base CX0 (3 * n + 10) T.f_is_block T.fd_is_block ["candidate", "names", "procedures", "depth"] (sp_is_block K (n + 1)) := by
  refine T.F_is_block.ok sc_is_block (fun vs H Q E h => ?_) (fun cdv A outer s H vs Q E hr h => ?_)
  · obtain ⟨v, nv, qv, d, b, names, procs, rfl, _⟩ := h
    rfl
  · obtain ⟨v, nv, qv, d, b, names, procs, rfl, hd, hx, ok, hdn, hsz, q⟩ := h
    have nd := sc_is_block.nd
    have hl := blSz_len b
    have tt := bD_tup hx.N hx.P ok
    obtain ⟨a, ys, rfl, hS1, hA⟩ := dp_tup hd
    have yl : ys.length = b.length := by rw [dpAll_len hA, List.length_map]
    refine ⟨_, (pss_cons (ps_if (PW.pt (pw_or (pt_not (pt_val (pe_callB call_isi (by rfl) T.m_isinstance (by decide +kernel) (pa_cons (pv 0) (pa_cons (pe_ty (n := "tuple") (by rfl) T.m_tuple (by decide +kernel)) pa_nil))))) (pw_or1 (pt_cmpR op_gt (pv 3) (pe_glob (v := .int 8) rfl T.c_MAX_DEPTH ⟨_, rfl⟩) (nomark _)))))
      (pss_one (ps_ret pe_bl))
      pss_nil)
      (pss_one (ps_ret (pe_callB (cr_all rfl) (by rfl) T.m_all (by decide +kernel) (pa_cons (pe_lc (own := [("statement", 4)]) (g := (gName 4)) (tt := tYes) rfl nd (pi_tup (pv 0)) (blkOk_by (N := N_is_block) (sc := defScope s_is_block) (by decide +kernel)) (fun _ _ _ _ _ => (pg_name (i := 4) nd rfl (.inl rfl))) (fun _ _ _ _ _ => pts_nil) (fun _ _ _ _ _ => (pe_call (hS.mono (by omega)) hr (by rfl) T.D_is_statement.g T.D_is_statement.kp T.D_is_statement.b .nil pass0 (pa_cons (pv 4) (pa_cons (pv 1) (pa_cons (pv 2) (pa_cons (pv 3) pa_nil))))))) pa_nil))))), ?_⟩
    refine ⟨_, rfl, .ref a, .ty "tuple", _, _, true, rfl, .ty _, tyx_tupS hS1, kit_ty (by decide +kernel), true, rfl, iteF ?_⟩
    refine ⟨_, rfl, _, _, rfl, rfl, _, rfl, ?_⟩
    rw [decide_eq_false (by omega)]
    refine iteF ?_
    refine ⟨_, rfl, a, rfl, ⟨_, hS1⟩, fun D nD => ?_⟩
    refine lc_it (walk_tup (K := K) (a := a) (xs := ys)) (Acc H D fun _ => V.bl true) (Acc.start nD) (fun i H' _ h => Same.sqt h.1 hS1) ?_ ?_
    · rintro i v H1 H2 hi h ⟨rfl, hv⟩
      obtain ⟨d', hd', hdp⟩ := dpAll_at hA hv
      rw [List.getElem?_map] at hd'
      obtain ⟨s, hs, rfl⟩ := Option.map_eq_some_iff.mp hd'
      have hm := List.mem_of_getElem? hs
      have oks := blOk_iff.mp ok s hm
      have := blSz_mem hm
      refine ⟨rfl, ?_⟩
      dsimp only [tYes]
      refine iteT ?_
      refine ⟨_, rfl, _, rfl, _, rfl, _, rfl, _, _, _, d, s, names, procs, rfl, dp_keep (Same.tk h.1) hdp (St.tup hx.N hx.P n s oks), hx.same h.1, oks, hdn, by omega, fun H3 s3 => ?_⟩
      exact h.turn nD s3 (by omega) rfl
    · rintro H1 h
      refine ⟨D, _, rfl, SqL.of (acc_true h), ?_⟩
      rw [all_true]
      exact q _ h.1
theorem ok_is_compound (T : PgF K mg) {m : Nat} (hB : FnOk P w K mg base CX0 (3 * m + 7) T.f_is_block T.fd_is_block ["candidate", "names", "procedures", "depth"] (sp_is_block K m)) :
    FnOk P w K mg base CX0 (3 * m + 8) T.f_is_compound T.fd_is_compound ["candidate", "names", "procedures", "depth"] (sp_is_compound K m) := by
  refine T.D_is_compound.F.ok sc_is_compound (fun vs H Q E h => ?_) (fun cdv A outer s H vs Q E hr h => ?_)
  · obtain ⟨v, nv, qv, d, s, names, procs, rfl, _⟩ := h
    rfl
  · obtain ⟨v, nv, qv, d, s, names, procs, rfl, hd, hx, ok, hc, hdn, hsz, q⟩ := h
    have nd := sc_is_compound.nd
    have ht := St.tup hx.N hx.P m s ok
    refine ⟨_, (pss_cons (ps_asg (pv 0) (pg_star rfl (pg_name (i := 4) nd rfl (.inl rfl)) (pg_name (i := 5) nd rfl (.inl rfl))))
      (pss_cons (ps_if (PW.pt (pw_or (pt_cmpR op_ne (pe_callB call_len_seq (by rfl) T.m_len PySem.boot_len (pa_cons (pv 5) pa_nil)) (pe_ifExp (pt_cmpR op_eq (pv 4) pe_str (nomark _)) pe_int pe_int) (nomark _)) (pw_or1 (pt_not (pt_val (pe_call ((ok_is_expression T).mono (by omega)) hr (by rfl) T.D_is_expression.g T.D_is_expression.kp T.D_is_expression.b .nil pass0 (pa_cons (pe_ix ix_list (pv 5) pe_int (fun _ _ => rfl)) (pa_cons (pv 1) pa_nil))))))))
      (pss_one (ps_ret pe_bl))
      pss_nil)
      (pss_one (ps_ret (pe_callB (cr_all rfl) (by rfl) T.m_all (by decide +kernel) (pa_cons (pe_lc (own := [("part", 6)]) (g := (gName 6)) (tt := tYes) rfl nd (pi_list (pe_slice sl_list (pv 5) (po_some pe_int) po_none)) (blkOk_by (N := N_is_compound) (sc := defScope s_is_compound) (by decide +kernel)) (fun _ _ _ _ _ => (pg_name (i := 6) nd rfl (.inl rfl))) (fun _ _ _ _ _ => pts_nil) (fun _ _ _ _ _ => (pe_call (hB.mono (by omega)) hr (by rfl) T.g_is_block T.F_is_block.kp T.b4_is_block .nil pass0 (pa_cons (pv 6) (pa_cons (pv 1) (pa_cons (pv 2) (pa_cons (pe_op op_add (pv 3) pe_int) pa_nil))))))) pa_nil)))))), ?_⟩
    obtain ⟨wd, e, bs, hD, he, hbs, hlen⟩ : ∃ (wd : Str) (e : Ex) (bs : List (List Pg.St)), s.D = .tuple (.str wd :: e.D :: bs.map bD) ∧ e.Ok names ∧ (∀ b ∈ bs, ∃ m', m = m' + 1 ∧ blOk names procs m' b ∧ blSz b ≤ 1000) ∧ ((wd = "if" ∧ bs.length = 2) ∨ (wd ≠ "if" ∧ bs.length = 1)) := by
      cases s with
      | set x e => cases hc
      | swap x y => cases hc
      | print e => cases hc
      | call p => cases hc
      | ite e a b =>
        obtain ⟨h1, m', rfl, h2, h3⟩ := ok
        simp only [St.sz] at hsz
        refine ⟨"if", e, [a, b], by simp only [St.D, blD_map]; rfl, h1, fun c hc => ?_, .inl ⟨rfl, rfl⟩⟩
        rcases List.mem_cons.mp hc with rfl | hc
        · exact ⟨m', rfl, h2, by omega⟩
        · rw [List.mem_singleton.mp hc]
          exact ⟨m', rfl, h3, by omega⟩
      | whl e b =>
        obtain ⟨h1, m', rfl, h2⟩ := ok
        simp only [St.sz] at hsz
        refine ⟨"while", e, [b], by simp only [St.D, blD_map]; rfl, h1, fun c hc => ?_, .inr ⟨by decide +kernel, rfl⟩⟩
        rw [List.mem_singleton.mp hc]
        exact ⟨m', rfl, h2, by omega⟩
      | rep e b =>
        obtain ⟨h1, m', rfl, h2⟩ := ok
        simp only [St.sz] at hsz
        refine ⟨"repeat", e, [b], by simp only [St.D, blD_map]; rfl, h1, fun c hc => ?_, .inr ⟨by decide +kernel, rfl⟩⟩
        rw [List.mem_singleton.mp hc]
        exact ⟨m', rfl, h2, by omega⟩
    rw [hD] at hd
    obtain ⟨a, zs, rfl, hS1, hA⟩ := dp_tup hd
    obtain ⟨ve, ys, rfl, hve, hys⟩ : ∃ ve ys, zs = .str wd :: ve :: ys ∧ Dp K H ve e.D ∧ DpAll K H ys (bs.map bD) := by
      cases hA with
      | cons x y =>
        obtain rfl := dp_str x
        cases y with
        | cons x2 y => exact ⟨_, _, rfl, x2, y⟩
    have yl : ys.length = bs.length := by rw [dpAll_len hys, List.length_map]
    have l2 : bs.length ≤ 2 := by rcases hlen with ⟨_, h⟩ | ⟨_, h⟩ <;> omega
    have te : tupD e.D = true := Ex.tup hx.N he
    have tb : ∀ b ∈ bs, tupD (bD b) = true := fun b hb => by
      obtain ⟨m', _, h, _⟩ := hbs b hb
      exact bD_tup hx.N hx.P h
    refine ⟨_, rfl, a, _, _, rfl, hS1, fun p np => ?_⟩
    have s1 := same_new (o := .lst (ve :: ys)) np
    generalize hH1 : upd H p (.lst (ve :: ys)) = H1 at s1 ⊢
    have hp : H1 p = some (.lst (ve :: ys)) := by rw [← hH1]; exact upd_same
    refine ⟨_, rfl, p, _, rfl, .inl (SqL.of hp), ?_⟩
    have ew : (decide (V.str wd = V.str "if")) = decide (wd = "if") := decide_eq_decide.mpr ⟨fun z => V.str.inj z, fun z => by rw [z]⟩
    have l3 : (ve :: ys).length = bs.length + 1 := by rw [List.length_cons, yl]
    have cut : cutV (ve :: ys) (some 1) none = ys := by
      show ((ve :: ys).drop (HT.sIx (ys.length + 1) 0 (some 1))).take _ = ys
      have e1 : HT.sIx (ys.length + 1) 0 (some 1) = 1 := by
        show (HT.sIx (ys.length + 1) 0 (some 1)) = 1
        unfold HT.sIx
        simp
      rw [e1]
      simp [HT.sIx]
    refine ⟨_, rfl, rfl, _, rfl, ?_⟩
    rw [ew]
    have hl : bs.length = if wd = "if" then 2 else 1 := by
      rcases hlen with ⟨h1, h2⟩ | ⟨h1, h2⟩
      · rw [if_pos h1, h2]
      · rw [if_neg h1, h2]
    refine ite2 (fun hw => ?_) (fun hw => ?_)
    all_goals
      first
        | rw [if_pos (of_decide_eq_true hw)] at hl
        | rw [if_neg fun z => hw (decide_eq_true z)] at hl
      refine ⟨rfl, _, rfl, ?_⟩
      rw [l3, hl]
      refine iteNS rfl ?_
      refine ⟨_, rfl, p, _, _, ve, rfl, rfl, SqL.of hp, atI_nat (j := 0) rfl, _, rfl, ve, nv, _, names, rfl, dp_keep (Same.tk s1) hve te, hx.n.same s1, hx.N, he, fun H2 s2 => ?_⟩
      refine ⟨true, rfl, iteF ?_⟩
      have s12 := s1.trans s2
      refine ⟨_, rfl, ⟨_, rfl, p, _, rfl, SqL.of (s2 _ _ hp), fun p2 np2 => ?_⟩⟩
      rw [cut]
      have s3 := s12.trans (same_new (o := .lst ys) np2)
      generalize hH3 : upd H2 p2 (.lst ys) = H3 at s3 ⊢
      have hp2 : H3 p2 = some (.lst ys) := by rw [← hH3]; exact upd_same
      refine ⟨p2, rfl, ⟨_, SqL.of hp2⟩, fun D nD => ?_⟩
      refine lc_it (walk_list (K := K) (a := p2) (xs := ys)) (Acc H3 D fun _ => V.bl true) (Acc.start nD) (fun i H' _ h => SqL.of (h.1 _ _ hp2)) ?_ ?_
      · rintro i v H4 H5 hi h ⟨rfl, hv⟩
        obtain ⟨d', hd', hdp⟩ := dpAll_at hys hv
        rw [List.getElem?_map] at hd'
        obtain ⟨b, hb, rfl⟩ := Option.map_eq_some_iff.mp hd'
        have hm := List.mem_of_getElem? hb
        obtain ⟨m', rfl, okb, szb⟩ := hbs b hm
        refine ⟨rfl, ?_⟩
        dsimp only [tYes]
        refine iteT ?_
        refine ⟨_, rfl, _, rfl, _, rfl, _, rfl, _, _, rfl, rfl, _, _, _, d + 1, b, names, procs, rfl, dp_keep (Same.tk (s3.trans h.1)) hdp (tb b hm), hx.same (s3.trans h.1), okb, by omega, szb, fun H6 s6 => ?_⟩
        exact h.turn nD s6 (by omega) rfl
      · rintro H4 h
        refine ⟨D, _, rfl, SqL.of (acc_true h), ?_⟩
        rw [all_true]
        exact q _ (s3.trans h.1)
theorem ok_is_statement (T : PgF K mg) {n : Nat} (hC : FnOk P w K mg base CX0 (3 * n + 8) T.f_is_compound T.fd_is_compound ["candidate", "names", "procedures", "depth"] (sp_is_compound K n)) :
    FnOk P w K mg base CX0 (3 * n + 9) T.f_is_statement T.fd_is_statement ["candidate", "names", "procedures", "depth"] (sp_is_statement K n) := by
  refine T.D_is_statement.F.ok sc_is_statement (fun vs H Q E h => ?_) (fun cdv A outer s H vs Q E hr h => ?_)
  · obtain ⟨v, nv, qv, d, s, names, procs, rfl, _⟩ := h
    rfl
  · obtain ⟨v, nv, qv, d, s, names, procs, rfl, hd, hx, ok, hdn, hsz, q⟩ := h
    have nd := sc_is_statement.nd
    have hd0 := hd
    obtain ⟨wd, ds, hD⟩ : ∃ (wd : Str) (ds : List PyData), s.D = .tuple (.str wd :: ds) := by cases s <;> exact ⟨_, _, by simp only [St.D]; rfl⟩
    rw [hD] at hd
    obtain ⟨a, zs, rfl, hS1, hA⟩ := dp_tup hd
    obtain ⟨ys, rfl, hys⟩ : ∃ ys, zs = .str wd :: ys ∧ DpAll K H ys ds := by
      cases hA with
      | cons x y =>
        obtain rfl := dp_str x
        exact ⟨_, rfl, y⟩
    refine ⟨_, (pss_cons (ps_if (PW.pt (pw_or (pt_not (pt_val (pe_callB call_isi (by rfl) T.m_isinstance (by decide +kernel) (pa_cons (pv 0) (pa_cons (pe_ty (n := "tuple") (by rfl) T.m_tuple (by decide +kernel)) pa_nil))))) (pw_or1 (pt_not (pt_truth (pv 0) (by intro _; rfl))))))
      (pss_one (ps_ret pe_bl))
      pss_nil)
      (pss_cons (ps_set (i := 4) nd rfl (.inl rfl) (pe_ix (r := rIxT K) ix_tup (pv 0) pe_int (fun _ _ => rfl)))
      (pss_cons (ps_if (pt_cmpR op_in_seq (pv 4) (pe_glob (v := .ref T.a_COMPOUND) rfl T.g_COMPOUND rfl) (by with_unfolding_all rfl))
      (pss_one (ps_ret (pe_call (hC.mono (by omega)) hr (by rfl) T.D_is_compound.g T.D_is_compound.kp T.D_is_compound.b .nil pass0 (pa_cons (pv 0) (pa_cons (pv 1) (pa_cons (pv 2) (pa_cons (pv 3) pa_nil)))))))
      pss_nil)
      (pss_cons (ps_if (pt_cmpR op_in_seq (pv 4) (pe_tup (pa_cons pe_str (pa_cons pe_str pa_nil))) (by with_unfolding_all rfl))
      (pss_one (ps_ret (pe_call ((ok_is_writing T).mono (by omega)) hr (by rfl) T.D_is_writing.g T.D_is_writing.kp T.D_is_writing.b .nil pass0 (pa_cons (pv 0) (pa_cons (pv 1) pa_nil)))))
      pss_nil)
      (pss_cons (ps_if (pt_cmpR op_ne (pe_callB call_len_seq (by rfl) T.m_len PySem.boot_len (pa_cons (pv 0) pa_nil)) pe_int (nomark _))
      (pss_one (ps_ret pe_bl))
      pss_nil)
      (pss_cons (ps_if (pt_cmpR op_eq (pv 4) pe_str (nomark _))
      (pss_one (ps_ret (pe_call ((ok_is_expression T).mono (by omega)) hr (by rfl) T.D_is_expression.g T.D_is_expression.kp T.D_is_expression.b .nil pass0 (pa_cons (pe_ix (r := rIxT K) ix_tup (pv 0) pe_int (fun _ _ => rfl)) (pa_cons (pv 1) pa_nil)))))
      pss_nil)
      (pss_one (ps_ret (pe_and (pe_cmpR op_eq (pv 4) pe_str (nomark _)) (pe_one (pe_cmpR op_in_seq (pe_ix (r := rIxT K) ix_tup (pv 0) pe_int (fun _ _ => rfl)) (pv 2) (by with_unfolding_all rfl)))))))))))), ?_⟩
    refine ⟨_, rfl, .ref a, .ty "tuple", _, _, true, rfl, .ty _, tyx_tupS hS1, kit_ty (by decide +kernel), true, rfl, iteF ?_⟩
    refine ⟨_, rfl, true, .inr (.inl ⟨_, hS1, rfl⟩), iteF ?_⟩
    refine ⟨_, rfl, a, _, _, _, rfl, rfl, hS1, atI_nat (j := 0) rfl, ?_⟩
    refine ⟨_, rfl, T.a_COMPOUND, _, rfl, .inr (T.w_COMPOUND _), rfl, flat_strs _, _, rfl, ?_⟩
    rw [inV_strs]
    have lp2 : (2 : Nat) ≤ sizeLine := by rw [sizeLine_eq]; omega
    cases hc : s.comp with
    | true =>
      have hw : wd ∈ compound := by
        cases s <;> first | (simp only [St.D, PyData.tuple.injEq, List.cons.injEq, PyData.str.injEq] at hD; rw [← hD.1]; decide +kernel) | cases hc
      rw [decide_eq_true hw]
      refine iteT ?_
      exact ⟨_, rfl, _, rfl, _, rfl, _, rfl, _, _, _, d, s, names, procs, rfl, hd0, hx, ok, hc, hdn, hsz, q⟩
    | false =>
      have hw : wd ∉ compound := by
        cases s <;> first | (simp only [St.D, PyData.tuple.injEq, List.cons.injEq, PyData.str.injEq] at hD; rw [← hD.1]; decide +kernel) | cases hc
      rw [decide_eq_false hw]
      refine iteF ?_
      refine ⟨_, rfl, lp2, fun p np => ?_⟩
      have s1 := same_new (o := .tup [.str "set", .str "swap"]) np
      generalize hH1 : upd H p (.tup [.str "set", .str "swap"]) = H1 at s1 ⊢
      have hp : SqT K H1 p (([("set" : Str), "swap"] : List Str).map V.str) := by rw [← hH1]; exact SqT.of upd_same
      refine ⟨p, _, rfl, .inr hp, rfl, flat_strs _, _, rfl, ?_⟩
      rw [inV_strs]
      have q1 : ∀ H', Same H1 H' → Q (.bl true) H' := fun H' s2 => q H' (s1.trans s2)
      have hS2 := Same.sqt s1 hS1
      have tt := St.tup hx.N hx.P n s ok
      have hd1 := dp_keep (Same.tk s1) hd0 tt
      have yl := dpAll_len hys
      cases s with
      | ite => cases hc
      | whl => cases hc
      | rep => cases hc
      | set x e =>
        simp only [St.D, PyData.tuple.injEq, List.cons.injEq, PyData.str.injEq] at hD
        obtain ⟨rfl, rfl⟩ := hD
        refine iteT ?_
        exact ⟨_, rfl, _, rfl, _, nv, .set x e, names, rfl, hd1, hx.n.same s1, hx.N, .inl ⟨x, e, rfl, ok.1, ok.2⟩, q1⟩
      | swap x y =>
        simp only [St.D, PyData.tuple.injEq, List.cons.injEq, PyData.str.injEq] at hD
        obtain ⟨rfl, rfl⟩ := hD
        refine iteT ?_
        exact ⟨_, rfl, _, rfl, _, nv, .swap x y, names, rfl, hd1, hx.n.same s1, hx.N, .inr ⟨x, y, rfl, ok.1, ok.2.1, ok.2.2⟩, q1⟩
      | print e =>
        simp only [St.D, PyData.tuple.injEq, List.cons.injEq, PyData.str.injEq] at hD
        obtain ⟨rfl, rfl⟩ := hD
        refine iteF ?_
        obtain ⟨y1, rfl, hy⟩ : ∃ y1, ys = [y1] ∧ Dp K H y1 e.D := by
          cases hys with
          | cons x y => cases y; exact ⟨_, rfl, x⟩
        refine ⟨_, rfl, a, _, rfl, .inr hS2, rfl, _, rfl, iteNS rfl ?_⟩
        refine ⟨_, rfl, rfl, _, rfl, iteT ?_⟩
        exact ⟨_, rfl, a, _, _, _, rfl, rfl, hS2, atI_nat (j := 1) rfl, _, rfl, y1, nv, e, names, rfl, dp_keep (Same.tk s1) hy (Ex.tup hx.N ok), hx.n.same s1, hx.N, ok, q1⟩
      | call x =>
        simp only [St.D, PyData.tuple.injEq, List.cons.injEq, PyData.str.injEq] at hD
        obtain ⟨rfl, rfl⟩ := hD
        refine iteF ?_
        obtain ⟨y1, rfl, hy⟩ : ∃ y1, ys = [y1] ∧ Dp K H y1 (.str x) := by
          cases hys with
          | cons x y => cases y; exact ⟨_, rfl, x⟩
        obtain rfl := dp_str hy
        obtain ⟨pa, rfl, hp2⟩ := hx.p.same s1
        refine ⟨_, rfl, a, _, rfl, .inr hS2, rfl, _, rfl, iteNS rfl ?_⟩
        refine ⟨_, rfl, rfl, _, rfl, iteF ?_⟩
        refine ⟨_, rfl, rfl, _, rfl, iteT ?_⟩
        refine ⟨_, rfl, a, _, _, _, rfl, rfl, hS2, atI_nat (j := 1) rfl, _, rfl, pa, _, rfl, hp2, rfl, flat_strs _, ?_⟩
        rw [inV_strs, decide_eq_true (show x ∈ procs from ok)]
        exact q1 _ (Same.refl _)
/-- all three, by the depth -/
theorem ok_blocks (T : PgF K mg) : ∀ n : Nat, FnOk P w K mg base CX0 (3 * n + 7) T.f_is_block T.fd_is_block ["candidate", "names", "procedures", "depth"] (sp_is_block K n)
  | 0 => FnOk.none
  | n + 1 => ok_is_block T (ok_is_statement T (ok_is_compound T (ok_blocks T n)))
end
end Sp1

set_option Elab.async false
set_option linter.all false
set_option maxRecDepth 100000
set_option maxHeartbeats 4000000
namespace Pg
open PySem
abbrev Pr := Str × List St
def prD (p : Pr) : PyData := .tuple [.str p.1, bD p.2]
def prsD (ps : List Pr) : PyData := .tuple (ps.map prD)
structure PrsOk (names : List Str) (ps : List Pr) : Prop where
  N : Names (ps.map (·.1))
  nd : (ps.map (·.1)).Nodup
  len : ps.length ≤ 6
  bl : ∀ p ∈ ps, blOk names (ps.map (·.1)) 7 p.2 ∧ blSz p.2 ≤ 1000
theorem prD_tup {names : List Str} {ps : List Pr} (hN : Names names) (h : PrsOk names ps) {p : Pr} (hp : p ∈ ps) : tupD (prD p) = true := by
  have h1 := (h.N p.1 (List.mem_map.mpr ⟨p, hp, rfl⟩)).tup
  have h2 := bD_tup hN h.N (h.bl p hp).1
  unfold prD
  rw [tupD_tuple, tupAll, tupAll, tupAll, h1, h2]
  rfl
theorem prsD_tup {names : List Str} {ps : List Pr} (hN : Names names) (h : PrsOk names ps) : tupD (prsD ps) = true := by
  unfold prsD
  rw [tupD_tuple]
  exact tupAll_iff.mpr fun d hd => by
    obtain ⟨p, hp, rfl⟩ := List.mem_map.mp hd
    exact prD_tup hN h hp
end Pg
namespace Sp1
open PySem PySem.Spec PyProof.Rows L2 Pg
section
variable {P : Program} {w : World} {K : PySem.W.Frag} {mg : Str → Option Value} {base : Heap}
theorem dp_prD {H : Hp} {v : V} {p : Pr} (h : Dp K H v (prD p)) : ∃ a y, v = .ref a ∧ SqT K H a [.str p.1, y] ∧ Dp K H y (bD p.2) := by
  obtain ⟨a, x1, x2, rfl, hS, h1, h2⟩ := dp_tup2 h
  obtain rfl := dp_str h1
  exact ⟨a, x2, rfl, hS, h2⟩
def sp_are_procedures (K : PySem.W.Frag) : Sp := fun vs H Q _ => ∃ (v nv : V) (ps : List Pr) (names : List Str), vs = [v, nv] ∧ Dp K H v (prsD ps) ∧ Tl K H nv names ∧ Names names ∧ PrsOk names ps ∧ ∀ H', Same H H' → Q (.bl true) H'
theorem ok_are_procedures (T : PgF K mg) : FnOk P w K mg base CX0 32 T.f_are_procedures T.fd_are_procedures ["candidate", "names"] (sp_are_procedures K) := by
  refine T.D_are_procedures.F.ok sc_are_procedures (fun vs H Q E h => ?_) (fun cdv A outer s H vs Q E hr h => ?_)
  · obtain ⟨v, nv, ps, names, rfl, _⟩ := h
    rfl
  · obtain ⟨v, nv, ps, names, rfl, hd, hn, hN, ok, q⟩ := h
    have nd := sc_are_procedures.nd
    have h6 := ok.len
    obtain ⟨a, ys, rfl, hS1, hA⟩ := dp_tup hd
    have yl : ys.length = ps.length := by rw [dpAll_len hA, List.length_map]
    have item : ∀ {i : Nat} {v : V} {H' : Hp}, Same H H' → ys[i]? = some v → ∃ p b y, ps[i]? = some p ∧ v = .ref b ∧ SqT K H' b [.str p.1, y] ∧ Dp K H' y (bD p.2) := fun {i v H'} s hv => by
      obtain ⟨d', hd', hdp⟩ := dpAll_at hA hv
      rw [List.getElem?_map] at hd'
      obtain ⟨p, hp, rfl⟩ := Option.map_eq_some_iff.mp hd'
      obtain ⟨b, y, e, h1, h2⟩ := dp_prD (dp_keep (Same.tk s) hdp (prD_tup hN ok (List.mem_of_getElem? hp)))
      exact ⟨p, b, y, hp, e, h1, h2⟩
    refine ⟨_, (pss_cons (ps_if (PW.pt (pw_or (pt_not (pt_val (pe_callB call_isi (by rfl) T.m_isinstance (by decide +kernel) (pa_cons (pv 0) (pa_cons (pe_ty (n := "tuple") (by rfl) T.m_tuple (by decide +kernel)) pa_nil))))) (pw_or1 (pt_cmpR op_gt (pe_callB call_len_seq (by rfl) T.m_len PySem.boot_len (pa_cons (pv 0) pa_nil)) (pe_glob (v := .int 6) rfl T.c_MAX_PROCEDURES ⟨_, rfl⟩) (nomark _)))))
      (pss_one (ps_ret pe_bl))
      pss_nil)
      (pss_cons (ps_if (pt_not (pt_val (pe_callB (cr_all rfl) (by rfl) T.m_all (by decide +kernel) (pa_cons (pe_lc (own := [("procedure", 3)]) (g := (gName 3)) (tt := tYes) rfl nd (pi_tup (pv 0)) (blkOk_by (N := N_are_procedures) (sc := defScope s_are_procedures) (by decide +kernel)) (fun _ _ _ _ _ => (pg_name (i := 3) nd rfl (.inl rfl))) (fun _ _ _ _ _ => pts_nil) (fun _ _ _ _ _ => (pe_and (pe_callB (r := rIsi K) (id := "isinstance") call_isi (by rfl) T.m_isinstance (by decide +kernel) (pa_cons (pv 3) (pa_cons (pe_ty (n := "tuple") (by rfl) T.m_tuple (by decide +kernel)) pa_nil))) (pe_one (pe_cmpR op_eq (pe_callB (r := rLenSq K) call_len_seq (by rfl) T.m_len PySem.boot_len (pa_cons (pv 3) pa_nil)) pe_int (nomark _)))))) pa_nil))))
      (pss_one (ps_ret pe_bl))
      pss_nil)
      (pss_cons (ps_set (i := 2) nd rfl (.inr rfl) (pe_callTy call_tuple_of (by rfl) T.m_tuple (by decide +kernel) (pa_cons (pe_lc (own := [("name", 4), ("_", 5)]) (g := (gTup K 2 (gCons (gName 4) (gCons (gName 5) gNil)))) (tt := tYes) rfl nd (pi_tup (pv 0)) (blkOk_by (N := N_are_procedures) (sc := defScope s_are_procedures) (by decide +kernel)) (fun _ _ _ _ _ => (pg_tup rfl (pgs_cons (pg_name (i := 4) nd rfl (.inl rfl)) (pgs_cons (pg_name (i := 5) nd rfl (.inl rfl)) pgs_nil)))) (fun _ _ _ _ _ => pts_nil) (fun _ _ _ _ _ => (pv 4))) pa_nil)))
      (pss_one (ps_ret (pe_and (pe_call ((ok_are_names T).mono (by decide)) hr (by rfl) T.D_are_names.g T.D_are_names.kp T.D_are_names.b .nil pass0 (pa_cons (pv 2) pa_nil)) (pe_one (pe_callB (cr_all rfl) (by rfl) T.m_all (by decide +kernel) (pa_cons (pe_lc (own := [("_", 5), ("block", 6)]) (g := (gTup K 2 (gCons (gName 5) (gCons (gName 6) gNil)))) (tt := tYes) rfl nd (pi_tup (pv 0)) (blkOk_by (N := N_are_procedures) (sc := defScope s_are_procedures) (by decide +kernel)) (fun _ _ _ _ _ => (pg_tup rfl (pgs_cons (pg_name (i := 5) nd rfl (.inl rfl)) (pgs_cons (pg_name (i := 6) nd rfl (.inl rfl)) pgs_nil)))) (fun _ _ _ _ _ => pts_nil) (fun _ _ _ _ _ => (pe_call ((ok_blocks T 8).mono (by decide)) hr (by rfl) T.g_is_block T.F_is_block.kp T.b3_is_block T.v3_is_block pass0 (pa_cons (pv 6) (pa_cons (pv 1) (pa_cons (pv 2) pa_nil)))))) pa_nil))))))))), ?_⟩
    refine ⟨_, rfl, .ref a, .ty "tuple", _, _, true, rfl, .ty _, tyx_tupS hS1, kit_ty (by decide +kernel), true, rfl, iteF ?_⟩
    refine ⟨_, rfl, a, _, rfl, .inr hS1, ?_⟩
    refine ⟨_, _, rfl, rfl, _, rfl, ?_⟩
    rw [decide_eq_false (by omega)]
    refine iteF ?_
    refine ⟨_, rfl, a, rfl, ⟨_, hS1⟩, fun D nD => ?_⟩
    refine lc_it (walk_tup (K := K) (a := a) (xs := ys)) (Acc H D fun _ => V.bl true) (Acc.start nD) (fun i H' _ h => Same.sqt h.1 hS1) ?_ ?_
    · rintro i v H1 H2 hi h ⟨rfl, hv⟩
      obtain ⟨p, b, y, hp, rfl, h1, h2⟩ := item h.1 hv
      refine ⟨rfl, ?_⟩
      dsimp only [tYes]
      refine iteT ?_
      refine ⟨_, rfl, .ref b, .ty "tuple", _, _, true, rfl, .ty _, tyx_tupS h1, kit_ty (by decide +kernel), true, rfl, iteT ?_⟩
      refine ⟨_, rfl, b, _, rfl, .inr h1, rfl, ?_⟩
      exact h.turn nD (Same.refl _) (by omega) rfl
    · rintro H1 h
      refine ⟨D, _, rfl, SqL.of (acc_true h), true, by rw [all_true], iteF ?_⟩
      refine ⟨_, rfl, a, rfl, ⟨_, Same.sqt h.1 hS1⟩, fun D2 nD2 => ?_⟩
      refine lc_it (walk_tup (K := K) (a := a) (xs := ys)) (Acc H1 D2 fun i => (((ps.map (·.1)).map V.str)[i]?).getD .non) (Acc.start nD2) (fun i H' _ h' => Same.sqt (h.1.trans h'.1) hS1) ?_ ?_
      · rintro i v H3 H4 hi h' ⟨rfl, hv⟩
        obtain ⟨p, b, y, hp, rfl, h1, h2⟩ := item (h.1.trans h'.1) hv
        refine ⟨b, _, rfl, h1, rfl, _, _, rfl, _, _, rfl, rfl, rfl, ?_⟩
        dsimp only [tYes]
        refine iteT ⟨_, rfl, ?_⟩
        refine h'.turn nD2 (Same.refl _) (by omega) ?_
        rw [List.getElem?_map, List.getElem?_map, hp]
        rfl
      · rintro H3 h'
        have hD2 := acc_get h' (by rw [List.length_map, List.length_map, yl])
        have hsame := h.1.trans h'.1
        refine ⟨D2, _, rfl, .inl ⟨SqL.of hD2, fun t nt => ?_⟩⟩
        have s4 := hsame.trans (same_new (o := .tup ((ps.map (·.1)).map V.str)) nt)
        generalize hH4 : upd H3 t (.tup ((ps.map (·.1)).map V.str)) = H4 at s4 ⊢
        have hts : SqT K H4 t ((ps.map (·.1)).map V.str) := by rw [← hH4]; exact SqT.of upd_same
        refine ⟨_, rfl, .ref t, ps.map (·.1), rfl, ⟨t, rfl, hts⟩, ok.N, ok.nd, by rw [List.length_map]; omega, fun H5 s5 => ?_⟩
        refine ⟨true, rfl, iteT ?_⟩
        have s6 := s4.trans s5
        refine ⟨_, rfl, a, rfl, ⟨_, Same.sqt s6 hS1⟩, fun D3 nD3 => ?_⟩
        refine lc_it (walk_tup (K := K) (a := a) (xs := ys)) (Acc H5 D3 fun _ => V.bl true) (Acc.start nD3) (fun i H' _ h => Same.sqt (s6.trans h.1) hS1) ?_ ?_
        · rintro i v H7 H8 hi h8 ⟨rfl, hv⟩
          obtain ⟨p, b, y, hp, rfl, h1, h2⟩ := item (s6.trans h8.1) hv
          have hm := List.mem_of_getElem? hp
          refine ⟨b, _, rfl, h1, rfl, _, _, rfl, _, _, rfl, rfl, rfl, ?_⟩
          dsimp only [tYes]
          refine iteT ?_
          refine ⟨_, rfl, _, rfl, _, rfl, y, nv, .ref t, 1, p.2, names, ps.map (·.1), rfl, h2, ⟨hn.same (s6.trans h8.1), ⟨t, rfl, .inr (Same.sqt (s5.trans h8.1) hts)⟩, hN, ok.N⟩, (ok.bl p hm).1, by decide, (ok.bl p hm).2, fun H9 s9 => ?_⟩
          exact h8.turn nD3 s9 (by omega) rfl
        · rintro H7 h8
          refine ⟨D3, _, rfl, SqL.of (acc_true h8), ?_⟩
          rw [all_true]
          exact q _ (s6.trans h8.1)
end
end Sp1

set_option Elab.async false
set_option linter.all false
set_option maxRecDepth 100000
set_option maxHeartbeats 4000000
namespace Pg
open PySem
mutual
theorem code_len : ∀ (s : St) (n : Int), (s.code n).length = s.sz
  | .ite e a b, n => by
    simp only [St.code, St.sz, List.length_cons, List.length_append, List.length_nil, blCode_len a, blCode_len b]
    omega
  | .whl e b, n => by
    simp only [St.code, St.sz, List.length_cons, List.length_append, List.length_nil, blCode_len b]
    omega
  | .rep e b, n => by
    simp only [St.code, St.sz, List.length_cons, List.length_append, List.length_nil, blCode_len b]
    omega
  | .set x e, n => by simp [St.code, St.sz]
  | .swap x y, n => by simp [St.code, St.sz]
  | .print e, n => by simp [St.code, St.sz]
  | .call x, n => by simp [St.code, St.sz]
theorem blCode_len : ∀ (b : List St) (n : Int), (blCode b n).length = blSz b
  | [], n => by simp [blCode, blSz]
  | s :: r, n => by simp only [blCode, blSz, List.length_append, code_len s, blCode_len r]
end
theorem tupAll_app {xs ys : List PyData} : tupAll (xs ++ ys) = (tupAll xs && tupAll ys) := by
  induction xs with
  | nil => simp [tupAll]
  | cons x r ih => simp [tupAll, ih, Bool.and_assoc]
theorem tupD_int (i : Int) : tupD (.int i) = true := by rw [tupD]
theorem go_tup (n k : Int) : tupD (goD n k) = true := by
  have a : tupD (.str "go") = true := by decide +kernel
  unfold goD
  simp only [tupD_tuple, tupAll, a, tupD_int]
  rfl
theorem test_tup {d : PyData} (h : tupD d = true) (n : Int) : tupD (.tuple [.str "test", d, .int n]) = true := by
  have a : tupD (.str "test") = true := by decide +kernel
  simp only [tupD_tuple, tupAll, a, tupD_int, h]
  rfl
mutual
theorem code_tup {names procs : List Str} (hN : Names names) (hP : Names procs) : ∀ (n : Nat) (s : St) (k : Int), St.Ok names procs n s → tupAll (s.code k) = true
  | n, .set x e, k, h => by
    have := St.tup hN hP n _ h
    simp only [St.code, tupAll, this]
    rfl
  | n, .swap x e, k, h => by
    have := St.tup hN hP n _ h
    simp only [St.code, tupAll, this]
    rfl
  | n, .print e, k, h => by
    have := St.tup hN hP n _ h
    simp only [St.code, tupAll, this]
    rfl
  | n, .call e, k, h => by
    have := St.tup hN hP n _ h
    simp only [St.code, tupAll, this]
    rfl
  | n, .ite e a b, k, h => by
    obtain ⟨h1, m, _, h2, h3⟩ := h
    have h1 := Ex.tup hN h1
    simp only [St.code, tupAll, tupAll_app, test_tup h1, go_tup, blCode_tup hN hP m a _ h2, blCode_tup hN hP m b _ h3]
    rfl
  | n, .whl e b, k, h => by
    obtain ⟨h1, m, _, h2⟩ := h
    have h1 := Ex.tup hN h1
    simp only [St.code, tupAll, tupAll_app, test_tup h1, go_tup, blCode_tup hN hP m b _ h2]
    rfl
  | n, .rep e b, k, h => by
    obtain ⟨h1, m, _, h2⟩ := h
    have h1 := Ex.tup hN h1
    have a1 : tupD (.str "begin") = true := by decide +kernel
    have a2 : tupD (.str "turn") = true := by decide +kernel
    have a3 : tupD (.str "again") = true := by decide +kernel
    have a4 : ∀ i, tupD (.int i) = true := fun i => by rw [tupD]
    simp only [St.code, tupAll, tupD_tuple, tupAll_app, h1, a1, a2, a3, a4, blCode_tup hN hP m b _ h2]
    rfl
theorem blCode_tup {names procs : List Str} (hN : Names names) (hP : Names procs) : ∀ (n : Nat) (b : List St) (k : Int), blOk names procs n b → tupAll (blCode b k) = true
  | n, [], k, _ => by simp [blCode, tupAll]
  | n, s :: r, k, h => by simp only [blCode, tupAll_app, code_tup hN hP n s k h.1, blCode_tup hN hP n r _ h.2, Bool.and_self]
end
theorem blCode_snoc : ∀ (b : List St) (s : St) (n : Int), blCode (b ++ [s]) n = blCode b n ++ s.code (n + (blCode b n).length)
  | [], s, n => by simp [blCode]
  | x :: r, s, n => by
    simp only [List.cons_append, blCode, blCode_snoc r s, List.append_assoc, List.length_append]
    congr 3
    push_cast
    omega
theorem blSz_app : ∀ (a b : List St), blSz (a ++ b) = blSz a + blSz b
  | [], b => by simp [blSz]
  | x :: r, b => by simp only [List.cons_append, blSz, blSz_app r b]; omega
theorem blSz_take (b : List St) (i : Nat) : blSz (b.take i) ≤ blSz b := by
  have := blSz_app (b.take i) (b.drop i)
  rw [List.take_append_drop] at this
  omega
end Pg
namespace Sp1
open PySem PySem.Spec PyProof.Rows L2 Pg
section
variable {P : Program} {w : World} {K : PySem.W.Frag} {mg : Str → Option Value} {base : Heap}
def sp_block_code (K : PySem.W.Frag) : Nat → Sp
  | 0 => fun _ _ _ _ => False
  | n + 1 => fun vs H Q _ => ∃ (v : V) (k : Int) (b : List Pg.St) (names procs : List Str), vs = [v, .int k] ∧ Dp K H v (bD b) ∧ Names names ∧ Names procs ∧ blOk names procs n b ∧ blSz b ≤ 1000 ∧
    ∀ H' p xs, Same H H' → H p = none → H' p = some (.lst xs) → DpAll K H' xs (blCode b k) → Q (.ref p) H'
def sp_statement_code (K : PySem.W.Frag) (n : Nat) : Sp := fun vs H Q _ => ∃ (v : V) (k : Int) (s : Pg.St) (names procs : List Str), vs = [v, .int k] ∧ Dp K H v s.D ∧ Names names ∧ Names procs ∧ St.Ok names procs n s ∧ s.sz ≤ 1000 ∧
    ∀ H' p xs, Same H H' → H p = none → H' p = some (.lst xs) → DpAll K H' xs (s.code k) → Q (.ref p) H'
theorem ok_block_code (T : PgF K mg) {n : Nat} (hS : FnOk P w K mg base CX0 (3 * n + 3) T.f_statement_code T.fd_statement_code ["statement", "start"] (sp_statement_code K n)) :
    FnOk P w K mg base CX0 (3 * n + 4) T.f_block_code T.fd_block_code ["block", "start"] (sp_block_code K (n + 1)) := by
  refine T.D_block_code.F.ok sc_block_code (fun vs H Q E h => ?_) (fun cdv A outer s H vs Q E hr h => ?_)
  · obtain ⟨v, k, b, names, procs, rfl, _⟩ := h
    rfl
  · obtain ⟨v, k, b, names, procs, rfl, hd, hN, hP, ok, hsz, q⟩ := h
    have nd := sc_block_code.nd
    have hl := blSz_len b
    obtain ⟨a, ys, rfl, hS1, hA⟩ := dp_tup hd
    have yl : ys.length = b.length := by rw [dpAll_len hA, List.length_map]
    refine ⟨_, (pss_cons (ps_set (i := 2) nd rfl (.inl rfl) (pe_lst pa_nil))
      (pss_cons (ps_for PassesOwn.never rfl (pi_tup (pv 0)) (pg_name (i := 3) nd rfl (.inl rfl))
      (pss_one (ps_expr (pe_bm PySem.F.plainAttrs_list PySem.F.slot_list_extend PySem.F.type_list_extend mt_extend (pv 2) (pa_cons (pe_call (hS.mono (by omega)) hr (by rfl) T.D_statement_code.g T.D_statement_code.kp T.D_statement_code.b .nil pass0 (pa_cons (pv 3) (pa_cons (pe_op op_add (pv 1) (pe_callB call_len_seq (by rfl) T.m_len PySem.boot_len (pa_cons (pv 2) pa_nil))) pa_nil))) pa_nil)))))
      (pss_one (ps_ret (pv 2))))), ?_⟩
    refine ⟨by rw [sizeLine_eq]; show 0 ≤ _; omega, fun c nc => ?_⟩
    have s0 : Same H (upd H c (.lst [])) := same_new nc
    refine ⟨_, rfl, a, rfl, ⟨_, Same.sqt s0 hS1⟩, for_tup (K := K) (a := a) (xs := ys)
      (fun i σ H' => Same H H' ∧ ∃ xs y, σ = [some (.ref a), some (.int k), some (.ref c), y] ∧ H' c = some (.lst xs) ∧ DpAll K H' xs (blCode (b.take i) k)) ⟨s0, [], none, rfl, upd_same, .nil⟩ (fun i σ H' _ h => Same.sqt h.1 hS1) ?_ ?_⟩
    · rintro i x σ H1 hx ⟨s1, xs, y, rfl, hc, hxs⟩
      obtain ⟨d', hd', hdp⟩ := dpAll_at hA hx
      rw [List.getElem?_map] at hd'
      obtain ⟨s, hs, rfl⟩ := Option.map_eq_some_iff.mp hd'
      have hm := List.mem_of_getElem? hs
      have oks := blOk_iff.mp ok s hm
      have := blSz_mem hm
      have htk : b.take (i + 1) = b.take i ++ [s] := by rw [List.take_add_one, hs]; rfl
      have hsz1 := blSz_take b (i + 1)
      rw [htk, blSz_app] at hsz1
      simp only [blSz] at hsz1
      have xl := dpAll_len hxs
      have okt : blOk names procs n (b.take i) := blOk_iff.mpr fun t ht => blOk_iff.mp ok t (List.mem_of_mem_take ht)
      refine ⟨_, rfl, .inl ⟨rfl, _, SqL.of hc⟩, ?_⟩
      refine ⟨_, rfl, _, rfl, _, rfl, c, xs, rfl, .inl (SqL.of hc), ?_⟩
      refine ⟨_, _, rfl, rfl, ?_⟩
      refine ⟨x, _, s, names, procs, rfl, dp_keep (Same.tk s1) hdp (St.tup hN hP n s oks), hN, hP, oks, by omega, fun H2 p zs s2 np hp hzs => ?_⟩
      have zl := dpAll_len hzs
      rw [code_len] at zl
      rw [blCode_len] at xl
      refine ⟨c, p, xs, zs, rfl, rfl, s2 _ _ hc, hp, by rw [sizeLine_eq]; omega, ?_⟩
      have ncH : H c = none := nc
      have s3 : Same H (upd H2 c (.lst (xs ++ zs))) := same_at ncH (s1.trans s2)
      refine ⟨s3, xs ++ zs, some x, rfl, upd_same, ?_⟩
      have tk : TK H2 (upd H2 c (.lst (xs ++ zs))) := tk_lst (s2 _ _ hc)
      rw [htk, blCode_snoc]
      rw [dpAll_len hxs] at hzs
      exact dpAll_app (dpAll_keep ((Same.tk s2).trans tk) hxs (blCode_tup hN hP n _ _ okt)) (dpAll_keep tk hzs (code_tup hN hP n s _ oks))
    · rintro σ H1 ⟨s1, xs, y, rfl, hc, hxs⟩
      rw [yl, List.take_length] at hxs
      exact ⟨_, rfl, q _ c xs s1 nc hc hxs⟩
end
end Sp1

set_option Elab.async false
set_option linter.all false
set_option maxRecDepth 100000
set_option maxHeartbeats 4000000
namespace Sp1
open PySem PySem.Spec PyProof.Rows L2 Pg
section
variable {P : Program} {w : World} {K : PySem.W.Frag} {mg : Str → Option Value} {base : Heap}
theorem small {n : Nat} (h : n ≤ 5000) : n ≤ sizeLine := by rw [sizeLine_eq]; omega
theorem dp_t3 {H : Hp} {p : Addr} {x y z : V} {a b c : PyData} (h : SqT K H p [x, y, z]) (h1 : Dp K H x a) (h2 : Dp K H y b) (h3 : Dp K H z c) : Dp K H (.ref p) (.tuple [a, b, c]) := .tup h (.cons h1 (.cons h2 (.cons h3 .nil)))
theorem dp_t2 {H : Hp} {p : Addr} {x y : V} {a b : PyData} (h : SqT K H p [x, y]) (h1 : Dp K H x a) (h2 : Dp K H y b) : Dp K H (.ref p) (.tuple [a, b]) := .tup h (.cons h1 (.cons h2 .nil))
def sp_ite_code (K : PySem.W.Frag) (n : Nat) : Sp := fun vs H Q _ => ∃ (v : V) (k : Int) (e : Ex) (a b : List Pg.St) (names procs : List Str), vs = [v, .int k] ∧ Dp K H v (St.ite e a b).D ∧ Names names ∧ Names procs ∧ St.Ok names procs n (.ite e a b) ∧ (St.ite e a b).sz ≤ 1000 ∧
    ∀ H' p xs, Same H H' → H p = none → H' p = some (.lst xs) → DpAll K H' xs ((St.ite e a b).code k) → Q (.ref p) H'
def sp_whl_code (K : PySem.W.Frag) (n : Nat) : Sp := fun vs H Q _ => ∃ (v : V) (k : Int) (e : Ex) (b : List Pg.St) (names procs : List Str), vs = [v, .int k] ∧ Dp K H v (St.whl e b).D ∧ Names names ∧ Names procs ∧ St.Ok names procs n (.whl e b) ∧ (St.whl e b).sz ≤ 1000 ∧
    ∀ H' p xs, Same H H' → H p = none → H' p = some (.lst xs) → DpAll K H' xs ((St.whl e b).code k) → Q (.ref p) H'
def sp_rep_code (K : PySem.W.Frag) (n : Nat) : Sp := fun vs H Q _ => ∃ (v : V) (k : Int) (e : Ex) (b : List Pg.St) (names procs : List Str), vs = [v, .int k] ∧ Dp K H v (St.rep e b).D ∧ Names names ∧ Names procs ∧ St.Ok names procs n (.rep e b) ∧ (St.rep e b).sz ≤ 1000 ∧
    ∀ H' p xs, Same H H' → H p = none → H' p = some (.lst xs) → DpAll K H' xs ((St.rep e b).code k) → Q (.ref p) H'
theorem ok_if_code (T : PgF K mg) {n : Nat} (hB : FnOk P w K mg base CX0 (3 * n + 1) T.f_block_code T.fd_block_code ["block", "start"] (sp_block_code K n)) :
    FnOk P w K mg base CX0 (3 * n + 2) T.f_if_code T.fd_if_code ["statement", "start"] (sp_ite_code K n) := by
  refine T.D_if_code.F.ok sc_if_code (fun vs H Q E h => ?_) (fun cdv A outer s H vs Q E hr h => ?_)
  · obtain ⟨v, k, e, a, b, names, procs, rfl, _⟩ := h
    rfl
  · obtain ⟨v, k, e, a, b, names, procs, rfl, hd, hN, hP, ok, hsz, q⟩ := h
    have nd := sc_if_code.nd
    obtain ⟨he, m, rfl, ha, hb⟩ := ok
    simp only [St.D] at hd
    simp only [St.sz] at hsz
    obtain ⟨t, x1, x2, x3, x4, rfl, hS, h1, h2, h3, h4⟩ := dp_tup4 hd
    obtain rfl := dp_str h1
    rw [blD_map] at h3 h4
    have te := Ex.tup hN he
    have ta := bD_tup hN hP ha
    have tb := bD_tup hN hP hb
    refine ⟨_, (pss_cons (ps_asg (pv 0) (pg_tup rfl (pgs_cons (pg_name (i := 2) nd rfl (.inl rfl)) (pgs_cons (pg_name (i := 3) nd rfl (.inl rfl)) (pgs_cons (pg_name (i := 4) nd rfl (.inl rfl)) (pgs_cons (pg_name (i := 5) nd rfl (.inl rfl)) pgs_nil))))))
      (pss_cons (ps_set (i := 6) nd rfl (.inl rfl) (pe_call (hB.mono (by omega)) hr (by rfl) T.D_block_code.g T.D_block_code.kp T.D_block_code.b .nil pass0 (pa_cons (pv 4) (pa_cons (pe_op op_add (pv 1) pe_int) pa_nil))))
      (pss_cons (ps_set (i := 7) nd rfl (.inl rfl) (pe_op op_add (pe_op op_add (pe_op op_add (pv 1) pe_int) (pe_callB call_len_seq (by rfl) T.m_len PySem.boot_len (pa_cons (pv 6) pa_nil))) pe_int))
      (pss_cons (ps_set (i := 8) nd rfl (.inl rfl) (pe_call (hB.mono (by omega)) hr (by rfl) T.D_block_code.g T.D_block_code.kp T.D_block_code.b .nil pass0 (pa_cons (pv 5) (pa_cons (pv 7) pa_nil))))
      (pss_cons (ps_set (i := 9) nd rfl (.inl rfl) (pe_op op_add (pe_op op_add (pv 7) (pe_callB call_len_seq (by rfl) T.m_len PySem.boot_len (pa_cons (pv 8) pa_nil))) pe_int))
      (pss_cons (ps_set (i := 10) nd rfl (.inl rfl) (pe_tup (pa_cons pe_str (pa_cons (pv 3) (pa_cons (pv 7) pa_nil)))))
      (pss_one (ps_ret (pe_lst (pa_cons (pv 10) (StX.pa_star (pv 6) (pa_cons (pe_tup (pa_cons pe_str (pa_cons (pv 9) (pa_cons pe_int pa_nil)))) (StX.pa_star (pv 8) (pa_cons (pe_tup (pa_cons pe_str (pa_cons (pv 9) (pa_cons pe_int pa_nil)))) pa_nil)))))))))))))), ?_⟩
    refine ⟨_, rfl, t, _, rfl, hS, rfl, _, _, rfl, _, _, rfl, _, _, rfl, _, _, rfl, rfl, ?_⟩
    refine ⟨_, rfl, _, rfl, _, _, rfl, rfl, x3, _, a, names, procs, rfl, h3, hN, hP, ha, by omega, fun H1 p1 xs1 s1 np1 hp1 hx1 => ?_⟩
    have l1 := dpAll_len hx1
    have z1 := blCode_len a (k + 1)
    refine ⟨_, rfl, _, _, rfl, rfl, _, rfl, p1, xs1, rfl, .inl (SqL.of hp1), _, _, rfl, rfl, _, _, rfl, rfl, ?_⟩
    refine ⟨_, rfl, _, rfl, x4, _, b, names, procs, rfl, dp_keep (Same.tk s1) h4 tb, hN, hP, hb, by omega, fun H2 p2 xs2 s2 np2 hp2 hx2 => ?_⟩
    have l2 := dpAll_len hx2
    have z2 := blCode_len b (k + 1 + (xs1.length : Int) + 1)
    refine ⟨_, rfl, _, rfl, p2, xs2, rfl, .inl (SqL.of hp2), _, _, rfl, rfl, _, _, rfl, rfl, ?_⟩
    refine ⟨_, rfl, _, rfl, small (by show 3 ≤ 5000; decide), fun t1 nt1 => ?_⟩
    have s3 := same_new (o := .tup [.str "test", x2, .int (k + 1 + (xs1.length : Int) + 1)]) nt1
    generalize hH3 : upd H2 t1 (.tup [.str "test", x2, .int (k + 1 + (xs1.length : Int) + 1)]) = H3 at s3 ⊢
    have ht1 : SqT K H3 t1 [.str "test", x2, .int (k + 1 + (xs1.length : Int) + 1)] := by rw [← hH3]; exact SqT.of upd_same
    refine ⟨_, rfl, _, rfl, p1, xs1, rfl, .inr (SqL.of (s3 _ _ (s2 _ _ hp1))), ?_⟩
    refine ⟨_, rfl, small (by show 3 ≤ 5000; decide), fun t2 nt2 => ?_⟩
    have s4 := same_new (o := .tup [.str "go", .int (k + 1 + (xs1.length : Int) + 1 + (xs2.length : Int) + 1), .int 1]) nt2
    generalize hH4 : upd H3 t2 (.tup [.str "go", .int (k + 1 + (xs1.length : Int) + 1 + (xs2.length : Int) + 1), .int 1]) = H4 at s4 ⊢
    have ht2 : SqT K H4 t2 [.str "go", .int (k + 1 + (xs1.length : Int) + 1 + (xs2.length : Int) + 1), .int 1] := by rw [← hH4]; exact SqT.of upd_same
    refine ⟨_, rfl, p2, xs2, rfl, .inr (SqL.of (s4 _ _ (s3 _ _ hp2))), ?_⟩
    refine ⟨_, rfl, small (by show 3 ≤ 5000; decide), fun t3 nt3 => ?_⟩
    have s5 := same_new (o := .tup [.str "go", .int (k + 1 + (xs1.length : Int) + 1 + (xs2.length : Int) + 1), .int 0]) nt3
    generalize hH5 : upd H4 t3 (.tup [.str "go", .int (k + 1 + (xs1.length : Int) + 1 + (xs2.length : Int) + 1), .int 0]) = H5 at s5 ⊢
    have ht3 : SqT K H5 t3 [.str "go", .int (k + 1 + (xs1.length : Int) + 1 + (xs2.length : Int) + 1), .int 0] := by rw [← hH5]; exact SqT.of upd_same
    refine ⟨small ?_, fun p np => ?_⟩
    · show (V.ref t1 :: (xs1 ++ (V.ref t2 :: (xs2 ++ [V.ref t3])))).length ≤ 5000
      simp only [List.length_cons, List.length_append, List.length_nil]
      omega
    have s12 := s1.trans s2
    have s25 := (s3.trans s4).trans s5
    have s05 := s12.trans s25
    have s6 := same_new (o := .lst (V.ref t1 :: (xs1 ++ (V.ref t2 :: (xs2 ++ [V.ref t3]))))) np
    refine q _ p _ (s05.trans s6) (s05.free np) upd_same ?_
    have k6 := Same.tk s6
    simp only [St.code]
    have kk1 := dpAll_keep (((Same.tk s2).trans (Same.tk s25)).trans k6) hx1 (blCode_tup hN hP m a _ ha)
    have kk2 := dpAll_keep ((Same.tk s25).trans k6) hx2 (blCode_tup hN hP m b _ hb)
    have a1 := dp_t3 (Same.sqt ((s4.trans s5).trans s6) ht1) (.str _) (dp_keep (Same.tk (s05.trans s6)) h2 te) (.int (k + 1 + (xs1.length : Int) + 1))
    have a2 := dp_t3 (Same.sqt (s5.trans s6) ht2) (.str _) (.int (k + 1 + (xs1.length : Int) + 1 + (xs2.length : Int) + 1)) (.int 1)
    have a3 := dp_t3 (Same.sqt s6 ht3) (.str _) (.int (k + 1 + (xs1.length : Int) + 1 + (xs2.length : Int) + 1)) (.int 0)
    rw [l2] at a2 a3
    rw [l1] at a1 a2 a3 kk2
    exact .cons a1 (dpAll_app kk1 (.cons a2 (dpAll_app kk2 (.cons a3 .nil))))
theorem ok_while_code (T : PgF K mg) {n : Nat} (hB : FnOk P w K mg base CX0 (3 * n + 1) T.f_block_code T.fd_block_code ["block", "start"] (sp_block_code K n)) :
    FnOk P w K mg base CX0 (3 * n + 2) T.f_while_code T.fd_while_code ["statement", "start"] (sp_whl_code K n) := by
  refine T.D_while_code.F.ok sc_while_code (fun vs H Q E h => ?_) (fun cdv A outer s H vs Q E hr h => ?_)
  · obtain ⟨v, k, e, b, names, procs, rfl, _⟩ := h
    rfl
  · obtain ⟨v, k, e, b, names, procs, rfl, hd, hN, hP, ok, hsz, q⟩ := h
    have nd := sc_while_code.nd
    obtain ⟨he, m, rfl, hb⟩ := ok
    simp only [St.D] at hd
    simp only [St.sz] at hsz
    obtain ⟨t, x1, x2, x3, rfl, hS, h1, h2, h3⟩ := dp_tup3 hd
    obtain rfl := dp_str h1
    rw [blD_map] at h3
    have te := Ex.tup hN he
    refine ⟨_, (pss_cons (ps_asg (pv 0) (pg_tup rfl (pgs_cons (pg_name (i := 2) nd rfl (.inl rfl)) (pgs_cons (pg_name (i := 3) nd rfl (.inl rfl)) (pgs_cons (pg_name (i := 4) nd rfl (.inl rfl)) pgs_nil)))))
      (pss_cons (ps_set (i := 5) nd rfl (.inl rfl) (pe_op op_add (pv 1) pe_int))
      (pss_cons (ps_set (i := 6) nd rfl (.inl rfl) (pe_call (hB.mono (by omega)) hr (by rfl) T.D_block_code.g T.D_block_code.kp T.D_block_code.b .nil pass0 (pa_cons (pv 4) (pa_cons (pe_op op_add (pv 5) pe_int) pa_nil))))
      (pss_cons (ps_set (i := 7) nd rfl (.inl rfl) (pe_op op_add (pe_op op_add (pe_op op_add (pv 5) pe_int) (pe_callB call_len_seq (by rfl) T.m_len PySem.boot_len (pa_cons (pv 6) pa_nil))) pe_int))
      (pss_one (ps_ret (pe_lst (pa_cons (pe_tup (pa_cons pe_str (pa_cons (pv 5) (pa_cons pe_int pa_nil)))) (pa_cons (pe_tup (pa_cons pe_str (pa_cons (pv 3) (pa_cons (pv 7) pa_nil)))) (StX.pa_star (pv 6) (pa_cons (pe_tup (pa_cons pe_str (pa_cons (pv 5) (pa_cons pe_int pa_nil)))) pa_nil))))))))))), ?_⟩
    refine ⟨_, rfl, t, _, rfl, hS, rfl, _, _, rfl, _, _, rfl, _, _, rfl, rfl, ?_⟩
    refine ⟨_, rfl, _, _, rfl, rfl, ?_⟩
    refine ⟨_, rfl, _, rfl, _, _, rfl, rfl, x3, _, b, names, procs, rfl, h3, hN, hP, hb, by omega, fun H1 p1 xs1 s1 np1 hp1 hx1 => ?_⟩
    have l1 := dpAll_len hx1
    have z1 := blCode_len b (k + 1 + 1)
    refine ⟨_, rfl, _, _, rfl, rfl, _, rfl, p1, xs1, rfl, .inl (SqL.of hp1), _, _, rfl, rfl, _, _, rfl, rfl, ?_⟩
    refine ⟨_, rfl, small (by show 3 ≤ 5000; decide), fun t1 nt1 => ?_⟩
    have s2 := same_new (o := .tup [.str "go", .int (k + 1), .int 0]) nt1
    generalize hH2 : upd H1 t1 (.tup [.str "go", .int (k + 1), .int 0]) = H2 at s2 ⊢
    have ht1 : SqT K H2 t1 [.str "go", .int (k + 1), .int 0] := by rw [← hH2]; exact SqT.of upd_same
    refine ⟨_, rfl, _, rfl, small (by show 3 ≤ 5000; decide), fun t2 nt2 => ?_⟩
    have s3 := same_new (o := .tup [.str "test", x2, .int (k + 1 + 1 + (xs1.length : Int) + 1)]) nt2
    generalize hH3 : upd H2 t2 (.tup [.str "test", x2, .int (k + 1 + 1 + (xs1.length : Int) + 1)]) = H3 at s3 ⊢
    have ht2 : SqT K H3 t2 [.str "test", x2, .int (k + 1 + 1 + (xs1.length : Int) + 1)] := by rw [← hH3]; exact SqT.of upd_same
    refine ⟨_, rfl, p1, xs1, rfl, .inr (SqL.of (s3 _ _ (s2 _ _ hp1))), ?_⟩
    refine ⟨_, rfl, small (by show 3 ≤ 5000; decide), fun t3 nt3 => ?_⟩
    have s4 := same_new (o := .tup [.str "go", .int (k + 1), .int 1]) nt3
    generalize hH4 : upd H3 t3 (.tup [.str "go", .int (k + 1), .int 1]) = H4 at s4 ⊢
    have ht3 : SqT K H4 t3 [.str "go", .int (k + 1), .int 1] := by rw [← hH4]; exact SqT.of upd_same
    refine ⟨small ?_, fun p np => ?_⟩
    · show (V.ref t1 :: V.ref t2 :: (xs1 ++ [V.ref t3])).length ≤ 5000
      simp only [List.length_cons, List.length_append, List.length_nil]
      omega
    have s24 := (s2.trans s3).trans s4
    have s04 := s1.trans s24
    have s6 := same_new (o := .lst (V.ref t1 :: V.ref t2 :: (xs1 ++ [V.ref t3]))) np
    refine q _ p _ (s04.trans s6) (s04.free np) upd_same ?_
    have k6 := Same.tk s6
    simp only [St.code]
    have kk1 := dpAll_keep ((Same.tk s24).trans k6) hx1 (blCode_tup hN hP m b _ hb)
    have a1 := dp_t3 (Same.sqt (((s3.trans s4)).trans s6) ht1) (.str _) (.int (k + 1)) (.int 0)
    have a2 := dp_t3 (Same.sqt (s4.trans s6) ht2) (.str _) (dp_keep (Same.tk (s04.trans s6)) h2 te) (.int (k + 1 + 1 + (xs1.length : Int) + 1))
    have a3 := dp_t3 (Same.sqt s6 ht3) (.str _) (.int (k + 1)) (.int 1)
    rw [l1] at a2
    exact .cons a1 (.cons a2 (dpAll_app kk1 (.cons a3 .nil)))
theorem ok_repeat_code (T : PgF K mg) {n : Nat} (hB : FnOk P w K mg base CX0 (3 * n + 1) T.f_block_code T.fd_block_code ["block", "start"] (sp_block_code K n)) :
    FnOk P w K mg base CX0 (3 * n + 2) T.f_repeat_code T.fd_repeat_code ["statement", "start"] (sp_rep_code K n) := by
  refine T.D_repeat_code.F.ok sc_repeat_code (fun vs H Q E h => ?_) (fun cdv A outer s H vs Q E hr h => ?_)
  · obtain ⟨v, k, e, b, names, procs, rfl, _⟩ := h
    rfl
  · obtain ⟨v, k, e, b, names, procs, rfl, hd, hN, hP, ok, hsz, q⟩ := h
    have nd := sc_repeat_code.nd
    obtain ⟨he, m, rfl, hb⟩ := ok
    simp only [St.D] at hd
    simp only [St.sz] at hsz
    obtain ⟨t, x1, x2, x3, rfl, hS, h1, h2, h3⟩ := dp_tup3 hd
    obtain rfl := dp_str h1
    rw [blD_map] at h3
    have te := Ex.tup hN he
    refine ⟨_, (pss_cons (ps_asg (pv 0) (pg_tup rfl (pgs_cons (pg_name (i := 2) nd rfl (.inl rfl)) (pgs_cons (pg_name (i := 3) nd rfl (.inl rfl)) (pgs_cons (pg_name (i := 4) nd rfl (.inl rfl)) pgs_nil)))))
      (pss_cons (ps_set (i := 5) nd rfl (.inl rfl) (pe_op op_add (pv 1) pe_int))
      (pss_cons (ps_set (i := 6) nd rfl (.inl rfl) (pe_call (hB.mono (by omega)) hr (by rfl) T.D_block_code.g T.D_block_code.kp T.D_block_code.b .nil pass0 (pa_cons (pv 4) (pa_cons (pe_op op_add (pv 5) pe_int) pa_nil))))
      (pss_cons (ps_set (i := 7) nd rfl (.inl rfl) (pe_op op_add (pe_op op_add (pe_op op_add (pv 5) pe_int) (pe_callB call_len_seq (by rfl) T.m_len PySem.boot_len (pa_cons (pv 6) pa_nil))) pe_int))
      (pss_one (ps_ret (pe_lst (pa_cons (pe_tup (pa_cons pe_str (pa_cons (pv 3) pa_nil))) (pa_cons (pe_tup (pa_cons pe_str (pa_cons (pv 7) pa_nil))) (StX.pa_star (pv 6) (pa_cons (pe_tup (pa_cons pe_str (pa_cons (pv 5) pa_nil))) pa_nil))))))))))), ?_⟩
    refine ⟨_, rfl, t, _, rfl, hS, rfl, _, _, rfl, _, _, rfl, _, _, rfl, rfl, ?_⟩
    refine ⟨_, rfl, _, _, rfl, rfl, ?_⟩
    refine ⟨_, rfl, _, rfl, _, _, rfl, rfl, x3, _, b, names, procs, rfl, h3, hN, hP, hb, by omega, fun H1 p1 xs1 s1 np1 hp1 hx1 => ?_⟩
    have l1 := dpAll_len hx1
    have z1 := blCode_len b (k + 1 + 1)
    refine ⟨_, rfl, _, _, rfl, rfl, _, rfl, p1, xs1, rfl, .inl (SqL.of hp1), _, _, rfl, rfl, _, _, rfl, rfl, ?_⟩
    refine ⟨_, rfl, small (by show 2 ≤ 5000; decide), fun t1 nt1 => ?_⟩
    have s2 := same_new (o := .tup [.str "begin", x2]) nt1
    generalize hH2 : upd H1 t1 (.tup [.str "begin", x2]) = H2 at s2 ⊢
    have ht1 : SqT K H2 t1 [.str "begin", x2] := by rw [← hH2]; exact SqT.of upd_same
    refine ⟨_, rfl, small (by show 2 ≤ 5000; decide), fun t2 nt2 => ?_⟩
    have s3 := same_new (o := .tup [.str "turn", .int (k + 1 + 1 + (xs1.length : Int) + 1)]) nt2
    generalize hH3 : upd H2 t2 (.tup [.str "turn", .int (k + 1 + 1 + (xs1.length : Int) + 1)]) = H3 at s3 ⊢
    have ht2 : SqT K H3 t2 [.str "turn", .int (k + 1 + 1 + (xs1.length : Int) + 1)] := by rw [← hH3]; exact SqT.of upd_same
    refine ⟨_, rfl, p1, xs1, rfl, .inr (SqL.of (s3 _ _ (s2 _ _ hp1))), ?_⟩
    refine ⟨_, rfl, small (by show 2 ≤ 5000; decide), fun t3 nt3 => ?_⟩
    have s4 := same_new (o := .tup [.str "again", .int (k + 1)]) nt3
    generalize hH4 : upd H3 t3 (.tup [.str "again", .int (k + 1)]) = H4 at s4 ⊢
    have ht3 : SqT K H4 t3 [.str "again", .int (k + 1)] := by rw [← hH4]; exact SqT.of upd_same
    refine ⟨small ?_, fun p np => ?_⟩
    · show (V.ref t1 :: V.ref t2 :: (xs1 ++ [V.ref t3])).length ≤ 5000
      simp only [List.length_cons, List.length_append, List.length_nil]
      omega
    have s24 := (s2.trans s3).trans s4
    have s04 := s1.trans s24
    have s6 := same_new (o := .lst (V.ref t1 :: V.ref t2 :: (xs1 ++ [V.ref t3]))) np
    refine q _ p _ (s04.trans s6) (s04.free np) upd_same ?_
    have k6 := Same.tk s6
    simp only [St.code]
    have kk1 := dpAll_keep ((Same.tk s24).trans k6) hx1 (blCode_tup hN hP m b _ hb)
    have a1 := dp_t2 (Same.sqt (((s3.trans s4)).trans s6) ht1) (.str _) (dp_keep (Same.tk (s04.trans s6)) h2 te)
    have a2 := dp_t2 (Same.sqt (s4.trans s6) ht2) (.str _) (.int (k + 1 + 1 + (xs1.length : Int) + 1))
    have a3 := dp_t2 (Same.sqt s6 ht3) (.str _) (.int (k + 1))
    rw [l1] at a2
    exact .cons a1 (.cons a2 (dpAll_app kk1 (.cons a3 .nil)))
theorem ok_statement_code (T : PgF K mg) {n : Nat} (hI : FnOk P w K mg base CX0 (3 * n + 2) T.f_if_code T.fd_if_code ["statement", "start"] (sp_ite_code K n))
    (hW : FnOk P w K mg base CX0 (3 * n + 2) T.f_while_code T.fd_while_code ["statement", "start"] (sp_whl_code K n)) (hR : FnOk P w K mg base CX0 (3 * n + 2) T.f_repeat_code T.fd_repeat_code ["statement", "start"] (sp_rep_code K n)) :
    FnOk P w K mg base CX0 (3 * n + 3) T.f_statement_code T.fd_statement_code ["statement", "start"] (sp_statement_code K n) := by
  refine T.D_statement_code.F.ok sc_statement_code (fun vs H Q E h => ?_) (fun cdv A outer s H vs Q E hr h => ?_)
  · obtain ⟨v, k, s, names, procs, rfl, _⟩ := h
    rfl
  · obtain ⟨v, k, s, names, procs, rfl, hd, hN, hP, ok, hsz, q⟩ := h
    have nd := sc_statement_code.nd
    have hd0 := hd
    obtain ⟨wd, ds, hD⟩ : ∃ (wd : Str) (ds : List PyData), s.D = .tuple (.str wd :: ds) := by cases s <;> exact ⟨_, _, by simp only [St.D]; rfl⟩
    rw [hD] at hd
    obtain ⟨a, zs, rfl, hS1, hA⟩ := dp_tup hd
    obtain ⟨ys, rfl⟩ : ∃ ys, zs = .str wd :: ys := by
      cases hA with
      | cons x y =>
        obtain rfl := dp_str x
        exact ⟨_, rfl⟩
    refine ⟨_, (pss_cons (ps_set (i := 2) nd rfl (.inl rfl) (pe_ix (r := rIxT K) ix_tup (pv 0) pe_int (fun _ _ => rfl)))
      (pss_cons (ps_if (pt_cmpR op_eq (pv 2) pe_str (nomark _))
      (pss_one (ps_ret (pe_call (hI.mono (by omega)) hr (by rfl) T.D_if_code.g T.D_if_code.kp T.D_if_code.b .nil pass0 (pa_cons (pv 0) (pa_cons (pv 1) pa_nil)))))
      pss_nil)
      (pss_cons (ps_if (pt_cmpR op_eq (pv 2) pe_str (nomark _))
      (pss_one (ps_ret (pe_call (hW.mono (by omega)) hr (by rfl) T.D_while_code.g T.D_while_code.kp T.D_while_code.b .nil pass0 (pa_cons (pv 0) (pa_cons (pv 1) pa_nil)))))
      pss_nil)
      (pss_cons (ps_if (pt_cmpR op_eq (pv 2) pe_str (nomark _))
      (pss_one (ps_ret (pe_call (hR.mono (by omega)) hr (by rfl) T.D_repeat_code.g T.D_repeat_code.kp T.D_repeat_code.b .nil pass0 (pa_cons (pv 0) (pa_cons (pv 1) pa_nil)))))
      pss_nil)
      (pss_one (ps_ret (pe_lst (pa_cons (pv 0) pa_nil)))))))), ?_⟩
    refine ⟨_, rfl, a, _, _, _, rfl, rfl, hS1, atI_nat (j := 0) rfl, ?_⟩
    have simple : s.code k = [s.D] → ∀ p, H p = none → Q (.ref p) (upd H p (.lst [.ref a])) := fun e p np => by
      refine q _ p _ (same_new np) np upd_same ?_
      rw [e]
      exact .cons (dp_keep (Same.tk (same_new np)) hd0 (St.tup hN hP n s ok)) .nil
    have l1 : (1 : Nat) ≤ sizeLine := small (by decide)
    cases s with
    | ite e x y =>
      simp only [St.D, PyData.tuple.injEq, List.cons.injEq, PyData.str.injEq] at hD
      obtain ⟨rfl, rfl⟩ := hD
      refine ⟨_, rfl, rfl, _, rfl, iteT ?_⟩
      exact ⟨_, rfl, _, rfl, _, k, e, x, y, names, procs, rfl, hd0, hN, hP, ok, hsz, q⟩
    | whl e y =>
      simp only [St.D, PyData.tuple.injEq, List.cons.injEq, PyData.str.injEq] at hD
      obtain ⟨rfl, rfl⟩ := hD
      refine ⟨_, rfl, rfl, _, rfl, iteF ⟨_, rfl, rfl, _, rfl, iteT ?_⟩⟩
      exact ⟨_, rfl, _, rfl, _, k, e, y, names, procs, rfl, hd0, hN, hP, ok, hsz, q⟩
    | rep e y =>
      simp only [St.D, PyData.tuple.injEq, List.cons.injEq, PyData.str.injEq] at hD
      obtain ⟨rfl, rfl⟩ := hD
      refine ⟨_, rfl, rfl, _, rfl, iteF ⟨_, rfl, rfl, _, rfl, iteF ⟨_, rfl, rfl, _, rfl, iteT ?_⟩⟩⟩
      exact ⟨_, rfl, _, rfl, _, k, e, y, names, procs, rfl, hd0, hN, hP, ok, hsz, q⟩
    | set x e =>
      simp only [St.D, PyData.tuple.injEq, List.cons.injEq, PyData.str.injEq] at hD
      obtain ⟨rfl, rfl⟩ := hD
      refine ⟨_, rfl, rfl, _, rfl, iteF ⟨_, rfl, rfl, _, rfl, iteF ⟨_, rfl, rfl, _, rfl, iteF ?_⟩⟩⟩
      exact ⟨_, rfl, l1, simple rfl⟩
    | swap x e =>
      simp only [St.D, PyData.tuple.injEq, List.cons.injEq, PyData.str.injEq] at hD
      obtain ⟨rfl, rfl⟩ := hD
      refine ⟨_, rfl, rfl, _, rfl, iteF ⟨_, rfl, rfl, _, rfl, iteF ⟨_, rfl, rfl, _, rfl, iteF ?_⟩⟩⟩
      exact ⟨_, rfl, l1, simple rfl⟩
    | print e =>
      simp only [St.D, PyData.tuple.injEq, List.cons.injEq, PyData.str.injEq] at hD
      obtain ⟨rfl, rfl⟩ := hD
      refine ⟨_, rfl, rfl, _, rfl, iteF ⟨_, rfl, rfl, _, rfl, iteF ⟨_, rfl, rfl, _, rfl, iteF ?_⟩⟩⟩
      exact ⟨_, rfl, l1, simple rfl⟩
    | call e =>
      simp only [St.D, PyData.tuple.injEq, List.cons.injEq, PyData.str.injEq] at hD
      obtain ⟨rfl, rfl⟩ := hD
      refine ⟨_, rfl, rfl, _, rfl, iteF ⟨_, rfl, rfl, _, rfl, iteF ⟨_, rfl, rfl, _, rfl, iteF ?_⟩⟩⟩
      exact ⟨_, rfl, l1, simple rfl⟩
/-- all of them, by the depth -/
theorem ok_codes (T : PgF K mg) : ∀ n : Nat, FnOk P w K mg base CX0 (3 * n + 1) T.f_block_code T.fd_block_code ["block", "start"] (sp_block_code K n)
  | 0 => FnOk.none
  | n + 1 => ok_block_code T (ok_statement_code T (ok_if_code T (ok_codes T n)) (ok_while_code T (ok_codes T n)) (ok_repeat_code T (ok_codes T n)))
end
end Sp1

set_option Elab.async false
set_option linter.all false
set_option maxRecDepth 100000
set_option maxHeartbeats 4000000
namespace Pg
open PySem
def retD : PyData := .tuple [.str "return"]
def stopD : PyData := .tuple [.str "stop"]
def prsCode : List Pr → Int → List PyData
  | [], _ => []
  | p :: r, k => blCode p.2 k ++ (retD :: prsCode r (k + blSz p.2 + 1))
def prsEnt : List Pr → Int → List (Str × Int)
  | [], _ => []
  | p :: r, k => (p.1, k) :: prsEnt r (k + blSz p.2 + 1)
def prsSz : List Pr → Nat
  | [] => 0
  | p :: r => blSz p.2 + 1 + prsSz r
def pgCode (m : List St) (ps : List Pr) : List PyData := blCode m 0 ++ (stopD :: prsCode ps (blSz m + 1))
def pgEnt (m : List St) (ps : List Pr) : List (Str × Int) := prsEnt ps (blSz m + 1)
theorem prsCode_len : ∀ (ps : List Pr) (k : Int), (prsCode ps k).length = prsSz ps
  | [], k => rfl
  | p :: r, k => by
    simp only [prsCode, prsSz, List.length_append, List.length_cons, blCode_len, prsCode_len r]
    omega
theorem pgCode_len (m : List St) (ps : List Pr) : (pgCode m ps).length = blSz m + 1 + prsSz ps := by
  simp only [pgCode, List.length_append, List.length_cons, blCode_len, prsCode_len]
  omega
theorem prsCode_snoc : ∀ (ps : List Pr) (p : Pr) (k : Int), prsCode (ps ++ [p]) k = prsCode ps k ++ (blCode p.2 (k + prsSz ps) ++ [retD])
  | [], p, k => by simp [prsCode, prsSz]
  | x :: r, p, k => by
    simp only [List.cons_append, prsCode, prsCode_snoc r p, prsSz, List.append_assoc]
    congr 5
    push_cast
    omega
theorem prsEnt_snoc : ∀ (ps : List Pr) (p : Pr) (k : Int), prsEnt (ps ++ [p]) k = prsEnt ps k ++ [(p.1, k + prsSz ps)]
  | [], p, k => by simp [prsEnt, prsSz]
  | x :: r, p, k => by
    simp only [List.cons_append, prsEnt, prsEnt_snoc r p, prsSz]
    congr 4
    push_cast
    omega
theorem prsSz_snoc : ∀ (ps : List Pr) (p : Pr), prsSz (ps ++ [p]) = prsSz ps + blSz p.2 + 1
  | [], p => by simp [prsSz]
  | x :: r, p => by
    simp only [List.cons_append, prsSz, prsSz_snoc r p]
    omega
theorem prsSz_le : ∀ {ps : List Pr} {n : Nat}, (∀ p ∈ ps, blSz p.2 ≤ n) → prsSz ps ≤ ps.length * (n + 1)
  | [], n, _ => by simp [prsSz]
  | p :: r, n, h => by
    have h1 := h p List.mem_cons_self
    have h2 := prsSz_le fun q hq => h q (List.mem_cons_of_mem _ hq)
    simp only [prsSz, List.length_cons, Nat.add_mul]
    omega
theorem prsEnt_names : ∀ (ps : List Pr) (k : Int), (prsEnt ps k).map (·.1) = ps.map (·.1)
  | [], k => rfl
  | p :: r, k => by simp only [prsEnt, List.map_cons, prsEnt_names r]
theorem ret_tup : tupD retD = true := by decide +kernel
theorem stop_tup : tupD stopD = true := by decide +kernel
theorem prsCode_tup {names procs : List Str} (hN : Names names) (hP : Names procs) {n : Nat} : ∀ (ps : List Pr) (k : Int), (∀ p ∈ ps, blOk names procs n p.2) → tupAll (prsCode ps k) = true
  | [], k, _ => by simp [prsCode, tupAll]
  | p :: r, k, h => by
    simp only [prsCode, tupAll_app, tupAll, ret_tup, blCode_tup hN hP n p.2 k (h p List.mem_cons_self), prsCode_tup hN hP r _ fun q hq => h q (List.mem_cons_of_mem _ hq)]
    rfl
theorem pgCode_tup {names : List Str} (hN : Names names) {m : List St} {ps : List Pr} (h : PrsOk names ps) (hm : blOk names (ps.map (·.1)) 7 m) : tupAll (pgCode m ps) = true := by
  simp only [pgCode, tupAll_app, tupAll, stop_tup, blCode_tup hN h.N 7 m 0 hm, prsCode_tup hN h.N ps _ fun p hp => (h.bl p hp).1]
  rfl
end Pg
namespace Sp1
open PySem PySem.Spec PyProof.Rows L2 Pg
section
variable {X : Cx} {pos : Pos} {o : Expr} {ta : TE} {f : Str}
/-- o.f as a target among others -/
def gFld (K : PySem.W.Frag) (ta : TE) (f : Str) : TG := fun y σ H Q => ta σ H fun x H2 => ∃ a C dx fs, x = .ref a ∧ H2 a = some (.ins C dx fs) ∧ Cls K C ∧ NoAttr K C f ∧ fs.length < 1000 ∧ Q σ (upd H2 a (.ins C dx (putF f y fs)))
theorem pg_fld (ha : PE X o ta) (hs : ∀ v, assign (.Attribute o f pos) X.env v = (do
      let ov ← holding [v] (eval o X.env)
      standAt pos.atName
      holding [v, ov] (setAttr ov f v)
      release [v, ov] []) := by intro _; rfl) : PG X (.Attribute o f pos) (gFld X.K ta f) := by
  refine ⟨fun pins s σ H v u Q I r h => ?_⟩
  rw [hs]
  refine wpAny_bind (wpAny_holding (thn (ha.run pins s σ H _ I h) fun ov s1 ⟨x, H1, I1, rx, a, C, dx, fs, ex, ea, c, n, l, q⟩ => ?_))
  subst ex
  obtain rfl : ov = Value.ref a := rx
  refine wpAny_bind (wpAny_standAt (wpAny_bind (wpAny_holding (setattr_ok I1 ea c n l r fun s3 I3 => ?_))))
  exact wpAny_release ⟨σ, _, I3, q⟩
end
section
variable {P : Program} {w : World} {K : PySem.W.Frag} {mg : Str → Option Value} {base : Heap}
def entD (e : Str × Int) : Key × V := (Sum.inr e.1, .int e.2)
theorem ent_put {es : List (Str × Int)} {x : Str} {k : Int} (h : x ∉ es.map (·.1)) : putK (es.map entD) (Sum.inr x) (.int k) = (es ++ [(x, k)]).map entD := by
  unfold putK
  rw [if_neg, List.map_append]
  · rfl
  · rw [List.any_map]
    intro z
    obtain ⟨e, he, hx⟩ := List.any_eq_true.mp z
    have hx := of_decide_eq_true hx
    exact h (List.mem_map.mpr ⟨e, he, Sum.inr.inj hx⟩)
theorem tk_dk {H : Hp} {D : Addr} {kvs : List (Key × V)} {o : HO} (h : H D = some (.dK kvs)) : TK H (upd H D o) := ⟨fun b ys e => by rw [upd_ne (ne_of e h (by intro z; cases z))]; exact e, fun b ob u e => by rw [upd_ne (ne_of e h (by intro z; cases z))]; exact e⟩
theorem int_eq {a b : Int} (h : a = b) : V.int a = V.int b := by rw [h]
/-- what stands behind a program: its code, its entries -/
def sp_program_code (K : PySem.W.Frag) : Sp := fun vs H Q _ => ∃ (v mv : V) (ps : List Pr) (m : List Pg.St) (names : List Str), vs = [v, mv] ∧ Dp K H v (prsD ps) ∧ Dp K H mv (bD m) ∧ Names names ∧ PrsOk names ps ∧ blOk names (ps.map (·.1)) 7 m ∧ blSz m ≤ 1000 ∧
  ∀ H' t c d, Same H H' → H t = none → SqT K H' t [.ref c, .ref d] → Dp K H' (.ref c) (.tuple (pgCode m ps)) → H d = none → H' d = some (.dK ((pgEnt m ps).map entD)) → Q (.ref t) H'
theorem ok_program_code (T : PgF K mg) : FnOk P w K mg base CX0 26 T.f_program_code T.fd_program_code ["procedures", "main"] (sp_program_code K) := by
  refine T.D_program_code.F.ok sc_program_code (fun vs H Q E h => ?_) (fun cdv A outer s H vs Q E hr h => ?_)
  · obtain ⟨v, mv, ps, m, names, rfl, _⟩ := h
    rfl
  · obtain ⟨v, mv, ps, m, names, rfl, hd, hm, hN, ok, okm, hsz, q⟩ := h
    have nd := sc_program_code.nd
    obtain ⟨a, ys, rfl, hS1, hA⟩ := dp_tup hd
    have yl : ys.length = ps.length := by rw [dpAll_len hA, List.length_map]
    have h6 := ok.len
    have hps : prsSz ps ≤ 6 * 1001 := Nat.le_trans (prsSz_le fun p hp => (ok.bl p hp).2) (Nat.mul_le_mul_right _ h6)
    refine ⟨_, (pss_cons (ps_set (i := 2) nd rfl (.inl rfl) (pe_call ((ok_codes T 8).mono (by decide)) hr (by rfl) T.D_block_code.g T.D_block_code.kp T.D_block_code.b .nil pass0 (pa_cons (pv 1) (pa_cons pe_int pa_nil))))
      (pss_cons (ps_expr (pe_bm PySem.F.plainAttrs_list PySem.F.slot_list_append PySem.F.type_list_append mt_append (pv 2) (pa_cons (pe_tup (pa_cons pe_str pa_nil)) pa_nil)))
      (pss_cons (ps_set (i := 3) nd rfl (.inl rfl) pe_dnewK)
      (pss_cons (ps_for PassesOwn.never rfl (pi_tup (pv 0)) (pg_tup rfl (pgs_cons (pg_name (i := 4) nd rfl (.inl rfl)) (pgs_cons (pg_name (i := 5) nd rfl (.inl rfl)) pgs_nil)))
      (pss_cons (ps_dput (hu_of hr) (pv 3) (pv 4) (pe_callB call_len_seq (by rfl) T.m_len PySem.boot_len (pa_cons (pv 2) pa_nil)) rfl)
        (pss_cons (ps_expr (pe_bm PySem.F.plainAttrs_list PySem.F.slot_list_extend PySem.F.type_list_extend mt_extend (pv 2) (pa_cons (pe_call ((ok_codes T 8).mono (by decide)) hr (by rfl) T.D_block_code.g T.D_block_code.kp T.D_block_code.b .nil pass0 (pa_cons (pv 5) (pa_cons (pe_callB call_len_seq (by rfl) T.m_len PySem.boot_len (pa_cons (pv 2) pa_nil)) pa_nil))) pa_nil)))
        (pss_one (ps_expr (pe_bm PySem.F.plainAttrs_list PySem.F.slot_list_append PySem.F.type_list_append mt_append (pv 2) (pa_cons (pe_tup (pa_cons pe_str pa_nil)) pa_nil)))))))
      (pss_one (ps_ret (pe_tup (pa_cons (pe_callTy call_tuple_of (by rfl) T.m_tuple (by decide +kernel) (pa_cons (pv 2) pa_nil)) (pa_cons (pv 3) pa_nil))))))))), ?_⟩
    refine ⟨_, rfl, mv, 0, m, names, ps.map (·.1), rfl, hm, hN, ok.N, okm, hsz, fun H1 c xs0 s1 nc hc hx0 => ?_⟩
    refine ⟨_, rfl, .inl ⟨rfl, _, SqL.of hc⟩, small (by decide), fun ta nta => ?_⟩
    have l0 := dpAll_len hx0
    rw [blCode_len] at l0
    refine ⟨c, xs0, _, rfl, rfl, (same_new nta) _ _ hc, by rw [sizeLine_eq]; omega, ?_⟩
    have sta := same_new (o := .tup [.str "stop"]) nta
    have hta : SqT K (upd H1 ta (.tup [.str "stop"])) ta [.str "stop"] := SqT.of upd_same
    generalize hH2 : upd H1 ta (.tup [.str "stop"]) = H2 at sta hta ⊢
    have tk3 : TK H2 (upd H2 c (.lst (xs0 ++ [.ref ta]))) := tk_lst (sta _ _ hc)
    have s3 : Same H (upd H2 c (.lst (xs0 ++ [.ref ta]))) := same_at nc (s1.trans sta)
    have hc3 : (upd H2 c (.lst (xs0 ++ [.ref ta]))) c = some (.lst (xs0 ++ [.ref ta])) := upd_same
    have hx3 : DpAll K (upd H2 c (.lst (xs0 ++ [.ref ta]))) (xs0 ++ [.ref ta]) (blCode m 0 ++ [stopD]) :=
      dpAll_app (dpAll_keep ((Same.tk sta).trans tk3) hx0 (blCode_tup hN ok.N 7 m 0 okm)) (.cons (.tup (tk3.sqt hta) (.cons (.str _) .nil)) .nil)
    generalize upd H2 c (.lst (xs0 ++ [.ref ta])) = H3 at tk3 s3 hc3 hx3 ⊢
    refine fun d nd' => ?_
    have s4 := s3.trans (same_new (o := .dK []) nd')
    have hc4 := same_new (o := .dK []) nd' _ _ hc3
    have hx4 := dpAll_keep (Same.tk (same_new (o := .dK []) nd')) hx3 (by
      rw [tupAll_app, blCode_tup hN ok.N 7 m 0 okm]
      simp only [tupAll, stop_tup]
      rfl)
    have hd4 : (upd H3 d (.dK [])) d = some (.dK []) := upd_same
    have ndH : H d = none := s3.free nd'
    have hcd : c ≠ d := ne_of_none hc3 nd'
    generalize upd H3 d (.dK []) = H4 at s4 hc4 hx4 hd4 ⊢
    have hxl := dpAll_len hx4
    rw [List.length_append, List.length_append, blCode_len] at hxl
    refine ⟨_, rfl, a, rfl, ⟨_, Same.sqt s4 hS1⟩, for_tup (K := K) (a := a) (xs := ys)
      (fun i σ H' => Same H H' ∧ ∃ xs y4 y5, σ = [some (.ref a), some mv, some (.ref c), some (.ref d), y4, y5] ∧ H' c = some (.lst xs) ∧ DpAll K H' xs (pgCode m (ps.take i)) ∧ H' d = some (.dK ((pgEnt m (ps.take i)).map entD)))
      ⟨s4, _, none, none, rfl, hc4, hx4, hd4⟩ (fun i σ H' _ h => Same.sqt h.1 hS1) ?_ ?_⟩
    · rintro i x σ H5 hx ⟨s5, xs, y4, y5, rfl, hc5, hx5, hd5⟩
      obtain ⟨d', hd', hdp⟩ := dpAll_at hA hx
      rw [List.getElem?_map] at hd'
      obtain ⟨p, hp, rfl⟩ := Option.map_eq_some_iff.mp hd'
      have hpm := List.mem_of_getElem? hp
      have htk : ps.take (i + 1) = ps.take i ++ [p] := by rw [List.take_add_one, hp]; rfl
      have xl := dpAll_len hx5
      rw [pgCode_len] at xl
      have okt : ∀ q ∈ ps.take i, blOk names (ps.map (·.1)) 7 q.2 := fun q hq => (ok.bl q (List.mem_of_mem_take hq)).1
      have hti : prsSz (ps.take i) ≤ 6 * 1001 := Nat.le_trans (prsSz_le fun q hq => (ok.bl q (List.mem_of_mem_take hq)).2) (Nat.mul_le_mul_right _ (by rw [List.length_take]; omega))
      have hb1000 := (ok.bl p hpm).2
      have tp : tupAll (pgCode m (ps.take i)) = true := by
        simp only [pgCode, tupAll_app, tupAll, stop_tup, blCode_tup hN ok.N 7 m 0 okm, prsCode_tup hN ok.N _ _ okt]
        rfl
      obtain ⟨b, y, rfl, hb, hy⟩ := dp_prD (dp_keep (Same.tk s5) hdp (prD_tup hN ok hpm))
      refine ⟨b, _, rfl, hb, rfl, _, _, rfl, _, _, rfl, rfl, ?_⟩
      refine ⟨_, rfl, c, xs, rfl, .inl (SqL.of hc5), _, rfl, _, rfl, d, _, rfl, DPut.k (k := Sum.inr p.1) hd5 (by rw [List.length_map, sizeLine_eq, pgEnt, ← List.length_map (f := (·.1)), prsEnt_names, List.length_map, List.length_take]; omega), ?_⟩
      have fresh : p.1 ∉ (pgEnt m (ps.take i)).map (·.1) := by
        rw [pgEnt, prsEnt_names]
        intro z
        obtain ⟨j, hj, e⟩ := List.mem_iff_getElem.mp z
        rw [List.length_map, List.length_take] at hj
        rw [List.getElem_map, List.getElem_take] at e
        obtain ⟨hi', e2⟩ := List.getElem?_eq_some_iff.mp hp
        have := List.pairwise_iff_getElem.mp ok.nd j i (by rw [List.length_map]; omega) (by rw [List.length_map]; omega) (by omega)
        rw [List.getElem_map, List.getElem_map, e, e2] at this
        exact this rfl
      rw [ent_put fresh]
      have hcd5 : c ≠ d := hcd
      have tk6 : TK H5 (upd H5 d (.dK ((pgEnt m (ps.take i) ++ [(p.1, (xs.length : Int))]).map entD))) := tk_dk hd5
      have s6 : Same H (upd H5 d (.dK ((pgEnt m (ps.take i) ++ [(p.1, (xs.length : Int))]).map entD))) := same_at ndH s5
      have hc6 : (upd H5 d (.dK ((pgEnt m (ps.take i) ++ [(p.1, (xs.length : Int))]).map entD))) c = some (.lst xs) := by rw [upd_ne hcd5]; exact hc5
      have hd6 : (upd H5 d (.dK ((pgEnt m (ps.take i) ++ [(p.1, (xs.length : Int))]).map entD))) d = some (.dK ((pgEnt m (ps.take i) ++ [(p.1, (xs.length : Int))]).map entD)) := upd_same
      generalize upd H5 d (.dK ((pgEnt m (ps.take i) ++ [(p.1, (xs.length : Int))]).map entD)) = H6 at tk6 s6 hc6 hd6 ⊢
      refine ⟨_, rfl, .inl ⟨rfl, _, SqL.of hc6⟩, _, rfl, _, rfl, c, xs, rfl, .inl (SqL.of hc6), y, (xs.length : Int), p.2, names, ps.map (·.1), rfl, dp_keep tk6 hy (bD_tup hN ok.N (ok.bl p hpm).1), hN, ok.N, (ok.bl p hpm).1, hb1000, fun H7 e zs s7 ne he hz => ?_⟩
      have zl := dpAll_len hz
      rw [blCode_len] at zl
      have hc7 := s7 _ _ hc6
      refine ⟨c, e, xs, zs, rfl, rfl, hc7, he, by rw [sizeLine_eq]; omega, ?_⟩
      have tk8 : TK H7 (upd H7 c (.lst (xs ++ zs))) := tk_lst hc7
      have s8 : Same H (upd H7 c (.lst (xs ++ zs))) := same_at nc (s6.trans s7)
      have hc8 : (upd H7 c (.lst (xs ++ zs))) c = some (.lst (xs ++ zs)) := upd_same
      have hd8 : (upd H7 c (.lst (xs ++ zs))) d = some (.dK ((pgEnt m (ps.take i) ++ [(p.1, (xs.length : Int))]).map entD)) := by rw [upd_ne hcd5.symm]; exact s7 _ _ hd6
      generalize upd H7 c (.lst (xs ++ zs)) = H8 at tk8 s8 hc8 hd8 ⊢
      refine ⟨_, rfl, .inl ⟨rfl, _, SqL.of hc8⟩, small (by decide), fun tb ntb => ?_⟩
      have s9 := same_new (o := .tup [.str "return"]) ntb
      have ht9 : SqT K (upd H8 tb (.tup [.str "return"])) tb [.str "return"] := SqT.of upd_same
      generalize upd H8 tb (.tup [.str "return"]) = H9 at s9 ht9 ⊢
      have hc9 := s9 _ _ hc8
      refine ⟨c, _, _, rfl, rfl, hc9, by rw [sizeLine_eq, List.length_append]; omega, ?_⟩
      have tk10 : TK H9 (upd H9 c (.lst (xs ++ zs ++ [.ref tb]))) := tk_lst hc9
      have e1 : (xs.length : Int) = (blSz m : Int) + 1 + (prsSz (ps.take i) : Int) := by rw [xl]; push_cast; omega
      refine ⟨same_at nc (s8.trans s9), _, some (.str p.1), some y, rfl, upd_same, ?_, ?_⟩
      · have k1 := dpAll_keep (tk6.trans ((Same.tk s7).trans (tk8.trans ((Same.tk s9).trans tk10)))) hx5 tp
        have k2 := dpAll_keep (tk8.trans ((Same.tk s9).trans tk10)) hz (blCode_tup hN ok.N 7 p.2 _ (ok.bl p hpm).1)
        have k3 : Dp K (upd H9 c (.lst (xs ++ zs ++ [.ref tb]))) (.ref tb) retD := .tup (tk10.sqt ht9) (.cons (.str _) .nil)
        have e2 : pgCode m (ps.take (i + 1)) = pgCode m (ps.take i) ++ blCode p.2 (xs.length : Int) ++ [retD] := by
          rw [htk, e1]
          simp only [pgCode, prsCode_snoc, List.append_assoc, List.cons_append]
        rw [e2]
        exact dpAll_snoc (dpAll_app k1 k2) k3
      · rw [upd_ne hcd5.symm]
        have e2 : pgEnt m (ps.take (i + 1)) = pgEnt m (ps.take i) ++ [(p.1, (xs.length : Int))] := by
          rw [htk, e1]
          simp only [pgEnt, prsEnt_snoc]
        rw [e2]
        exact s9 _ _ hd8
    · rintro σ H5 ⟨s5, xs, y4, y5, rfl, hc5, hx5, hd5⟩
      rw [yl, List.take_length] at hx5 hd5
      have xl := dpAll_len hx5
      rw [pgCode_len] at xl
      refine ⟨_, rfl, c, xs, rfl, .inl ⟨SqL.of hc5, fun tc ntc => ?_⟩⟩
      have s6 := same_new (o := .tup xs) ntc
      have htc : SqT K (upd H5 tc (.tup xs)) tc xs := SqT.of upd_same
      generalize upd H5 tc (.tup xs) = H6 at s6 htc ⊢
      refine ⟨_, rfl, small (by show 2 ≤ 5000; decide), fun t nt => ?_⟩
      have s7 := same_new (o := .tup [.ref tc, .ref d]) nt
      refine q _ t tc d ((s5.trans s6).trans s7) ((s5.trans s6).free nt) (SqT.of upd_same) ?_ ndH (s7 _ _ (s6 _ _ hd5))
      exact .tup (Same.sqt s7 htc) (dpAll_keep (Same.tk (s6.trans s7)) hx5 (pgCode_tup hN ok okm))
end
end Sp1

set_option Elab.async false
set_option linter.all false
set_option maxRecDepth 100000
set_option maxHeartbeats 4000000
namespace Pg
open PySem
def isCall : PyData → Bool
  | .tuple (.str x :: _) => decide (x = "call")
  | _ => false
def Instr (d : PyData) : Prop := ∃ x r, d = .tuple (.str x :: r)
end Pg
namespace Sp1
open PySem PySem.Spec PyProof.Rows L2 Pg
section
variable {X : Cx}
/-- t + u, whichever is empty -/
def rCatU (K : PySem.W.Frag) : R2 := fun x y H Q => ∃ a b xs ys, x = .ref a ∧ y = .ref b ∧ SqT K H a xs ∧ SqT K H b ys ∧ xs.length + ys.length ≤ sizeLine ∧ ∀ p H', Same H H' → SqT K H' p (xs ++ ys) → Q (.ref p) H'
theorem op_catU : OpR X (binaryOp .Add) (rCatU X.K) := by
  intro pins s σ H x y v u Q I rx ry h
  obtain ⟨a, b, xs, ys, e1, e2, ha, hb, hz, q⟩ := h
  refine op_catA pins s σ H x y v u Q I rx ry ⟨a, b, xs, ys, e1, e2, ha, hb, hz, fun e => ?_, fun _ e => ?_, fun _ _ p np => ?_⟩
  · subst e
    exact q b H (Same.refl H) hb
  · subst e
    exact q a H (Same.refl H) (by rw [List.append_nil]; exact ha)
  · exact q p _ (same_new np) (SqT.of upd_same)
end
section
variable {P : Program} {w : World} {K : PySem.W.Frag} {mg : Str → Option Value} {base : Heap}
def sp_check_names (K : PySem.W.Frag) : Sp := fun vs H Q _ => ∃ (gv vv : V) (given vars : List Str), vs = [gv, vv] ∧ Ts K H gv given ∧ Ts K H vv vars ∧ Names (given ++ vars) ∧ (given ++ vars).Nodup ∧ 1 ≤ given.length + vars.length ∧ given.length + vars.length ≤ 4 ∧ ∀ H', Same H H' → Q .non H'
theorem ok_check_names (T : PgF K mg) : FnOk P w K mg base CX0 3 T.f_check_names T.fd_check_names ["given", "variables"] (sp_check_names K) := by
  refine T.D_check_names.F.ok sc_check_names (fun vs H Q E h => ?_) (fun cdv A outer s H vs Q E hr h => ?_)
  · obtain ⟨v, mv, ps, m, rfl, _⟩ := h
    rfl
  · obtain ⟨gv, vv, given, vars, rfl, ⟨ga, rfl, hg⟩, ⟨va, rfl, hv⟩, hN, hnd, h1, h4, q⟩ := h
    have nd := sc_check_names.nd
    refine ⟨_, (pss_cons (ps_if (pt_not (pt_val (pe_call ((ok_are_names T).mono (by decide)) hr (by rfl) T.D_are_names.g T.D_are_names.kp T.D_are_names.b .nil pass0 (pa_cons (pv 0) pa_nil))))
      (pss_one ps_never)
      pss_nil)
      (pss_cons (ps_if (PW.pt (pw_or (pt_not (pt_val (pe_callB call_isi (by rfl) T.m_isinstance (by decide +kernel) (pa_cons (pv 1) (pa_cons (pe_ty (n := "tuple") (by rfl) T.m_tuple (by decide +kernel)) pa_nil))))) (pw_or1 (pt_not (pt_val (pe_call ((ok_are_names T).mono (by decide)) hr (by rfl) T.D_are_names.g T.D_are_names.kp T.D_are_names.b .nil pass0 (pa_cons (pe_op op_catU (pv 0) (pv 1)) pa_nil)))))))
      (pss_one ps_never)
      pss_nil)
      (pss_one (ps_if (pt_not (pt_chain op_le op_le pe_int (pe_op op_add (pe_callB call_len_seq (by rfl) T.m_len PySem.boot_len (pa_cons (pv 0) pa_nil)) (pe_callB call_len_seq (by rfl) T.m_len PySem.boot_len (pa_cons (pv 1) pa_nil))) (pe_glob (v := .int 4) rfl T.c_MAX_NAMES ⟨_, rfl⟩) ))
      (pss_one ps_never)
      pss_nil)))), ?_⟩
    refine ⟨_, rfl, .ref ga, given, rfl, ⟨ga, rfl, hg⟩, fun x hx => hN x (List.mem_append_left _ hx), (List.nodup_append.mp hnd).1, by omega, fun H1 s1 => ?_⟩
    refine ⟨true, rfl, iteF ?_⟩
    refine ⟨_, rfl, .ref va, .ty "tuple", _, _, true, rfl, .ty _, tyx_tupS (Same.sqt s1 hv), kit_ty (by decide +kernel), true, rfl, iteF ?_⟩
    refine ⟨_, rfl, _, rfl, ga, va, _, _, rfl, rfl, Same.sqt s1 hg, Same.sqt s1 hv, by rw [List.length_map, List.length_map, sizeLine_eq]; omega, fun p H2 s2 hp => ?_⟩
    rw [← List.map_append] at hp
    refine ⟨.ref p, given ++ vars, rfl, ⟨p, rfl, hp⟩, hN, hnd, by rw [List.length_append]; omega, fun H3 s3 => ?_⟩
    refine ⟨true, rfl, iteF ?_⟩
    have s13 := (s1.trans s2).trans s3
    refine ⟨_, rfl, ga, _, rfl, .inr (Same.sqt s13 hg), _, rfl, va, _, rfl, .inr (Same.sqt s13 hv), ?_⟩
    refine ⟨_, _, rfl, rfl, _, _, rfl, rfl, _, rfl, ?_⟩
    rw [List.length_map, List.length_map, decide_eq_true (by omega)]
    refine iteT ⟨_, _, rfl, rfl, _, rfl, ?_⟩
    rw [decide_eq_true (by omega)]
    exact iteF (q _ s13)
def sp_check_blocks (K : PySem.W.Frag) : Sp := fun vs H Q _ => ∃ (nv pv mv : V) (names : List Str) (ps : List Pr) (m : List Pg.St), vs = [nv, pv, mv] ∧ Ts K H nv names ∧ Dp K H pv (prsD ps) ∧ Dp K H mv (bD m) ∧ Names names ∧ PrsOk names ps ∧ blOk names (ps.map (·.1)) 7 m ∧ blSz m ≤ 1000 ∧ ∀ H', Same H H' → Q .non H'
theorem ok_check_blocks (T : PgF K mg) : FnOk P w K mg base CX0 33 T.f_check_blocks T.fd_check_blocks ["names", "procedures", "main"] (sp_check_blocks K) := by
  refine T.D_check_blocks.F.ok sc_check_blocks (fun vs H Q E h => ?_) (fun cdv A outer s H vs Q E hr h => ?_)
  · obtain ⟨v, mv, ps, m, x1, x2, rfl, _⟩ := h
    rfl
  · obtain ⟨nv, qv, mv, names, ps, m, rfl, hn, hp, hm, hN, ok, okm, hsz, q⟩ := h
    have nd := sc_check_blocks.nd
    have hp0 := hp
    have h6 := ok.len
    refine ⟨_, (pss_cons (ps_if (pt_not (pt_val (pe_call ((ok_are_procedures T).mono (by decide)) hr (by rfl) T.D_are_procedures.g T.D_are_procedures.kp T.D_are_procedures.b .nil pass0 (pa_cons (pv 1) (pa_cons (pv 0) pa_nil)))))
      (pss_one ps_never)
      pss_nil)
      (pss_one (ps_if (pt_not (pt_val (pe_call ((ok_blocks T 8).mono (by decide)) hr (by rfl) T.g_is_block T.F_is_block.kp T.b3_is_block T.v3_is_block pass0 (pa_cons (pv 2) (pa_cons (pv 0) (pa_cons (pe_lc (own := [("name", 3), ("_", 4)]) (g := (gTup K 2 (gCons (gName 3) (gCons (gName 4) gNil)))) (tt := tYes) rfl nd (pi_tup (pv 1)) (blkOk_by (N := N_check_blocks) (sc := defScope s_check_blocks) (by decide +kernel)) (fun _ _ _ _ _ => (pg_tup rfl (pgs_cons (pg_name (i := 3) nd rfl (.inl rfl)) (pgs_cons (pg_name (i := 4) nd rfl (.inl rfl)) pgs_nil)))) (fun _ _ _ _ _ => pts_nil) (fun _ _ _ _ _ => (pv 3))) pa_nil))))))
      (pss_one ps_never)
      pss_nil))), ?_⟩
    refine ⟨_, rfl, _, rfl, _, _, ps, names, rfl, hp, hn.tl, hN, ok, fun H1 s1 => ?_⟩
    refine ⟨true, rfl, iteF ?_⟩
    obtain ⟨a, ys, rfl, hS1, hA⟩ := dp_tup hp
    have yl : ys.length = ps.length := by rw [dpAll_len hA, List.length_map]
    refine ⟨_, rfl, _, rfl, _, rfl, a, rfl, ⟨_, Same.sqt s1 hS1⟩, fun D nD => ?_⟩
    refine lc_it (walk_tup (K := K) (a := a) (xs := ys)) (Acc H1 D fun i => (((ps.map (·.1)).map V.str)[i]?).getD .non) (Acc.start nD) (fun i H' _ h' => Same.sqt (s1.trans h'.1) hS1) ?_ ?_
    · rintro i v H3 H4 hi h' ⟨rfl, hv⟩
      obtain ⟨d', hd', hdp⟩ := dpAll_at hA hv
      rw [List.getElem?_map] at hd'
      obtain ⟨p, hp, rfl⟩ := Option.map_eq_some_iff.mp hd'
      obtain ⟨b, y, rfl, h1, h2⟩ := dp_prD (dp_keep (Same.tk (s1.trans h'.1)) hdp (prD_tup hN ok (List.mem_of_getElem? hp)))
      refine ⟨b, _, rfl, h1, rfl, _, _, rfl, _, _, rfl, rfl, rfl, ?_⟩
      dsimp only [tYes]
      refine iteT ⟨_, rfl, ?_⟩
      refine h'.turn nD (Same.refl _) (by omega) ?_
      rw [List.getElem?_map, List.getElem?_map, hp]
      rfl
    · rintro H3 h'
      have hD2 := acc_get h' (by rw [List.length_map, List.length_map, yl])
      have s3 := s1.trans h'.1
      refine ⟨mv, nv, .ref D, 1, m, names, ps.map (·.1), rfl, dp_keep (Same.tk s3) hm (bD_tup hN ok.N okm), ⟨hn.tl.same s3, ⟨D, rfl, .inl (SqL.of hD2)⟩, hN, ok.N⟩, okm, by decide, hsz, fun H4 s4 => ?_⟩
      exact ⟨true, rfl, iteF (q _ (s3.trans s4))⟩
def sp_check_size (K : PySem.W.Frag) : Sp := fun vs H Q _ => ∃ (v : V) (ds : List PyData), vs = [v] ∧ Dp K H v (.tuple ds) ∧ tupAll ds = true ∧ (∀ d ∈ ds, Instr d) ∧ ds.length ≤ 120 ∧ (ds.filter isCall).length ≤ 8 ∧ ∀ H', Same H H' → Q .non H'
theorem ok_check_size (T : PgF K mg) : FnOk P w K mg base CX0 1 T.f_check_size T.fd_check_size ["code"] (sp_check_size K) := by
  refine T.D_check_size.F.ok sc_check_size (fun vs H Q E h => ?_) (fun cdv A outer s H vs Q E hr h => ?_)
  · obtain ⟨v, ds, rfl, _⟩ := h
    rfl
  · obtain ⟨v, ds, rfl, hd, ht, hI, h120, h8, q⟩ := h
    have nd := sc_check_size.nd
    obtain ⟨a, ys, rfl, hS1, hA⟩ := dp_tup hd
    have yl := dpAll_len hA
    refine ⟨_, (pss_cons (ps_setLc (i := 1) (own := [("instruction", 2)]) (g := (gName 2)) rfl nd rfl rfl (sw_true rfl rfl rfl (by decide +kernel)) (pi_tup (pv 0)) (blkOk_by (N := N_check_size) (sc := defScope s_check_size) (by decide +kernel)) (fun _ _ _ _ _ => (pg_name (i := 2) nd rfl (.inl rfl))) (fun _ _ _ _ _ => (pts_one (pt_cmpR op_eq (pe_ix (r := rIxT K) ix_tup (pv 2) pe_int (fun _ _ => rfl)) pe_str (nomark _)))) (fun _ _ _ _ _ => (pv 2)))
      (pss_one (ps_if (PW.pt (pw_or (pt_cmpR op_gt (pe_callB call_len_seq (by rfl) T.m_len PySem.boot_len (pa_cons (pv 0) pa_nil)) (pe_glob (v := .int 120) rfl T.c_MAX_CODE ⟨_, rfl⟩) (nomark _)) (pw_or1 (pt_cmpR op_gt (pe_callB call_len_seq (by rfl) T.m_len PySem.boot_len (pa_cons (pv 1) pa_nil)) (pe_glob (v := .int 8) rfl T.c_MAX_CALLS ⟨_, rfl⟩) (nomark _)))))
      (pss_one ps_never)
      pss_nil))), ?_⟩
    refine ⟨_, rfl, a, rfl, ⟨_, hS1⟩, fun D nD => ?_⟩
    refine lc_it (walk_tup (K := K) (a := a) (xs := ys)) (fun i H' => Same H H' ∧ ∃ acc, H' D = some (.lst acc) ∧ acc.length = ((ds.take i).filter isCall).length) ⟨same_new nD, [], upd_same, rfl⟩ (fun i H' _ h' => Same.sqt h'.1 hS1) ?_ ?_
    · rintro i v H3 H4 hi ⟨s3, acc, hacc, hl⟩ ⟨rfl, hv⟩
      obtain ⟨d', hd', hdp⟩ := dpAll_at hA hv
      have hm := List.mem_of_getElem? hd'
      obtain ⟨x, r, rfl⟩ := hI _ hm
      obtain ⟨b, zs, rfl, hb, hz⟩ := dp_tup (dp_keep (Same.tk s3) hdp (tupAll_iff.mp ht _ hm))
      obtain ⟨zs, rfl⟩ : ∃ r, zs = .str x :: r := by
        cases hz with
        | cons h1 h2 =>
          obtain rfl := dp_str h1
          exact ⟨_, rfl⟩
      have htk : ds.take (i + 1) = ds.take i ++ [.tuple (.str x :: r)] := by rw [List.take_add_one, hd']; rfl
      have hle : ((ds.take i).filter isCall).length ≤ 120 := Nat.le_trans (List.length_filter_le _ _) (by rw [List.length_take]; omega)
      refine ⟨rfl, ?_⟩
      refine ⟨_, rfl, b, _, _, _, rfl, rfl, hb, atI_nat (j := 0) rfl, rfl, _, rfl, ?_⟩
      have hw : decide (V.str x = V.str "call") = decide (x = "call") := decide_eq_decide.mpr ⟨fun z => V.str.inj z, fun z => by rw [z]⟩
      rw [htk, List.filter_append, List.length_append]
      refine ite2 (fun e => ?_) (fun e => ?_)
      · rw [hw] at e
        refine ⟨_, rfl, acc, hacc, by rw [sizeLine_eq]; omega, same_at nD s3, _, upd_same, ?_⟩
        have : ([PyData.tuple (.str x :: r)].filter isCall).length = 1 := by
          simp [List.filter, isCall, e]
        rw [this, List.length_append, hl]
        rfl
      · rw [hw] at e
        refine ⟨s3, acc, hacc, ?_⟩
        have : ([PyData.tuple (.str x :: r)].filter isCall).length = 0 := by
          simp [List.filter, isCall, e]
        rw [this, hl]
        rfl
    · rintro H3 ⟨s3, acc, hacc, hl⟩
      rw [yl, List.take_length] at hl
      refine ⟨_, rfl, a, _, rfl, .inr (Same.sqt s3 hS1), _, _, rfl, rfl, _, rfl, ?_⟩
      rw [decide_eq_false (by omega)]
      refine iteF ?_
      refine ⟨_, rfl, D, _, rfl, .inl (SqL.of hacc), _, _, rfl, rfl, _, rfl, ?_⟩
      rw [decide_eq_false (by omega)]
      exact iteF (q _ s3)
end
end Sp1

set_option Elab.async false
set_option linter.all false
set_option maxRecDepth 100000
set_option maxHeartbeats 4000000
namespace Sp1
open PySem PySem.Spec PyProof.Rows L2 Pg
abbrev s_init : Stmt := inClass (top 45) 0
abbrev N_init : List Str := ["self", "given", "variables", "procedures", "main"]
theorem sc_init : FnScope N_init ["self", "given", "variables", "procedures", "main"] (defScope s_init) := ⟨rfl, rfl, rfl, by decide +kernel, rfl, by decide +kernel, by decide +kernel⟩
abbrev s_given : Stmt := inClass (top 45) 1
abbrev N_given : List Str := ["self"]
theorem sc_given : FnScope N_given ["self"] (defScope s_given) := ⟨rfl, rfl, rfl, by decide +kernel, rfl, by decide +kernel, by decide +kernel⟩
abbrev s_variables : Stmt := inClass (top 45) 2
abbrev N_variables : List Str := ["self"]
theorem sc_variables : FnScope N_variables ["self"] (defScope s_variables) := ⟨rfl, rfl, rfl, by decide +kernel, rfl, by decide +kernel, by decide +kernel⟩
abbrev s_procedures : Stmt := inClass (top 45) 3
abbrev N_procedures : List Str := ["self"]
theorem sc_procedures : FnScope N_procedures ["self"] (defScope s_procedures) := ⟨rfl, rfl, rfl, by decide +kernel, rfl, by decide +kernel, by decide +kernel⟩
abbrev s_main : Stmt := inClass (top 45) 4
abbrev N_main : List Str := ["self"]
theorem sc_main : FnScope N_main ["self"] (defScope s_main) := ⟨rfl, rfl, rfl, by decide +kernel, rfl, by decide +kernel, by decide +kernel⟩
abbrev s_names : Stmt := inClass (top 45) 5
abbrev N_names : List Str := ["self"]
theorem sc_names : FnScope N_names ["self"] (defScope s_names) := ⟨rfl, rfl, rfl, by decide +kernel, rfl, by decide +kernel, by decide +kernel⟩
abbrev s_code : Stmt := inClass (top 45) 6
abbrev N_code : List Str := ["self"]
theorem sc_code : FnScope N_code ["self"] (defScope s_code) := ⟨rfl, rfl, rfl, by decide +kernel, rfl, by decide +kernel, by decide +kernel⟩
abbrev s_eq : Stmt := inClass (top 45) 8
abbrev N_eq : List Str := ["self", "other"]
theorem sc_eq : FnScope N_eq ["self", "other"] (defScope s_eq) := ⟨rfl, rfl, rfl, by decide +kernel, rfl, by decide +kernel, by decide +kernel⟩
/-- the class of programs -/
structure PgC (K : PySem.W.Frag) (mg : Str → Option Value) where
  C : Addr
  g : mg "Program" = some (.ref C)
  cl : Cls K C
  is : ObIs K C
  n_code : NoAttr K C "_code"
  n_entries : NoAttr K C "_entries"
  n_given : NoAttr K C "_given"
  n_variables : NoAttr K C "_variables"
  n_procedures : NoAttr K C "_procedures"
  n_main : NoAttr K C "_main"
  f_init : Addr
  fd_init : FuncData
  M : Mk K C f_init
  F_init : Fun K "__init__" "Program.__init__" s_init f_init fd_init
  b_init : L2.Binds K fd_init ["self", "given", "variables", "procedures", "main"] []
  f_eq : Addr
  fd_eq : FuncData
  F_eq : Fun K "__eq__" "Program.__eq__" s_eq f_eq fd_eq
  b_eq : L2.Binds K fd_eq ["self", "other"] []
  a_eq : PySem.W.findIn K (.ref C) "__eq__" = some (some (.ref f_eq))
  i_eq : PySem.W.isFn K (.ref f_eq) = true
  a_ne : PySem.W.findIn K (.ref C) "__ne__" = some (some (.builtin "object.__ne__"))
  p_given : Addr
  f_given : Addr
  fd_given : FuncData
  P_given : PropOf K C "given" p_given f_given
  F_given : Fun K "given" "Program.given" s_given f_given fd_given
  b_given : L2.Binds K fd_given ["self"] []
  p_variables : Addr
  f_variables : Addr
  fd_variables : FuncData
  P_variables : PropOf K C "variables" p_variables f_variables
  F_variables : Fun K "variables" "Program.variables" s_variables f_variables fd_variables
  b_variables : L2.Binds K fd_variables ["self"] []
  p_procedures : Addr
  f_procedures : Addr
  fd_procedures : FuncData
  P_procedures : PropOf K C "procedures" p_procedures f_procedures
  F_procedures : Fun K "procedures" "Program.procedures" s_procedures f_procedures fd_procedures
  b_procedures : L2.Binds K fd_procedures ["self"] []
  p_main : Addr
  f_main : Addr
  fd_main : FuncData
  P_main : PropOf K C "main" p_main f_main
  F_main : Fun K "main" "Program.main" s_main f_main fd_main
  b_main : L2.Binds K fd_main ["self"] []
  p_names : Addr
  f_names : Addr
  fd_names : FuncData
  P_names : PropOf K C "names" p_names f_names
  F_names : Fun K "names" "Program.names" s_names f_names fd_names
  b_names : L2.Binds K fd_names ["self"] []
  p_code : Addr
  f_code : Addr
  fd_code : FuncData
  P_code : PropOf K C "code" p_code f_code
  F_code : Fun K "code" "Program.code" s_code f_code fd_code
  b_code : L2.Binds K fd_code ["self"] []
def pgF (cv ev gv vv qv mv : V) : List (Str × V) := putF "_main" mv (putF "_procedures" qv (putF "_variables" vv (putF "_given" gv (putF "_entries" ev (putF "_code" cv [])))))

theorem pgF_code (cv ev gv vv qv mv : V) : (pgF cv ev gv vv qv mv).lookup ("_code" : Str) = some cv := by
  unfold pgF
  rw [lookup_putF, if_neg (by decide +kernel), lookup_putF, if_neg (by decide +kernel), lookup_putF, if_neg (by decide +kernel), lookup_putF, if_neg (by decide +kernel), lookup_putF, if_neg (by decide +kernel), lookup_putF, if_pos rfl]
theorem pgF_entries (cv ev gv vv qv mv : V) : (pgF cv ev gv vv qv mv).lookup ("_entries" : Str) = some ev := by
  unfold pgF
  rw [lookup_putF, if_neg (by decide +kernel), lookup_putF, if_neg (by decide +kernel), lookup_putF, if_neg (by decide +kernel), lookup_putF, if_neg (by decide +kernel), lookup_putF, if_pos rfl]
theorem pgF_given (cv ev gv vv qv mv : V) : (pgF cv ev gv vv qv mv).lookup ("_given" : Str) = some gv := by
  unfold pgF
  rw [lookup_putF, if_neg (by decide +kernel), lookup_putF, if_neg (by decide +kernel), lookup_putF, if_neg (by decide +kernel), lookup_putF, if_pos rfl]
theorem pgF_variables (cv ev gv vv qv mv : V) : (pgF cv ev gv vv qv mv).lookup ("_variables" : Str) = some vv := by
  unfold pgF
  rw [lookup_putF, if_neg (by decide +kernel), lookup_putF, if_neg (by decide +kernel), lookup_putF, if_pos rfl]
theorem pgF_procedures (cv ev gv vv qv mv : V) : (pgF cv ev gv vv qv mv).lookup ("_procedures" : Str) = some qv := by
  unfold pgF
  rw [lookup_putF, if_neg (by decide +kernel), lookup_putF, if_pos rfl]
theorem pgF_main (cv ev gv vv qv mv : V) : (pgF cv ev gv vv qv mv).lookup ("_main" : Str) = some mv := by
  unfold pgF
  rw [lookup_putF, if_pos rfl]
end Sp1

set_option Elab.async false
set_option linter.all false
set_option maxRecDepth 100000
set_option maxHeartbeats 4000000
namespace Pg
open PySem
/-- the parts of a program -/
structure Pt where
  given : List Str
  vars : List Str
  ps : List Pr
  m : List St
abbrev Pt.names (p : Pt) : List Str := p.given ++ p.vars
def Pt.code (p : Pt) : List PyData := pgCode p.m p.ps
def Pt.ent (p : Pt) : List (Str × Int) := pgEnt p.m p.ps
/-- all but the size -/
structure Pt.Fine (p : Pt) : Prop where
  N : Names p.names
  nd : p.names.Nodup
  l1 : 1 ≤ p.given.length + p.vars.length
  l4 : p.given.length + p.vars.length ≤ 4
  prs : PrsOk p.names p.ps
  mn : blOk p.names (p.ps.map (·.1)) 7 p.m
  msz : blSz p.m ≤ 1000
structure Pt.Small (p : Pt) : Prop where
  sz : p.code.length ≤ 120
  calls : (p.code.filter isCall).length ≤ 8
theorem st_instr (s : St) : Instr s.D := by cases s <;> exact ⟨_, _, by simp only [St.D]; rfl⟩
mutual
theorem code_instr : ∀ (s : St) (n : Int), ∀ d ∈ s.code n, Instr d
  | .ite e a b, n => by
    intro d hd
    simp only [St.code, List.mem_cons, List.mem_append, List.not_mem_nil, or_false] at hd
    rcases hd with rfl | hd | rfl | hd | rfl
    · exact ⟨_, _, rfl⟩
    · exact blCode_instr a _ d hd
    · exact ⟨_, _, rfl⟩
    · exact blCode_instr b _ d hd
    · exact ⟨_, _, rfl⟩
  | .whl e b, n => by
    intro d hd
    simp only [St.code, List.mem_cons, List.mem_append, List.not_mem_nil, or_false] at hd
    rcases hd with rfl | rfl | hd | rfl
    · exact ⟨_, _, rfl⟩
    · exact ⟨_, _, rfl⟩
    · exact blCode_instr b _ d hd
    · exact ⟨_, _, rfl⟩
  | .rep e b, n => by
    intro d hd
    simp only [St.code, List.mem_cons, List.mem_append, List.not_mem_nil, or_false] at hd
    rcases hd with rfl | rfl | hd | rfl
    · exact ⟨_, _, rfl⟩
    · exact ⟨_, _, rfl⟩
    · exact blCode_instr b _ d hd
    · exact ⟨_, _, rfl⟩
  | .set x e, n => by
    intro d hd
    simp only [St.code, List.mem_singleton] at hd
    rw [hd]
    exact st_instr _
  | .swap x e, n => by
    intro d hd
    simp only [St.code, List.mem_singleton] at hd
    rw [hd]
    exact st_instr _
  | .print e, n => by
    intro d hd
    simp only [St.code, List.mem_singleton] at hd
    rw [hd]
    exact st_instr _
  | .call e, n => by
    intro d hd
    simp only [St.code, List.mem_singleton] at hd
    rw [hd]
    exact st_instr _
theorem blCode_instr : ∀ (b : List St) (n : Int), ∀ d ∈ blCode b n, Instr d
  | [], n => by intro d hd; simp [blCode] at hd
  | s :: r, n => by
    intro d hd
    simp only [blCode, List.mem_append] at hd
    rcases hd with hd | hd
    · exact code_instr s n d hd
    · exact blCode_instr r _ d hd
end
theorem prsCode_instr : ∀ (ps : List Pr) (k : Int), ∀ d ∈ prsCode ps k, Instr d
  | [], k => by intro d hd; simp [prsCode] at hd
  | p :: r, k => by
    intro d hd
    simp only [prsCode, List.mem_append, List.mem_cons] at hd
    rcases hd with hd | rfl | hd
    · exact blCode_instr p.2 k d hd
    · exact ⟨_, _, rfl⟩
    · exact prsCode_instr r _ d hd
theorem pgCode_instr (m : List St) (ps : List Pr) : ∀ d ∈ pgCode m ps, Instr d := by
  intro d hd
  simp only [pgCode, List.mem_append, List.mem_cons] at hd
  rcases hd with hd | rfl | hd
  · exact blCode_instr m 0 d hd
  · exact ⟨_, _, rfl⟩
  · exact prsCode_instr ps _ d hd
end Pg
namespace Sp1
open PySem PySem.Spec PyProof.Rows L2 Pg
/-- a program's parts at four values -/
structure PvAt (K : PySem.W.Frag) (H : Hp) (gv vv qv mv : V) (p : Pt) : Prop where
  g : Ts K H gv p.given
  v : Ts K H vv p.vars
  q : Dp K H qv (prsD p.ps)
  m : Dp K H mv (bD p.m)
theorem PvAt.tk {K : PySem.W.Frag} {H H' : Hp} {gv vv qv mv : V} {p : Pt} (h : PvAt K H gv vv qv mv p) (f : p.Fine) (s : TK H H') : PvAt K H' gv vv qv mv p :=
  ⟨h.g.tk s, h.v.tk s, dp_keep s h.q (prsD_tup f.N f.prs), dp_keep s h.m (bD_tup f.N f.prs.N f.mn)⟩
/-- a program at x -/
def PgAt (K : PySem.W.Frag) (C : Addr) (H : Hp) (x : V) (p : Pt) : Prop := ∃ a dx cv d gv vv qv mv, x = .ref a ∧ H a = some (.ins C dx (pgF cv (.ref d) gv vv qv mv)) ∧ PvAt K H gv vv qv mv p ∧ Dp K H cv (.tuple p.code) ∧ H d = some (.dK (p.ent.map entD))
theorem code_tupD {p : Pt} (f : p.Fine) : tupAll p.code = true := pgCode_tup f.N f.prs f.mn
theorem PgAt.same {K : PySem.W.Frag} {C : Addr} {H H' : Hp} {x : V} {p : Pt} (h : PgAt K C H x p) (f : p.Fine) (s : Same H H') : PgAt K C H' x p := by
  obtain ⟨a, dx, cv, d, gv, vv, qv, mv, e, h1, h2, h3, h4⟩ := h
  exact ⟨a, dx, cv, d, gv, vv, qv, mv, e, s _ _ h1, h2.tk f (Same.tk s), dp_keep (Same.tk s) h3 (by rw [tupD_tuple]; exact code_tupD f), s _ _ h4⟩
theorem putF_lt {f : Str} {v : V} : ∀ {fs : List (Str × V)} {n : Nat}, fs.length < n → (putF f v fs).length < n + 1
  | [], n, h => by show 1 < n + 1; exact Nat.succ_lt_succ h
  | (g, x) :: r, n, h => by
    unfold putF
    split
    · exact Nat.lt_succ_of_lt h
    · cases n with
      | zero => cases h
      | succ n => exact Nat.succ_lt_succ (putF_lt (Nat.lt_of_succ_lt_succ h))
theorem tk_ins {H : Hp} {x C dx : Addr} {fs : List (Str × V)} {o : HO} (h : H x = some (.ins C dx fs)) : TK H (upd H x o) := ⟨fun b ys e => by rw [upd_ne (ne_of e h (by intro z; cases z))]; exact e, fun b ob u e => by rw [upd_ne (ne_of e h (by intro z; cases z))]; exact e⟩
section
variable {P : Program} {w : World} {K : PySem.W.Frag} {mg : Str → Option Value} {base : Heap}
def sp_init (K : PySem.W.Frag) (C : Addr) : Sp := fun vs H Q _ => ∃ (x dx : Addr) (gv vv qv mv : V) (p : Pt), vs = [.ref x, gv, vv, qv, mv] ∧ H x = some (.ins C dx []) ∧ PvAt K H gv vv qv mv p ∧ p.Fine ∧ p.Small ∧
  ∀ H', (∀ b o, b ≠ x → H b = some o → H' b = some o) → PgAt K C H' (.ref x) p → Q .non H'
theorem ok_init (T : PgF K mg) (C : PgC K mg) : FnOk P w K mg base CX0 34 C.f_init C.fd_init ["self", "given", "variables", "procedures", "main"] (sp_init K C.C) := by
  refine C.F_init.ok sc_init (fun vs H Q E h => ?_) (fun cdv A outer s H vs Q E hr h => ?_)
  · obtain ⟨x, dx, gv, vv, qv, mv, p, rfl, _⟩ := h
    rfl
  · obtain ⟨x, dx, gv, vv, qv, mv, p, rfl, hx, hp, f, sm, q⟩ := h
    have nd := sc_init.nd
    have l4 := f.l4
    refine ⟨_, (pss_cons (ps_expr (pe_call ((ok_check_names T).mono (by decide)) hr (by rfl) T.D_check_names.g T.D_check_names.kp T.D_check_names.b .nil pass0 (pa_cons (pv 1) (pa_cons (pv 2) pa_nil))))
      (pss_cons (ps_expr (pe_call ((ok_check_blocks T).mono (by decide)) hr (by rfl) T.D_check_blocks.g T.D_check_blocks.kp T.D_check_blocks.b .nil pass0 (pa_cons (pe_op op_catU (pv 1) (pv 2)) (pa_cons (pv 3) (pa_cons (pv 4) pa_nil)))))
      (pss_cons (ps_asg (pe_call ((ok_program_code T).mono (by decide)) hr (by rfl) T.D_program_code.g T.D_program_code.kp T.D_program_code.b .nil pass0 (pa_cons (pv 3) (pa_cons (pv 4) pa_nil))) (pg_tup rfl (pgs_cons (pg_fld (pv 0)) (pgs_cons (pg_fld (pv 0)) pgs_nil))))
      (pss_cons (ps_expr (pe_call ((ok_check_size T).mono (by decide)) hr (by rfl) T.D_check_size.g T.D_check_size.kp T.D_check_size.b .nil pass0 (pa_cons (pe_fld (pv 0) rfl) pa_nil)))
      (pss_cons (ps_fld (pv 0) (pv 1) rfl)
      (pss_cons (ps_fld (pv 0) (pv 2) rfl)
      (pss_cons (ps_fld (pv 0) (pv 3) rfl)
      (pss_one (ps_fld (pv 0) (pv 4) rfl))))))))), ?_⟩
    refine ⟨_, rfl, _, rfl, gv, vv, p.given, p.vars, rfl, hp.g, hp.v, f.N, f.nd, f.l1, l4, fun H1 s1 => ?_⟩
    have hp1 := hp.tk f (Same.tk s1)
    obtain ⟨ga, rfl, hg⟩ := hp1.g
    obtain ⟨va, rfl, hv⟩ := hp1.v
    refine ⟨_, rfl, _, rfl, ga, va, _, _, rfl, rfl, hg, hv, by rw [List.length_map, List.length_map, sizeLine_eq]; omega, fun np H2 s2 hnp => ?_⟩
    rw [← List.map_append] at hnp
    have hp2 := hp1.tk f (Same.tk s2)
    refine ⟨_, rfl, _, rfl, .ref np, qv, mv, p.names, p.ps, p.m, rfl, ⟨np, rfl, hnp⟩, hp2.q, hp2.m, f.N, f.prs, f.mn, f.msz, fun H3 s3 => ?_⟩
    have hp3 := hp2.tk f (Same.tk s3)
    refine ⟨_, rfl, _, rfl, qv, mv, p.ps, p.m, p.names, rfl, hp3.q, hp3.m, f.N, f.prs, f.mn, f.msz, fun H4 t c d s4 nt ht hc nd4 hd => ?_⟩
    have hp4 := hp3.tk f (Same.tk s4)
    have s14 := ((s1.trans s2).trans s3).trans s4
    have hx4 := s14 _ _ hx
    refine ⟨t, _, rfl, ht, rfl, _, _, rfl, _, rfl, x, C.C, dx, [], rfl, hx4, C.cl, C.n_code, by decide, ?_⟩
    have z0 : ([] : List (Str × V)).length < 1 := by decide
    have z1 := putF_lt (f := "_code") (v := .ref c) z0
    have z2 := putF_lt (f := "_entries") (v := .ref d) z1
    have z3 := putF_lt (f := "_given") (v := .ref ga) z2
    have z4 := putF_lt (f := "_variables") (v := .ref va) z3
    have z5 := putF_lt (f := "_procedures") (v := qv) z4
    generalize hf1 : putF "_code" (V.ref c) [] = f1 at z1 z2 z3 z4 z5 ⊢
    refine ⟨_, _, rfl, _, rfl, x, C.C, dx, f1, rfl, upd_same, C.cl, C.n_entries, by omega, rfl, ?_⟩
    have tk5 : TK H4 (upd (upd H4 x (.ins C.C dx f1)) x (.ins C.C dx (putF "_entries" (V.ref d) f1))) := (tk_ins hx4).trans (tk_ins upd_same)
    have e5 : ∀ b o, b ≠ x → H4 b = some o → (upd (upd H4 x (.ins C.C dx f1)) x (.ins C.C dx (putF "_entries" (V.ref d) f1))) b = some o := fun b o hb e => by
      rw [upd_ne hb, upd_ne hb]
      exact e
    have hx5 : (upd (upd H4 x (.ins C.C dx f1)) x (.ins C.C dx (putF "_entries" (V.ref d) f1))) x = some (.ins C.C dx (putF "_entries" (V.ref d) f1)) := upd_same
    generalize upd (upd H4 x (.ins C.C dx f1)) x (.ins C.C dx (putF "_entries" (V.ref d) f1)) = H5 at tk5 e5 hx5 ⊢
    have lk : (putF "_entries" (V.ref d) f1).lookup ("_code" : Str) = some (.ref c) := by
      rw [lookup_putF, if_neg (by decide +kernel), ← hf1, lookup_putF, if_pos rfl]
    have hc5 : Dp K H5 (.ref c) (.tuple p.code) := dp_keep tk5 hc (by rw [tupD_tuple]; exact code_tupD f)
    refine ⟨_, rfl, x, C.C, dx, _, _, rfl, hx5, C.cl, C.n_code, lk, .ref c, p.code, rfl, hc5, code_tupD f, pgCode_instr _ _, sm.sz, sm.calls, fun H6 s6 => ?_⟩
    have hx6 := s6 _ _ hx5
    have hdx : d ≠ x := fun z => by rw [z, hx4] at hd; cases hd
    have hd6 := s6 _ _ (e5 _ _ hdx hd)
    have e6 : ∀ b o, b ≠ x → H b = some o → H6 b = some o := fun b o hb e => s6 _ _ (e5 _ _ hb (s14 _ _ e))
    have tk6 : TK H4 H6 := tk5.trans (Same.tk s6)
    have hc6 := dp_keep (Same.tk s6) hc5 (by rw [tupD_tuple]; exact code_tupD f)
    refine ⟨_, rfl, _, rfl, x, C.C, dx, _, rfl, hx6, C.cl, C.n_given, by omega, ?_⟩
    refine ⟨_, rfl, _, rfl, x, C.C, dx, _, rfl, upd_same, C.cl, C.n_variables, by omega, ?_⟩
    refine ⟨_, rfl, _, rfl, x, C.C, dx, _, rfl, upd_same, C.cl, C.n_procedures, by omega, ?_⟩
    refine ⟨_, rfl, _, rfl, x, C.C, dx, _, rfl, upd_same, C.cl, C.n_main, by omega, ?_⟩
    have tk7 := (((tk_ins (o := .ins C.C dx (putF "_given" (V.ref ga) (putF "_entries" (V.ref d) f1))) hx6).trans (tk_ins (o := .ins C.C dx (putF "_variables" (V.ref va) (putF "_given" (V.ref ga) (putF "_entries" (V.ref d) f1)))) upd_same)).trans
      (tk_ins (o := .ins C.C dx (putF "_procedures" qv (putF "_variables" (V.ref va) (putF "_given" (V.ref ga) (putF "_entries" (V.ref d) f1))))) upd_same)).trans (tk_ins (o := .ins C.C dx (putF "_main" mv (putF "_procedures" qv (putF "_variables" (V.ref va) (putF "_given" (V.ref ga) (putF "_entries" (V.ref d) f1)))))) upd_same)
    refine q _ (fun b o hb e => ?_) ⟨x, dx, .ref c, d, .ref ga, .ref va, qv, mv, rfl, ?_, hp4.tk f (tk6.trans tk7), dp_keep tk7 hc6 (by rw [tupD_tuple]; exact code_tupD f), ?_⟩
    · rw [upd_ne hb, upd_ne hb, upd_ne hb, upd_ne hb]
      exact e6 b o hb e
    · rw [upd_same, ← hf1]
      rfl
    · rw [upd_ne hdx, upd_ne hdx, upd_ne hdx, upd_ne hdx]
      exact hd6
end
end Sp1

set_option Elab.async false
set_option linter.all false
set_option maxRecDepth 100000
set_option maxHeartbeats 4000000
namespace Pg
open PySem
theorem depth_str (x : Str) : (PyData.str x).depth = 0 := by simp [PyData.depth]
theorem depth_int (i : Int) : (PyData.int i).depth = 0 := by simp [PyData.depth]
theorem depth_tup (ds : List PyData) : (PyData.tuple ds).depth = PyData.depthAll ds + 1 := by simp [PyData.depth]
theorem depthAll_nil : PyData.depthAll [] = 0 := by simp [PyData.depthAll]
theorem depthAll_cons (d : PyData) (ds : List PyData) : PyData.depthAll (d :: ds) = max d.depth (PyData.depthAll ds) := by simp [PyData.depthAll]
mutual
theorem st_depth {names procs : List Str} : ∀ (n : Nat) (s : St), St.Ok names procs n s → s.D.depth ≤ 5 + 2 * n
  | n, .set x e, h => by
    have := e.depth
    simp only [St.D, depth_tup, depthAll_cons, depthAll_nil, depth_str]
    omega
  | n, .swap x y, h => by
    simp only [St.D, depth_tup, depthAll_cons, depthAll_nil, depth_str]
    omega
  | n, .print e, h => by
    have := e.depth
    simp only [St.D, depth_tup, depthAll_cons, depthAll_nil, depth_str]
    omega
  | n, .call x, h => by
    simp only [St.D, depth_tup, depthAll_cons, depthAll_nil, depth_str]
    omega
  | n, .ite e a b, h => by
    obtain ⟨_, m, rfl, h1, h2⟩ := h
    have := e.depth
    have := blD_depth m a h1
    have := blD_depth m b h2
    simp only [St.D, depth_tup, depthAll_cons, depthAll_nil, depth_str]
    omega
  | n, .whl e b, h => by
    obtain ⟨_, m, rfl, h2⟩ := h
    have := e.depth
    have := blD_depth m b h2
    simp only [St.D, depth_tup, depthAll_cons, depthAll_nil, depth_str]
    omega
  | n, .rep e b, h => by
    obtain ⟨_, m, rfl, h2⟩ := h
    have := e.depth
    have := blD_depth m b h2
    simp only [St.D, depth_tup, depthAll_cons, depthAll_nil, depth_str]
    omega
theorem blD_depth {names procs : List Str} : ∀ (n : Nat) (b : List St), blOk names procs n b → PyData.depthAll (blD b) ≤ 5 + 2 * n
  | n, [], _ => by simp only [blD, depthAll_nil]; omega
  | n, s :: r, h => by
    have := st_depth n s h.1
    have := blD_depth n r h.2
    simp only [blD, depthAll_cons]
    omega
end
theorem bD_depth {names procs : List Str} {n : Nat} {b : List St} (h : blOk names procs n b) : (bD b).depth ≤ 6 + 2 * n := by
  have := blD_depth n b h
  rw [blD_map] at this
  unfold bD
  rw [depth_tup]
  omega
theorem prsD_depth {names : List Str} {ps : List Pr} (h : PrsOk names ps) : (prsD ps).depth ≤ 22 := by
  unfold prsD
  rw [depth_tup]
  have : PyData.depthAll (ps.map prD) ≤ 21 := depthAll_le fun d hd => by
    obtain ⟨p, hp, rfl⟩ := List.mem_map.mp hd
    have := bD_depth (h.bl p hp).1
    simp only [prD, depth_tup, depthAll_cons, depthAll_nil, depth_str]
    omega
  omega
theorem strsD_depth (xs : List Str) : (PyData.tuple (xs.map sD)).depth ≤ 1 := by
  rw [depth_tup]
  have : PyData.depthAll (xs.map sD) ≤ 0 := depthAll_le fun d hd => by
    obtain ⟨p, hp, rfl⟩ := List.mem_map.mp hd
    rw [depth_str]
    exact Nat.le_refl _
  omega
theorem strsD_tup {xs : List Str} (h : Names xs) : tupD (.tuple (xs.map sD)) = true := by
  rw [tupD_tuple]
  exact tupAll_iff.mpr fun d hd => by
    obtain ⟨x, hx, rfl⟩ := List.mem_map.mp hd
    exact (h x hx).tup
def strsD (xs : List Str) : PyData := .tuple (xs.map sD)
def eqPt (p q : Pt) : Bool := PyData.eqv (strsD p.given) (strsD q.given) && (PyData.eqv (strsD p.vars) (strsD q.vars) && (PyData.eqv (prsD p.ps) (prsD q.ps) && PyData.eqv (bD p.m) (bD q.m)))
structure Pt.Sh (p : Pt) : Prop where
  g : SeqAt.shaped (strsD p.given) = true
  v : SeqAt.shaped (strsD p.vars) = true
  q : SeqAt.shaped (prsD p.ps) = true
  m : SeqAt.shaped (bD p.m) = true
theorem Pt.Fine.sh {p : Pt} (f : p.Fine) : p.Sh := by
  have hg : Names p.given := fun x hx => f.N x (List.mem_append_left _ hx)
  have hv : Names p.vars := fun x hx => f.N x (List.mem_append_right _ hx)
  have d1 := strsD_depth p.given
  have d2 := strsD_depth p.vars
  have d3 := prsD_depth f.prs
  have d4 := bD_depth f.mn
  exact ⟨shaped_of (strsD_tup hg) (Nat.le_trans d1 (by decide)), shaped_of (strsD_tup hv) (Nat.le_trans d2 (by decide)), shaped_of (prsD_tup f.N f.prs) (by omega), shaped_of (bD_tup f.N f.prs.N f.mn) (by omega)⟩
theorem eqPt_self {p : Pt} (f : p.Fine) : eqPt p p = true := by
  have s := f.sh
  unfold eqPt
  rw [Sp1.eqv_same s.g, Sp1.eqv_same s.v, Sp1.eqv_same s.q, Sp1.eqv_same s.m]
  rfl
end Pg
namespace Sp1
open PySem PySem.Spec PyProof.Rows L2 Pg
section
variable {P : Program} {w : World} {K : PySem.W.Frag} {mg : Str → Option Value} {base : Heap}
theorem ok_code (C : PgC K mg) : FnOk P w K mg base CX0 1 C.f_code C.fd_code ["self"] (getSp C.C "_code") := by
  refine C.F_code.ok sc_code (fun vs H Q E h => ?_) (fun cdv A outer s H vs Q E hr h => ?_)
  · obtain ⟨a, dx, fs, v, rfl, _⟩ := h
    rfl
  · obtain ⟨a, dx, fs, v, rfl, ea, l, q⟩ := h
    exact ⟨_, pss_one (ps_ret (pe_fld (pv 0) rfl)), .ref a, rfl, a, C.C, dx, fs, v, rfl, ea, C.cl, C.n_code, l, q⟩
theorem ok_given (C : PgC K mg) : FnOk P w K mg base CX0 1 C.f_given C.fd_given ["self"] (getSp C.C "_given") := by
  refine C.F_given.ok sc_given (fun vs H Q E h => ?_) (fun cdv A outer s H vs Q E hr h => ?_)
  · obtain ⟨a, dx, fs, v, rfl, _⟩ := h
    rfl
  · obtain ⟨a, dx, fs, v, rfl, ea, l, q⟩ := h
    exact ⟨_, pss_one (ps_ret (pe_fld (pv 0) rfl)), .ref a, rfl, a, C.C, dx, fs, v, rfl, ea, C.cl, C.n_given, l, q⟩
theorem ok_variables (C : PgC K mg) : FnOk P w K mg base CX0 1 C.f_variables C.fd_variables ["self"] (getSp C.C "_variables") := by
  refine C.F_variables.ok sc_variables (fun vs H Q E h => ?_) (fun cdv A outer s H vs Q E hr h => ?_)
  · obtain ⟨a, dx, fs, v, rfl, _⟩ := h
    rfl
  · obtain ⟨a, dx, fs, v, rfl, ea, l, q⟩ := h
    exact ⟨_, pss_one (ps_ret (pe_fld (pv 0) rfl)), .ref a, rfl, a, C.C, dx, fs, v, rfl, ea, C.cl, C.n_variables, l, q⟩
theorem ok_procedures (C : PgC K mg) : FnOk P w K mg base CX0 1 C.f_procedures C.fd_procedures ["self"] (getSp C.C "_procedures") := by
  refine C.F_procedures.ok sc_procedures (fun vs H Q E h => ?_) (fun cdv A outer s H vs Q E hr h => ?_)
  · obtain ⟨a, dx, fs, v, rfl, _⟩ := h
    rfl
  · obtain ⟨a, dx, fs, v, rfl, ea, l, q⟩ := h
    exact ⟨_, pss_one (ps_ret (pe_fld (pv 0) rfl)), .ref a, rfl, a, C.C, dx, fs, v, rfl, ea, C.cl, C.n_procedures, l, q⟩
theorem ok_main (C : PgC K mg) : FnOk P w K mg base CX0 1 C.f_main C.fd_main ["self"] (getSp C.C "_main") := by
  refine C.F_main.ok sc_main (fun vs H Q E h => ?_) (fun cdv A outer s H vs Q E hr h => ?_)
  · obtain ⟨a, dx, fs, v, rfl, _⟩ := h
    rfl
  · obtain ⟨a, dx, fs, v, rfl, ea, l, q⟩ := h
    exact ⟨_, pss_one (ps_ret (pe_fld (pv 0) rfl)), .ref a, rfl, a, C.C, dx, fs, v, rfl, ea, C.cl, C.n_main, l, q⟩
def sp_names (K : PySem.W.Frag) (C : Addr) : Sp := fun vs H Q _ => ∃ (x : V) (p : Pt), vs = [x] ∧ PgAt K C H x p ∧ p.given.length + p.vars.length ≤ 4 ∧ ∀ H' v, Same H H' → Ts K H' v p.names → Q v H'
theorem ok_names (C : PgC K mg) : FnOk P w K mg base CX0 1 C.f_names C.fd_names ["self"] (sp_names K C.C) := by
  refine C.F_names.ok sc_names (fun vs H Q E h => ?_) (fun cdv A outer s H vs Q E hr h => ?_)
  · obtain ⟨x, p, rfl, _⟩ := h
    rfl
  · obtain ⟨x, p, rfl, ⟨a, dx, cv, d, gv, vv, qv, mv, rfl, h1, h2, h3, h4⟩, l4, q⟩ := h
    obtain ⟨ga, rfl, hg⟩ := h2.g
    obtain ⟨va, rfl, hv⟩ := h2.v
    refine ⟨_, (pss_one (ps_ret (pe_op op_catU (pe_fld (pv 0) rfl) (pe_fld (pv 0) rfl)))), ?_⟩
    refine ⟨_, rfl, a, C.C, dx, _, _, rfl, h1, C.cl, C.n_given, pgF_given _ _ _ _ _ _, _, rfl, a, C.C, dx, _, _, rfl, h1, C.cl, C.n_variables, pgF_variables _ _ _ _ _ _, ga, va, _, _, rfl, rfl, hg, hv, by rw [List.length_map, List.length_map, sizeLine_eq]; omega, fun p H2 s2 hp => ?_⟩
    rw [← List.map_append] at hp
    exact q _ _ s2 ⟨p, rfl, hp⟩
def sp_eq (K : PySem.W.Frag) (C : Addr) : Sp := fun vs H Q _ => ∃ (x y : V) (p : Pt), vs = [x, y] ∧ PgAt K C H x p ∧ p.Sh ∧
  ((∃ t, TyX K H y t ∧ PySem.W.kitOne K t (.ref C) = some false ∧ Q (.bl false) H) ∨ ∃ p', PgAt K C H y p' ∧ p'.Sh ∧ Q (.bl (eqPt p p')) H)
theorem ok_eq (T : PgF K mg) (C : PgC K mg) : FnOk P w K mg base CX0 1 C.f_eq C.fd_eq ["self", "other"] (sp_eq K C.C) := by
  refine C.F_eq.ok sc_eq (fun vs H Q E h => ?_) (fun cdv A outer s H vs Q E hr h => ?_)
  · obtain ⟨x, y, p, rfl, _⟩ := h
    rfl
  · obtain ⟨x, y, p, rfl, ⟨a, dx, cv, d, gv, vv, qv, mv, rfl, h1, h2, h3, h4⟩, sh, h⟩ := h
    refine ⟨_, (pss_one (ps_ret (pe_and (pe_callB call_isi (by rfl) T.m_isinstance (by decide +kernel) (pa_cons (pv 1) (pa_cons (pe_glob (v := .ref C.C) rfl C.g rfl) pa_nil))) (pe_and (pe_cmpR (op_eqD hr.units) (pe_fld (pv 0) rfl) (pe_fld (pv 1) rfl) (nomark _)) (pe_and (pe_cmpR (op_eqD hr.units) (pe_fld (pv 0) rfl) (pe_fld (pv 1) rfl) (nomark _)) (pe_and (pe_cmpR (op_eqD hr.units) (pe_fld (pv 0) rfl) (pe_fld (pv 1) rfl) (nomark _)) (pe_one (pe_cmpR (op_eqD hr.units) (pe_fld (pv 0) rfl) (pe_fld (pv 1) rfl) (nomark _))))))))), ?_⟩
    rcases h with ⟨t, ty, kt, q⟩ | ⟨p', ⟨a', dx', cv', d', gv', vv', qv', mv', rfl, h1', h2', h3', h4'⟩, sh', q⟩
    · exact ⟨_, rfl, y, .ref C.C, t, _, false, rfl, .own C.C, ty, kt, false, rfl, iteF q⟩
    · have ty := ty_ins h1' C.cl C.is
      refine ⟨_, rfl, .ref a', .ref C.C, _, _, true, rfl, .own C.C, ty, kit_self, true, rfl, iteT ?_⟩
      unfold eqPt at q
      refine ⟨_, rfl, a, C.C, dx, _, _, rfl, h1, C.cl, C.n_given, pgF_given _ _ _ _ _ _, _, rfl, a', C.C, dx', _, _, rfl, h1', C.cl, C.n_given, pgF_given _ _ _ _ _ _, _, _, h2.g.dp, h2'.g.dp, sh.g, sh'.g, _, rfl, ite2 (fun e1 => ?_) (fun e1 => ?_)⟩
      · rw [show PyData.eqv (strsD p.given) (strsD p'.given) = true from e1, Bool.true_and] at q
        refine ⟨_, rfl, a, C.C, dx, _, _, rfl, h1, C.cl, C.n_variables, pgF_variables _ _ _ _ _ _, _, rfl, a', C.C, dx', _, _, rfl, h1', C.cl, C.n_variables, pgF_variables _ _ _ _ _ _, _, _, h2.v.dp, h2'.v.dp, sh.v, sh'.v, _, rfl, ite2 (fun e2 => ?_) (fun e2 => ?_)⟩
        · rw [show PyData.eqv (strsD p.vars) (strsD p'.vars) = true from e2, Bool.true_and] at q
          refine ⟨_, rfl, a, C.C, dx, _, _, rfl, h1, C.cl, C.n_procedures, pgF_procedures _ _ _ _ _ _, _, rfl, a', C.C, dx', _, _, rfl, h1', C.cl, C.n_procedures, pgF_procedures _ _ _ _ _ _, _, _, h2.q, h2'.q, sh.q, sh'.q, _, rfl, ite2 (fun e3 => ?_) (fun e3 => ?_)⟩
          · rw [e3, Bool.true_and] at q
            exact ⟨_, rfl, a, C.C, dx, _, _, rfl, h1, C.cl, C.n_main, pgF_main _ _ _ _ _ _, _, rfl, a', C.C, dx', _, _, rfl, h1', C.cl, C.n_main, pgF_main _ _ _ _ _ _, _, _, h2.m, h2'.m, sh.m, sh'.m, q⟩
          · rw [show PyData.eqv (prsD p.ps) (prsD p'.ps) = false from Bool.eq_false_iff.mpr e3, Bool.false_and] at q
            exact q
        · rw [show PyData.eqv (strsD p.vars) (strsD p'.vars) = false from Bool.eq_false_iff.mpr e2, Bool.false_and] at q
          exact q
      · rw [show PyData.eqv (strsD p.given) (strsD p'.given) = false from Bool.eq_false_iff.mpr e1, Bool.false_and] at q
        exact q
end
end Sp1

set_option Elab.async false
set_option linter.all false
set_option maxRecDepth 100000
set_option maxHeartbeats 400000
namespace Pg
open PySem
/-! what is right, as a property of any data -/
def TermP (names : List Str) (d : PyData) : Prop := ∃ t : Int × Str, d = tD t ∧ t.1 ≠ 0 ∧ t.2 ∈ names
def TermsP (names : List Str) (d : PyData) : Prop := ∃ ts : List (Int × Str), d = .tuple (ts.map tD) ∧ (∀ t ∈ ts, t.1 ≠ 0 ∧ t.2 ∈ names) ∧ (ts.map (·.2)).Pairwise sLt
/-- all but the size of the numbers -/
def LongP (names : List Str) (d : PyData) : Prop := ∃ s : Sm, d = s.D ∧ (∀ t ∈ s.ts, t.1 ≠ 0 ∧ t.2 ∈ names) ∧ (s.ts.map (·.2)).Pairwise sLt ∧ 1 ≤ s.d ∧ gcdL s.nums = 1
def SumP (names : List Str) (d : PyData) : Prop := ∃ s : Sm, d = s.D ∧ s.Ok names
def ExP (names : List Str) (d : PyData) : Prop := ∃ e : Ex, d = e.D ∧ e.Ok names
/-- few names -/
structure Few (names : List Str) : Prop where
  N : Names names
  l4 : names.length ≤ 4
theorem ts_len {names : List Str} (f : names.length ≤ 4) {ts : List (Int × Str)} (h : ∀ t ∈ ts, t.1 ≠ 0 ∧ t.2 ∈ names) (asc : (ts.map (·.2)).Pairwise sLt) : ts.length ≤ 4 := by
  have := List.Nodup.length_le_of_subset (asc_nodup asc) (l₂ := names) fun x hx => by
    obtain ⟨t, ht, rfl⟩ := List.mem_map.mp hx
    exact (h t ht).2
  rw [List.length_map] at this
  omega
theorem sum_iff {names : List Str} (f : Few names) {d : PyData} : SumP names d ↔ ∃ s : Sm, d = s.D ∧ (∀ t ∈ s.ts, t.1 ≠ 0 ∧ t.2 ∈ names) ∧ (s.ts.map (·.2)).Pairwise sLt ∧ 1 ≤ s.d ∧ gcdL s.nums = 1 ∧ ∀ x ∈ s.nums, -great < x ∧ x < great := by
  constructor
  · rintro ⟨s, e, ok⟩
    exact ⟨s, e, ok.nz, ok.asc, ok.dp, ok.gcd, ok.sh⟩
  · rintro ⟨s, e, nz, asc, dp, g, sh⟩
    exact ⟨s, e, nz, asc, dp, by have := ts_len f.l4 nz asc; omega, g, sh⟩
theorem tD_inj {t u : Int × Str} (h : tD t = tD u) : t = u := by
  obtain ⟨a, b⟩ := t
  obtain ⟨c, d⟩ := u
  simp only [tD, PyData.tuple.injEq, List.cons.injEq, PyData.int.injEq, PyData.str.injEq, and_true] at h
  rw [h.1, h.2]
theorem tDs_inj : ∀ {ts us : List (Int × Str)}, ts.map tD = us.map tD → ts = us
  | [], [], _ => rfl
  | [], _ :: _, h => by cases h
  | _ :: _, [], h => by cases h
  | t :: r, u :: q, h => by
    rw [List.map_cons, List.map_cons, List.cons.injEq] at h
    rw [tD_inj h.1, tDs_inj h.2]
theorem Sm.D_inj {s t : Sm} (h : s.D = t.D) : s = t := by
  obtain ⟨a, b, c⟩ := s
  obtain ⟨a', b', c'⟩ := t
  simp only [Sm.D, PyData.tuple.injEq, List.cons.injEq, PyData.int.injEq, and_true, true_and] at h
  rw [h.1, tDs_inj h.2.1, h.2.2]
/-- terms found one by one -/
theorem terms_of {names : List Str} : ∀ {ds : List PyData}, (∀ d ∈ ds, TermP names d) → ∃ ts : List (Int × Str), ds = ts.map tD ∧ ∀ t ∈ ts, t.1 ≠ 0 ∧ t.2 ∈ names
  | [], _ => ⟨[], rfl, fun t h => by cases h⟩
  | d :: r, h => by
    obtain ⟨t, rfl, h1⟩ := h d List.mem_cons_self
    obtain ⟨ts, e, h2⟩ := terms_of (ds := r) fun d hd => h d (List.mem_cons_of_mem _ hd)
    refine ⟨t :: ts, by rw [e]; rfl, fun u hu => ?_⟩
    rcases List.mem_cons.mp hu with rfl | hu
    · exact h1
    · exact h2 u hu
theorem shaped_tup {ds : List PyData} (h : SeqAt.shaped (.tuple ds) = true) : ∀ d ∈ ds, SeqAt.shaped d = true := by
  have h1 := Bool.and_eq_true_iff.mp h
  have h2 : PyData.canLayAll0 ds = true := by simpa only [PyData.canLay0] using h1.1
  have h3 := of_decide_eq_true h1.2
  simp only [PyData.depth] at h3
  intro d hd
  refine Bool.and_eq_true_iff.mpr ⟨?_, decide_eq_true (Nat.le_trans (depthAll_mem hd) (by omega))⟩
  clear h1 h3 h
  induction ds with
  | nil => cases hd
  | cons x r ih =>
    simp only [PyData.canLayAll0, Bool.and_eq_true] at h2
    rcases List.mem_cons.mp hd with rfl | hd
    · exact h2.1
    · exact ih h2.2 hd
end Pg
namespace Sp1
open PySem PySem.Spec PyProof.Rows L2 Pg
section
variable {P : Program} {w : World} {K : PySem.W.Frag} {mg : Str → Option Value} {base : Heap}
mutual
theorem dp_of_gp {H : Hp} : ∀ {d : PyData} {v : V}, Gp K H v d → tupD d = true → Dp K H v d
  | .none, _, h, _ => by cases h; exact .non
  | .bool b, _, h, _ => by cases h; exact .bl b
  | .int i, _, h, _ => by cases h; exact .int i
  | .str x, _, h, _ => by cases h; exact .str x
  | .list ds, _, _, t => by simp [tupD] at t
  | .tuple ds, _, h, t => by
    cases h with
    | tup hs ha => exact .tup hs (dpAll_of_gp ha (by simpa [tupD] using t))
  | .dict _, _, _, t => by simp [tupD] at t
theorem dpAll_of_gp {H : Hp} : ∀ {ds : List PyData} {vs : List V}, GpAll K H vs ds → tupAll ds = true → DpAll K H vs ds
  | [], _, h, _ => by cases h; exact .nil
  | d :: ds, _, h, t => by
    simp only [tupAll, Bool.and_eq_true] at t
    cases h with
    | cons a b => exact .cons (dp_of_gp a t.1) (dpAll_of_gp b t.2)
end
theorem gp_two {H : Hp} {ys : List V} {ds : List PyData} (h : GpAll K H ys ds) (l : ds.length = 2) : ∃ x1 x2 d1 d2, ys = [x1, x2] ∧ ds = [d1, d2] ∧ Gp K H x1 d1 ∧ Gp K H x2 d2 := by
  cases h with
  | nil => cases l
  | cons h1 h => cases h with
    | nil => cases l
    | cons h2 h => cases h with
      | nil => exact ⟨_, _, _, _, rfl, rfl, h1, h2⟩
      | cons h3 h => simp at l
theorem gp_three {H : Hp} {ys : List V} {ds : List PyData} (h : GpAll K H ys ds) (l : ds.length = 3) : ∃ x1 x2 x3 d1 d2 d3, ys = [x1, x2, x3] ∧ ds = [d1, d2, d3] ∧ Gp K H x1 d1 ∧ Gp K H x2 d2 ∧ Gp K H x3 d3 := by
  cases h with
  | nil => cases l
  | cons h1 h => cases h with
    | nil => cases l
    | cons h2 h => cases h with
      | nil => cases l
      | cons h3 h => cases h with
        | nil => exact ⟨_, _, _, _, _, _, rfl, rfl, h1, h2, h3⟩
        | cons h4 h => simp at l
theorem gp_four {H : Hp} {ys : List V} {ds : List PyData} (h : GpAll K H ys ds) (l : ds.length = 4) : ∃ x1 x2 x3 x4 d1 d2 d3 d4, ys = [x1, x2, x3, x4] ∧ ds = [d1, d2, d3, d4] ∧ Gp K H x1 d1 ∧ Gp K H x2 d2 ∧ Gp K H x3 d3 ∧ Gp K H x4 d4 := by
  cases h with
  | nil => cases l
  | cons h1 h => cases h with
    | nil => cases l
    | cons h2 h => cases h with
      | nil => cases l
      | cons h3 h => cases h with
        | nil => cases l
        | cons h4 h => cases h with
          | nil => exact ⟨_, _, _, _, _, _, _, _, rfl, rfl, h1, h2, h3, h4⟩
          | cons h5 h => simp at l
/-- data that the program's tests may meet -/
def GOk (d : PyData) : Prop := SeqAt.shaped d = true ∨ d = .dict []
def isIntD : PyData → Bool
  | .int _ => true
  | _ => false
def sp_isintG (K : PySem.W.Frag) : Sp := fun vs H Q _ => ∃ v d, vs = [v] ∧ Gp K H v d ∧ Q (.bl (isIntD d)) H
theorem okG_is_integer (T : PgF K mg) : FnOk P w K mg base CX0 1 T.f_is_integer T.fd_is_integer ["value"] (sp_isintG K) := by
  refine T.D_is_integer.F.ok sc_is_integer (fun vs H Q E h => ?_) (fun cdv A outer s H vs Q E hr h => ?_)
  · obtain ⟨v, d, rfl, _⟩ := h
    rfl
  · obtain ⟨v, d, rfl, hd, q⟩ := h
    refine ⟨_, (pss_one (ps_ret (pe_and (pe_callB call_isi (by rfl) T.m_isinstance (by decide +kernel) (pa_cons (pv 0) (pa_cons (pe_ty (n := "int") (by rfl) T.m_int (by decide +kernel)) pa_nil))) (pe_one (pe_not (pe_callB call_isi (by rfl) T.m_isinstance (by decide +kernel) (pa_cons (pv 0) (pa_cons (pe_ty (n := "bool") (by rfl) T.m_bool (by decide +kernel)) pa_nil)))))))), ?_⟩
    have ty := gp_ty hd
    obtain ⟨b, k1, k2, k3⟩ : ∃ b : Bool, PySem.W.kitOne K (.type (tyG d)) (.type "int") = some b ∧ (b = true → PySem.W.kitOne K (.type (tyG d)) (.type "bool") = some (!isIntD d)) ∧ (b = false → isIntD d = false) := by
      cases d with
      | int i => exact ⟨true, (show PySem.W.kitOne K (.type "int") (.type "int") = some true from kit_ty (by decide +kernel)), fun _ => (show PySem.W.kitOne K (.type "int") (.type "bool") = some false from kit_ty (by decide +kernel)), fun z => by cases z⟩
      | bool b => exact ⟨true, (show PySem.W.kitOne K (.type "bool") (.type "int") = some true from kit_ty (by decide +kernel)), fun _ => (show PySem.W.kitOne K (.type "bool") (.type "bool") = some true from kit_ty (by decide +kernel)), fun z => by cases z⟩
      | none => exact ⟨false, (show PySem.W.kitOne K (.type "NoneType") (.type "int") = some false from kit_ty (by decide +kernel)), (fun z => by cases z), fun _ => rfl⟩
      | str x => exact ⟨false, (show PySem.W.kitOne K (.type "str") (.type "int") = some false from kit_ty (by decide +kernel)), (fun z => by cases z), fun _ => rfl⟩
      | list x => exact ⟨false, (show PySem.W.kitOne K (.type "list") (.type "int") = some false from kit_ty (by decide +kernel)), (fun z => by cases z), fun _ => rfl⟩
      | tuple x => exact ⟨false, (show PySem.W.kitOne K (.type "tuple") (.type "int") = some false from kit_ty (by decide +kernel)), (fun z => by cases z), fun _ => rfl⟩
      | dict x => exact ⟨false, (show PySem.W.kitOne K (.type "dict") (.type "int") = some false from kit_ty (by decide +kernel)), (fun z => by cases z), fun _ => rfl⟩
    refine ⟨_, rfl, v, .ty "int", _, _, b, rfl, .ty _, ty, k1, b, rfl, ?_⟩
    cases b with
    | false =>
      rw [k3 rfl] at q
      exact iteF q
    | true =>
      refine iteT ?_
      refine ⟨_, rfl, v, .ty "bool", _, _, _, rfl, .ty _, ty, k2 rfl, _, rfl, ?_⟩
      rw [Bool.not_not]
      exact q
def sp_isshortG : Sp := fun vs H Q _ => ∃ i : Int, vs = [.int i] ∧ Q (.bl (decide (-great < i) && decide (i < great))) H
theorem okG_is_short (T : PgF K mg) : FnOk P w K mg base CX0 2 T.f_is_short T.fd_is_short ["value"] sp_isshortG := by
  refine T.D_is_short.F.ok sc_is_short (fun vs H Q E h => ?_) (fun cdv A outer s H vs Q E hr h => ?_)
  · obtain ⟨i, rfl, _⟩ := h
    rfl
  · obtain ⟨i, rfl, q⟩ := h
    refine ⟨_, (pss_one (ps_ret (pe_and (pe_call ((okG_is_integer T).mono (by decide)) hr (by rfl) T.D_is_integer.g T.D_is_integer.kp T.D_is_integer.b .nil pass0 (pa_cons (pv 0) pa_nil)) (pe_one (pe_chain op_lt op_lt (pe_un un_neg (pe_glob (v := .int Pg.great) rfl T.c_SHORT_BOUND ⟨_, rfl⟩)) (pv 0) (pe_glob (v := .int Pg.great) rfl T.c_SHORT_BOUND ⟨_, rfl⟩) ))))), ?_⟩
    refine ⟨_, rfl, _, _, rfl, .int i, true, rfl, iteT ?_⟩
    refine ⟨_, rfl, _, rfl, _, _, rfl, rfl, _, rfl, ?_⟩
    refine ite2 (fun e => ?_) (fun e => ?_)
    · rw [show decide (-great < i) = true from e] at q
      exact ⟨_, _, rfl, rfl, q⟩
    · rw [show decide (-great < i) = false from Bool.eq_false_iff.mpr e] at q
      exact q
def sp_comdivG : Sp := fun vs H Q _ => ∃ (g : Addr) (u : List Int), vs = [.ref g] ∧ H g = some (.lst (u.map V.int)) ∧ Q (.int (gcdL u : Nat)) H
theorem gcdL_one : ∀ (u : List Int) (i : Nat), gcdL (u.take i) = 1 → gcdL u = 1 := fun u i h => by
  have e : u = u.take i ++ u.drop i := (List.take_append_drop i u).symm
  rw [e]
  unfold gcdL at h ⊢
  rw [List.foldl_append, h]
  generalize u.drop i = r
  clear h e
  induction r with
  | nil => rfl
  | cons x r ih =>
    rw [List.foldl_cons, Nat.gcd_one_left]
    exact ih
theorem okG_common_divisor (T : PgF K mg) : FnOk P w K mg base CX0 1 T.f_common_divisor T.fd_common_divisor ["numbers"] sp_comdivG := by
  refine T.D_common_divisor.F.ok sc_common_divisor (fun vs H Q E h => ?_) (fun cdv A outer s H vs Q E hr h => ?_)
  · obtain ⟨g, u, rfl, _⟩ := h
    rfl
  · obtain ⟨g, u, rfl, hg, q⟩ := h
    have nd := sc_common_divisor.nd
    refine ⟨_, (pss_cons (ps_set (i := 1) nd rfl (.inl rfl) pe_int)
      (pss_cons (ps_for PassesOwn.never rfl (pi_list (pv 0)) (pg_name (i := 2) nd rfl (.inl rfl))
      (pss_cons (ps_set (i := 1) nd rfl (.inl rfl) (pe_callBfun cr_gcd (by rfl) T.m_gcd (pa_cons (pv 1) (pa_cons (pv 2) pa_nil))))
        (pss_one (ps_if (pt_cmpR op_eq (pv 1) pe_int (nomark _))
        (pss_one (ps_ret pe_int))
        pss_nil))))
      (pss_one (ps_ret (pv 1))))), ?_⟩
    refine ⟨_, rfl, g, rfl, ⟨_, SqL.of hg⟩, for_list (K := K) (a := g) (xs := u.map V.int) (fun i σ H' => H' = H ∧ ∃ y, σ = [some (.ref g), some (.int (gcdL (u.take i) : Nat)), y])
      ⟨rfl, none, rfl⟩ (fun i σ H' _ h => by rw [h.1]; exact SqL.of hg) ?_ ?_⟩
    · rintro i x σ H' hx ⟨rfl, y, rfl⟩
      obtain ⟨hi, rfl⟩ := int_of hx
      refine ⟨_, rfl, _, rfl, _, _, rfl, ?_⟩
      refine ⟨_, rfl, rfl, _, rfl, ite2 (fun e => ?_) fun _ => ⟨rfl, some (.int u[i]), by rw [gcdL_take hi]; rfl⟩⟩
      have e := V.int.inj (of_decide_eq_true e)
      have e1 : gcdL (u.take (i + 1)) = 1 := by
        rw [gcdL_take hi]
        exact Int.ofNat.inj e
      have := gcdL_one u _ e1
      rw [this] at q
      exact q
    · rintro σ H' ⟨rfl, y, rfl⟩
      refine ⟨_, rfl, ?_⟩
      rw [List.length_map, List.take_length]
      exact q
def sp_istermG (K : PySem.W.Frag) : Sp := fun vs H Q _ => ∃ v nv d names, vs = [v, nv] ∧ Gp K H v d ∧ SeqAt.shaped d = true ∧ Tl K H nv names ∧ Names names ∧ ∀ b : Bool, (b = true ↔ TermP names d) → Q (.bl b) H
theorem not_tuple {v : V} {d : PyData} {H : Hp} (hd : Gp K H v d) (h : ∀ ds, d ≠ .tuple ds) : TyX K H v (.type (tyG d)) ∧ PySem.W.kitOne K (.type (tyG d)) (.type "tuple") = some false := by
  refine ⟨gp_ty hd, ?_⟩
  cases d with
  | tuple ds => exact absurd rfl (h ds)
  | none => exact (show PySem.W.kitOne K (.type "NoneType") (.type "tuple") = some false from kit_ty (by decide +kernel))
  | bool b => exact (show PySem.W.kitOne K (.type "bool") (.type "tuple") = some false from kit_ty (by decide +kernel))
  | int i => exact (show PySem.W.kitOne K (.type "int") (.type "tuple") = some false from kit_ty (by decide +kernel))
  | str x => exact (show PySem.W.kitOne K (.type "str") (.type "tuple") = some false from kit_ty (by decide +kernel))
  | list x => exact (show PySem.W.kitOne K (.type "list") (.type "tuple") = some false from kit_ty (by decide +kernel))
  | dict x => exact (show PySem.W.kitOne K (.type "dict") (.type "tuple") = some false from kit_ty (by decide +kernel))
theorem okG_is_term (T : PgF K mg) : FnOk P w K mg base CX0 2 T.f_is_term T.fd_is_term ["candidate", "names"] (sp_istermG K) := by
  refine T.D_is_term.F.ok sc_is_term (fun vs H Q E h => ?_) (fun cdv A outer s H vs Q E hr h => ?_)
  · obtain ⟨v, nv, d, names, rfl, _⟩ := h
    rfl
  · obtain ⟨v, nv, d, names, rfl, hd, sh, ⟨na, rfl, hn⟩, hN, q⟩ := h
    have nd := sc_is_term.nd
    refine ⟨_, (pss_cons (ps_if (PW.pt (pw_or (pt_not (pt_val (pe_callB call_isi (by rfl) T.m_isinstance (by decide +kernel) (pa_cons (pv 0) (pa_cons (pe_ty (n := "tuple") (by rfl) T.m_tuple (by decide +kernel)) pa_nil))))) (pw_or1 (pt_cmpR op_ne (pe_callB call_len_seq (by rfl) T.m_len PySem.boot_len (pa_cons (pv 0) pa_nil)) pe_int (nomark _)))))
      (pss_one (ps_ret pe_bl))
      pss_nil)
      (pss_cons (ps_asg (pv 0) (pg_tup rfl (pgs_cons (pg_name (i := 2) nd rfl (.inl rfl)) (pgs_cons (pg_name (i := 3) nd rfl (.inl rfl)) pgs_nil))))
      (pss_one (ps_ret (pe_and (pe_call ((okG_is_integer T).mono (by decide)) hr (by rfl) T.D_is_integer.g T.D_is_integer.kp T.D_is_integer.b .nil pass0 (pa_cons (pv 2) pa_nil)) (pe_and (pe_cmpR op_ne (pv 2) pe_int (nomark _)) (pe_one (pe_cmpR (op_inG hr.units) (pv 3) (pv 1) (by with_unfolding_all rfl))))))))), ?_⟩
    by_cases ht : ∃ ds, d = .tuple ds
    · obtain ⟨ds, rfl⟩ := ht
      obtain ⟨a, ys, rfl, hS, hA⟩ := gp_tup hd
      have yl := gpAll_len hA
      refine ⟨_, rfl, .ref a, .ty "tuple", _, _, true, rfl, .ty _, tyx_tupS hS, kit_ty (by decide +kernel), true, rfl, iteF ?_⟩
      refine ⟨_, rfl, a, _, rfl, .inr hS, rfl, _, rfl, ite2 (fun e => ?_) (fun e => ?_)⟩
      · refine q false ⟨(fun z => by cases z), ?_⟩
        rintro ⟨t, e2, _⟩
        obtain rfl : ds = [.int t.1, .str t.2] := PyData.tuple.inj e2
        rw [show ys.length = 2 from yl] at e
        exact absurd e (by decide)
      · have l2 : ds.length = 2 := by
          rw [Bool.not_eq_true, Bool.not_eq_false'] at e
          have := V.int.inj (of_decide_eq_true e)
          omega
        obtain ⟨x1, x2, d1, d2, rfl, rfl, h1, h2⟩ := gp_two hA l2
        · have sd := shaped_tup sh
          refine ⟨_, rfl, a, _, rfl, hS, rfl, _, _, rfl, _, _, rfl, rfl, ?_⟩
          refine ⟨_, rfl, _, d1, rfl, h1, ?_⟩
          cases hi : isIntD d1 with
          | false =>
            refine ⟨false, rfl, iteF (q false ⟨(fun z => by cases z), ?_⟩)⟩
            rintro ⟨t, e2, _⟩
            have e3 : [d1, d2] = [.int t.1, .str t.2] := PyData.tuple.inj e2
            simp only [List.cons.injEq, and_true] at e3
            rw [e3.1] at hi
            cases hi
          | true =>
            obtain ⟨i, rfl⟩ : ∃ i, d1 = .int i := by
              cases d1 <;> first | exact ⟨_, rfl⟩ | cases hi
            obtain rfl := gp_int h1
            refine ⟨true, rfl, iteT ?_⟩
            refine ⟨_, rfl, rfl, _, rfl, ite2 (fun e0 => ?_) (fun e0 => ?_)⟩
            · refine ⟨_, rfl, _, rfl, na, names, d2, rfl, hn, h2, .inl (sd _ (by simp)), fun x hx => (hN x hx).tup, ?_⟩
              refine q _ ?_
              show nameIn names d2 = true ↔ _
              have i0 : i ≠ 0 := fun z => by
                rw [z] at e0
                exact absurd e0 (by decide)
              constructor
              · intro z
                obtain ⟨x, rfl⟩ : ∃ x, d2 = .str x := by
                  cases d2 <;> first | exact ⟨_, rfl⟩ | cases z
                exact ⟨(i, x), rfl, i0, of_decide_eq_true z⟩
              · rintro ⟨t, e2, _, hm⟩
                have e3 : [.int i, d2] = [.int t.1, .str t.2] := PyData.tuple.inj e2
                simp only [List.cons.injEq, and_true] at e3
                rw [e3.2]
                exact decide_eq_true hm
            · refine q false ⟨(fun z => by cases z), ?_⟩
              rintro ⟨t, e2, h0, hm⟩
              have e3 : [.int i, d2] = [.int t.1, .str t.2] := PyData.tuple.inj e2
              simp only [List.cons.injEq, and_true] at e3
              rw [Bool.not_eq_true, Bool.not_eq_false'] at e0
              have := V.int.inj (of_decide_eq_true e0)
              have := PyData.int.inj e3.1
              exact absurd (by omega) h0
    · have ht : ∀ ds, d ≠ .tuple ds := fun ds e => ht ⟨ds, e⟩
      obtain ⟨ty, kt⟩ := not_tuple hd ht
      refine ⟨_, rfl, v, .ty "tuple", _, _, false, rfl, .ty _, ty, kt, false, rfl, iteT (iteT (q false ⟨(fun z => by cases z), ?_⟩))⟩
      rintro ⟨t, e, _⟩
      exact absurd e (ht _)
end
end Sp1

set_option Elab.async false
set_option linter.all false
set_option maxRecDepth 100000
set_option maxHeartbeats 1000000
namespace Pg
open PySem PySem.Spec PyProof.Rows L2
mutual
/-- no list, no tuple and no text within is long, no int great -/
def smlD (L B : Nat) : PyData → Bool
  | .list ds => decide (ds.length ≤ L) && smlAll L B ds
  | .tuple ds => decide (ds.length ≤ L) && smlAll L B ds
  | .str x => decide (x.length ≤ 500)
  | .int i => decide (i.natAbs < 2 ^ B)
  | _ => true
def smlAll (L B : Nat) : List PyData → Bool
  | [] => true
  | d :: r => smlD L B d && smlAll L B r
end
theorem smlAll_iff {L B : Nat} {ds : List PyData} : smlAll L B ds = true ↔ ∀ d ∈ ds, smlD L B d = true := by
  induction ds with
  | nil => simp [smlAll]
  | cons d r ih => simp [smlAll, ih]
mutual
theorem sml_mono {L B L' B' : Nat} (h1 : L ≤ L') (h2 : B ≤ B') : ∀ d : PyData, smlD L B d = true → smlD L' B' d = true
  | .none, _ => rfl
  | .bool _, _ => rfl
  | .int i, h => by
    simp only [smlD, decide_eq_true_eq] at h ⊢
    exact Nat.lt_of_lt_of_le h (Nat.pow_le_pow_right (by decide) h2)
  | .str x, h => by
    simp only [smlD] at h ⊢
    exact h
  | .dict _, _ => rfl
  | .list ds, h => by
    simp only [smlD, Bool.and_eq_true, decide_eq_true_eq] at h ⊢
    exact ⟨Nat.le_trans h.1 h1, smlAll_mono h1 h2 ds h.2⟩
  | .tuple ds, h => by
    simp only [smlD, Bool.and_eq_true, decide_eq_true_eq] at h ⊢
    exact ⟨Nat.le_trans h.1 h1, smlAll_mono h1 h2 ds h.2⟩
theorem smlAll_mono {L B L' B' : Nat} (h1 : L ≤ L') (h2 : B ≤ B') : ∀ ds : List PyData, smlAll L B ds = true → smlAll L' B' ds = true
  | [], _ => rfl
  | d :: r, h => by
    simp only [smlAll, Bool.and_eq_true] at h ⊢
    exact ⟨sml_mono h1 h2 d h.1, smlAll_mono h1 h2 r h.2⟩
end
/-- data of some kind, not too large -/
structure Gd (d : PyData) : Prop where
  sh : SeqAt.shaped d = true
  sm : smlD 500 1900 d = true
theorem Gd.len {ds : List PyData} (h : Gd (.tuple ds)) : ds.length ≤ 500 := by
  have := h.sm
  simp only [smlD, Bool.and_eq_true, decide_eq_true_eq] at this
  exact this.1
theorem Gd.mem {ds : List PyData} (h : Gd (.tuple ds)) : ∀ d ∈ ds, Gd d := fun d hd => by
  have := h.sm
  simp only [smlD, Bool.and_eq_true, decide_eq_true_eq] at this
  exact ⟨shaped_tup h.sh d hd, smlAll_iff.mp this.2 d hd⟩
theorem eqv_str1 {x y : Str} : PyData.eqv (.str x) (.str y) = decide (x = y) := by
  simp only [PyData.eqv]
  rw [Bool.eq_iff_iff, beq_iff_eq, decide_eq_true_eq]
theorem eqvAll_strs : ∀ {xs ys : List Str}, PyData.eqvAll (xs.map sD) (ys.map sD) = decide (xs = ys)
  | [], [] => by simp [PyData.eqvAll]
  | [], _ :: _ => by simp [PyData.eqvAll]
  | _ :: _, [] => by simp [PyData.eqvAll]
  | x :: r, y :: q => by
    simp only [List.map_cons, PyData.eqvAll]
    rw [eqvAll_strs (xs := r) (ys := q), eqv_str1, Bool.eq_iff_iff, Bool.and_eq_true, decide_eq_true_eq, decide_eq_true_eq, decide_eq_true_eq, List.cons.injEq]
theorem eqv_strs {xs ys : List Str} : PyData.eqv (.list (xs.map sD)) (.list (ys.map sD)) = decide (xs = ys) := by
  simp only [PyData.eqv]
  exact eqvAll_strs
/-- sorted and no text twice: they ascend -/
theorem asc_of {xs : List Str} (nd : xs.Nodup) (s : sortedS xs = true) : xs.Pairwise sLt := by
  have h : xs.Pairwise (fun a b => ¬ sLt b a) := by
    cases xs with
    | nil => exact .nil
    | cons y r => exact rising_pw y r s
  refine (h.and nd).imp fun {a b} hab => ?_
  by_cases l : sLt a b
  · exact l
  · exact absurd (sLt_tri l hab.1) hab.2
theorem perm_of {xs zs : List Str} (h1 : xs.Nodup) (h2 : zs.Nodup) (m : ∀ k, k ∈ zs ↔ k ∈ xs) : zs.Perm xs := (List.perm_ext_iff_of_nodup h2 h1).mpr m
/-- xs is what sorted(set(xs)) is exactly if it ascends -/
theorem sort_iff {xs zs us : List Str} (nd : zs.Nodup) (m : ∀ k, k ∈ zs ↔ k ∈ xs) (p : us.Perm zs) (s : sortedS us = true) : xs = us ↔ xs.Pairwise sLt := by
  constructor
  · intro e
    rw [e]
    exact asc_of (p.nodup_iff.mpr nd) s
  · intro asc
    exact (sorted_eq asc (p.trans (perm_of (asc_nodup asc) nd m)) s).symm
end Pg
namespace Sp1
open PySem PySem.Spec PyProof.Rows L2 Pg
section
variable {P : Program} {w : World} {K : PySem.W.Frag} {mg : Str → Option Value} {base : Heap}
/-- a list of truths about ds, as far as i -/
def Bls (H1 : Hp) (D : Addr) (T : PyData → Prop) (ds : List PyData) (i : Nat) (H : Hp) : Prop := Same H1 H ∧ ∃ bs : List Bool, H D = some (.lst (bs.map V.bl)) ∧ bs.length = i ∧ ∀ (j : Nat) (b : Bool) (d : PyData), bs[j]? = some b → ds[j]? = some d → (b = true ↔ T d)
theorem Bls.start {H1 : Hp} {D : Addr} {T : PyData → Prop} {ds : List PyData} (nD : H1 D = none) : Bls H1 D T ds 0 (upd H1 D (.lst [])) := ⟨same_new nD, [], upd_same, rfl, fun j b d h => by simp at h⟩
theorem Bls.turn {H1 H H4 : Hp} {D : Addr} {T : PyData → Prop} {ds : List PyData} {i : Nat} {b : Bool} {d : PyData} (h : Bls H1 D T ds i H) (nD : H1 D = none) (s : Same H H4) (hi : i ≤ 1000) (hd : ds[i]? = some d) (hb : b = true ↔ T d) :
    ∃ acc, H4 D = some (.lst acc) ∧ acc.length < sizeLine ∧ Bls H1 D T ds (i + 1) (upd H4 D (.lst (acc ++ [V.bl b]))) := by
  obtain ⟨s1, bs, h1, h2, h3⟩ := h
  refine ⟨_, s _ _ h1, by rw [List.length_map, h2]; exact small1000 hi, same_at nD (s1.trans s), bs ++ [b], by rw [upd_same, List.map_append]; rfl, by rw [List.length_append, h2]; rfl, fun j c e hj he => ?_⟩
  by_cases hlt : j < bs.length
  · rw [List.getElem?_append_left hlt] at hj
    exact h3 j c e hj he
  · rw [List.getElem?_append_right (by omega)] at hj
    have hj0 : j - bs.length = 0 := by
      have := (List.getElem?_eq_some_iff.mp hj).1
      simp at this
      omega
    rw [hj0] at hj
    have hj' : j = i := by omega
    subst hj'
    rw [hd] at he
    cases he
    cases hj
    exact hb
theorem Bls.all {H1 H : Hp} {D : Addr} {T : PyData → Prop} {ds : List PyData} (h : Bls H1 D T ds ds.length H) : ∃ bs : List Bool, H D = some (.lst (bs.map V.bl)) ∧ (bs.all id = true ↔ ∀ d ∈ ds, T d) := by
  obtain ⟨s1, bs, h1, h2, h3⟩ := h
  refine ⟨bs, h1, ?_⟩
  rw [List.all_eq_true]
  constructor
  · intro h d hd
    obtain ⟨j, hj, e⟩ := List.mem_iff_getElem.mp hd
    have hj2 : j < bs.length := by omega
    exact (h3 j bs[j] d (List.getElem?_eq_getElem hj2) (by rw [List.getElem?_eq_getElem hj, e])).mp (h _ (List.getElem_mem hj2))
  · intro h b hb
    obtain ⟨j, hj, e⟩ := List.mem_iff_getElem.mp hb
    have hj2 : j < ds.length := by omega
    exact (h3 j b ds[j] (by rw [List.getElem?_eq_getElem hj, e]) (List.getElem?_eq_getElem hj2)).mpr (h _ (List.getElem_mem hj2))
def sp_aretermsG (K : PySem.W.Frag) : Sp := fun vs H Q _ => ∃ v nv d names, vs = [v, nv] ∧ Gp K H v d ∧ Gd d ∧ Tl K H nv names ∧ Few names ∧ ∀ (b : Bool) H', Same H H' → (b = true ↔ TermsP names d) → Q (.bl b) H'
theorem okG_are_terms (T : PgF K mg) : FnOk P w K mg base CX0 3 T.f_are_terms T.fd_are_terms ["candidate", "names"] (sp_aretermsG K) := by
  refine T.D_are_terms.F.ok sc_are_terms (fun vs H Q E h => ?_) (fun cdv A outer s H vs Q E hr h => ?_)
  · obtain ⟨v, nv, d, names, rfl, _⟩ := h
    rfl
  · obtain ⟨v, nv, d, names, rfl, hd, gd, hn, few, q⟩ := h
    have hN := few.N
    have nd := sc_are_terms.nd
    refine ⟨_, (pss_cons (ps_if (PW.pt (pw_or (pt_not (pt_val (pe_callB call_isi (by rfl) T.m_isinstance (by decide +kernel) (pa_cons (pv 0) (pa_cons (pe_ty (n := "tuple") (by rfl) T.m_tuple (by decide +kernel)) pa_nil))))) (pw_or1 (pt_not (pt_val (pe_callB (cr_all rfl) (by rfl) T.m_all (by decide +kernel) (pa_cons (pe_lc (own := [("term", 3)]) (g := (gName 3)) (tt := tYes) rfl nd (pi_tup (pv 0)) (blkOk_by (N := N_are_terms) (sc := defScope s_are_terms) (by decide +kernel)) (fun _ _ _ _ _ => (pg_name (i := 3) nd rfl (.inl rfl))) (fun _ _ _ _ _ => pts_nil) (fun _ _ _ _ _ => (pe_call ((okG_is_term T).mono (by decide)) hr (by rfl) T.D_is_term.g T.D_is_term.kp T.D_is_term.b .nil pass0 (pa_cons (pv 3) (pa_cons (pv 1) pa_nil))))) pa_nil)))))))
      (pss_one (ps_ret pe_bl))
      pss_nil)
      (pss_cons (ps_setLc (i := 2) (own := [("_", 4), ("name", 5)]) (g := (gTup K 2 (gCons (gName 4) (gCons (gName 5) gNil)))) (tt := tYes) rfl nd rfl rfl (sw_true rfl rfl rfl (by decide +kernel)) (pi_tup (pv 0)) (blkOk_by (N := N_are_terms) (sc := defScope s_are_terms) (by decide +kernel)) (fun _ _ _ _ _ => (pg_tup rfl (pgs_cons (pg_name (i := 4) nd rfl (.inl rfl)) (pgs_cons (pg_name (i := 5) nd rfl (.inl rfl)) pgs_nil)))) (fun _ _ _ _ _ => pts_nil) (fun _ _ _ _ _ => (pv 5)))
      (pss_one (ps_ret (pe_cmpR (op_eqD hr.units) (pv 2) (pe_callB (cr_sortedT2 rfl) (by rfl) T.m_sorted (by decide +kernel) (pa_cons (pe_callTy (cr_setTd rfl) (by rfl) T.m_set (by decide +kernel) (pa_cons (pv 2) pa_nil)) pa_nil)) (nomark _)))))), ?_⟩
    by_cases ht : ∃ ds, d = .tuple ds
    · obtain ⟨ds, rfl⟩ := ht
      obtain ⟨a, ys, rfl, hS, hA⟩ := gp_tup hd
      have yl := gpAll_len hA
      have h60 := gd.len
      refine ⟨_, rfl, .ref a, .ty "tuple", _, _, true, rfl, .ty _, tyx_tupS hS, kit_ty (by decide +kernel), true, rfl, iteF ?_⟩
      refine ⟨_, rfl, a, rfl, ⟨_, hS⟩, fun D nD => ?_⟩
      refine lc_it (walk_tup (K := K) (a := a) (xs := ys)) (Bls H D (TermP names) ds) (Bls.start nD) (fun i H' _ h => Same.sqt h.1 hS) ?_ ?_
      · rintro i v H1 H2 hi h ⟨rfl, hv⟩
        obtain ⟨d, hd, hdp⟩ := gpAll_at hA hv
        refine ⟨rfl, ?_⟩
        dsimp only [tYes]
        refine iteT ?_
        refine ⟨_, rfl, _, rfl, _, nv, d, names, rfl, hdp.same h.1, (gd.mem d (List.mem_of_getElem? hd)).sh, hn.same h.1, hN, fun b hb => ?_⟩
        exact h.turn nD (Same.refl _) (by omega) hd hb
      · rintro H1 h
        rw [yl] at h
        have s1 := h.1
        obtain ⟨bs, hD, hall⟩ := h.all
        refine ⟨D, _, rfl, SqL.of hD, _, rfl, ?_⟩
        refine ite2 (fun e => ?_) (fun e => ?_)
        · refine q false _ s1 ⟨(fun z => by cases z), ?_⟩
          rintro ⟨ts, e2, h0, _⟩
          obtain rfl : ds = ts.map tD := PyData.tuple.inj e2
          have : bs.all id = true := hall.mpr fun d hd => by
            obtain ⟨t, ht, rfl⟩ := List.mem_map.mp hd
            exact ⟨t, rfl, h0 t ht⟩
          rw [this] at e
          cases e
        · have e : bs.all id = true := by
            cases hb : bs.all id with
            | true => rfl
            | false =>
              rw [hb] at e
              exact absurd rfl e
          obtain ⟨ts, rfl, h0⟩ := terms_of (hall.mp e)
          have htt : ∀ t ∈ ts, tupD (.str t.2) = true := fun t ht => (hN _ (h0 t ht).2).tup
          have hA' : DpAll K H ys (ts.map tD) := dpAll_of_gp hA (tupAll_iff.mpr fun d hd => by
            obtain ⟨t, ht, rfl⟩ := List.mem_map.mp hd
            exact tD_tup (htt t ht))
          rw [List.length_map] at h60 yl
          refine ⟨_, rfl, a, rfl, ⟨_, Same.sqt s1 hS⟩, fun D2 nD2 => ?_⟩
          refine lc_it (walk_tup (K := K) (a := a) (xs := ys)) (Acc H1 D2 fun i => (((ts.map (·.2)).map V.str)[i]?).getD .non) (Acc.start nD2) (fun i H' _ h' => Same.sqt (s1.trans h'.1) hS) ?_ ?_
          · rintro i v H3 H4 hi h' ⟨rfl, hv⟩
            obtain ⟨d, hd, hdp⟩ := dpAll_at hA' hv
            rw [List.getElem?_map] at hd
            obtain ⟨t, ht', rfl⟩ := Option.map_eq_some_iff.mp hd
            have hm := List.mem_of_getElem? ht'
            obtain ⟨ta, rfl, hts⟩ := dp_tD (dp_keep (Same.tk (s1.trans h'.1)) hdp (tD_tup (htt t hm)))
            refine ⟨ta, _, rfl, hts, rfl, _, _, rfl, _, _, rfl, rfl, rfl, ?_⟩
            dsimp only [tYes]
            refine iteT ⟨_, rfl, ?_⟩
            refine h'.turn nD2 (Same.refl _) (by omega) ?_
            rw [List.getElem?_map, List.getElem?_map, ht']
            rfl
          · rintro H3 h'
            have hD2 := acc_get h' (by rw [List.length_map, List.length_map, yl])
            have hsame := s1.trans h'.1
            refine ⟨_, rfl, _, rfl, D2, _, rfl, .inl (SqL.of hD2), by rw [List.length_map]; omega, fun S zs nS hz1 hz2 => ?_⟩
            have zl : zs.length ≤ 4 := Nat.le_trans (nodup_len hz1 fun k hk => by
              obtain ⟨t, ht, e⟩ := List.mem_map.mp ((hz2 k).mp hk)
              rw [← e]
              exact (h0 t ht).2) few.l4
            refine ⟨S, zs, rfl, upd_same, by omega, fun us p hu hs np => ?_⟩
            have hx1 : ∀ x ∈ ts.map (·.2), tupD (.str x) = true := fun x hx => by
              obtain ⟨t, ht1, rfl⟩ := List.mem_map.mp hx
              exact htt t ht1
            have sh : SeqAt.shaped (.list ((ts.map (·.2)).map sD)) = true := shaped_strs hx1
            have sh2 : SeqAt.shaped (.list (us.map sD)) = true := shaped_strs fun x hx => hx1 x ((hz2 x).mp (hu.mem_iff.mp hx))
            have nS' : S ≠ D2 := fun z => by rw [z] at nS; rw [hD2] at nS; cases nS
            refine ⟨.list ((ts.map (·.2)).map sD), .list (us.map sD), .lst (SqL.of (same_new np _ _ (same_new nS _ _ hD2))) (dpAll_strs _), .lst (SqL.of upd_same) (dpAll_strs _), sh, sh2, ?_⟩
            refine q _ _ ((hsame.trans (same_new nS)).trans (same_new np)) ?_
            rw [eqv_strs, decide_eq_true_eq, sort_iff hz1 hz2 hu hs]
            constructor
            · intro asc
              exact ⟨ts, rfl, h0, asc⟩
            · rintro ⟨ts', e2, _, asc⟩
              rw [tDs_inj (PyData.tuple.inj e2)]
              exact asc
    · have ht : ∀ ds, d ≠ .tuple ds := fun ds e => ht ⟨ds, e⟩
      obtain ⟨ty, kt⟩ := not_tuple hd ht
      refine ⟨_, rfl, v, .ty "tuple", _, _, false, rfl, .ty _, ty, kt, false, rfl, iteT (iteT (q false _ (Same.refl _) ⟨(fun z => by cases z), ?_⟩))⟩
      rintro ⟨t, e, _⟩
      exact absurd e (ht _)
end
end Sp1

set_option Elab.async false
set_option linter.all false
set_option maxRecDepth 100000
set_option maxHeartbeats 1000000
namespace Pg
open PySem PySem.Spec PyProof.Rows L2
theorem eqv_strD {x : Str} {d : PyData} : PyData.eqv d (.str x) = true ↔ d = .str x := by
  cases d with
  | str y =>
    rw [eqv_str1, decide_eq_true_eq]
    exact ⟨fun e => by rw [e], fun e => PyData.str.inj e⟩
  | _ => simp [PyData.eqv]
theorem eqv_readD {d : PyData} : PyData.eqv d (.tuple [.str "read"]) = true ↔ d = .tuple [.str "read"] := by
  cases d with
  | tuple ds =>
    simp only [PyData.eqv]
    match ds with
    | [] => simp [PyData.eqvAll]
    | [x] =>
      simp only [PyData.eqvAll, Bool.and_true]
      rw [eqv_strD]
      simp
    | x :: y :: r => simp [PyData.eqvAll]
  | _ => simp [PyData.eqv]
theorem Long_tup {names : List Str} (n : Names names) {s : Sm} (h : ∀ t ∈ s.ts, t.1 ≠ 0 ∧ t.2 ∈ names) : tupD s.D = true := by
  have h1 : tupAll (s.ts.map tD) = true := tupAll_iff.mpr fun d hd => by
    obtain ⟨t, ht, rfl⟩ := List.mem_map.mp hd
    exact tD_tup (n _ (h t ht).2).tup
  have h0 : tupD (.str "sum") = true := by decide +kernel
  simp only [Sm.D, tupD, tupAll] at h0 h1 ⊢
  rw [h0, h1]
  rfl
end Pg
namespace Sp1
open PySem PySem.Spec PyProof.Rows L2 Pg
section
variable {P : Program} {w : World} {K : PySem.W.Frag} {mg : Str → Option Value} {base : Heap}
theorem notEq4 {n : Nat} (h : n ≠ 4) : (!decide (V.int (n : Int) = V.int 4)) = true := by
  rw [Bool.not_eq_true', decide_eq_false_iff_not]
  intro z
  have := V.int.inj z
  omega
theorem notEq3 {n : Nat} (h : n ≠ 3) : (!decide (V.int (n : Int) = V.int 3)) = true := by
  rw [Bool.not_eq_true', decide_eq_false_iff_not]
  intro z
  have := V.int.inj z
  omega
def sp_longG (K : PySem.W.Frag) : Sp := fun vs H Q _ => ∃ v nv d names, vs = [v, nv] ∧ Gp K H v d ∧ (Gd d ∨ d = .dict []) ∧ Tl K H nv names ∧ Few names ∧ ∀ (b : Bool) H', Same H H' → (b = true ↔ LongP names d) → Q (.bl b) H'
theorem okG_is_long_sum (T : PgF K mg) : FnOk P w K mg base CX0 4 T.f_is_long_sum T.fd_is_long_sum ["candidate", "names"] (sp_longG K) := by
  refine T.D_is_long_sum.F.ok sc_is_long_sum (fun vs H Q E h => ?_) (fun cdv A outer s H vs Q E hr h => ?_)
  · obtain ⟨v, nv, d, names, rfl, _⟩ := h
    rfl
  · obtain ⟨v, nv, d, names, rfl, hd, gd, hn, few, q⟩ := h
    have nd := sc_is_long_sum.nd
    have hN := few.N
    refine ⟨_, (pss_cons (ps_if (PW.pt (pw_or (pt_not (pt_val (pe_callB call_isi (by rfl) T.m_isinstance (by decide +kernel) (pa_cons (pv 0) (pa_cons (pe_ty (n := "tuple") (by rfl) T.m_tuple (by decide +kernel)) pa_nil))))) (pw_or (pt_cmpR op_ne (pe_callB call_len_seq (by rfl) T.m_len PySem.boot_len (pa_cons (pv 0) pa_nil)) pe_int (nomark _)) (pw_or1 (pt_cmpR (op_neG hr.units) (pe_ix (r := rIxT K) ix_tup (pv 0) pe_int (fun _ _ => rfl)) pe_str (nomark _))))))
      (pss_one (ps_ret pe_bl))
      pss_nil)
      (pss_cons (ps_asg (pv 0) (pg_tup rfl (pgs_cons (pg_name (i := 2) nd rfl (.inl rfl)) (pgs_cons (pg_name (i := 3) nd rfl (.inl rfl)) (pgs_cons (pg_name (i := 4) nd rfl (.inl rfl)) (pgs_cons (pg_name (i := 5) nd rfl (.inl rfl)) pgs_nil))))))
      (pss_cons (ps_if (PW.pt (pw_or (pt_not (pt_val (pe_call ((okG_is_integer T).mono (by decide)) hr (by rfl) T.D_is_integer.g T.D_is_integer.kp T.D_is_integer.b .nil pass0 (pa_cons (pv 3) pa_nil)))) (pw_or (pt_not (pt_val (pe_call ((okG_are_terms T).mono (by decide)) hr (by rfl) T.D_are_terms.g T.D_are_terms.kp T.D_are_terms.b .nil pass0 (pa_cons (pv 4) (pa_cons (pv 1) pa_nil))))) (pw_or (pt_not (pt_val (pe_call ((okG_is_integer T).mono (by decide)) hr (by rfl) T.D_is_integer.g T.D_is_integer.kp T.D_is_integer.b .nil pass0 (pa_cons (pv 5) pa_nil)))) (pw_or1 (pt_cmpR op_lt (pv 5) pe_int (nomark _)))))))
      (pss_one (ps_ret pe_bl))
      pss_nil)
      (pss_one (ps_ret (pe_cmpR op_eq (pe_call ((okG_common_divisor T).mono (by decide)) hr (by rfl) T.D_common_divisor.g T.D_common_divisor.kp T.D_common_divisor.b .nil pass0 (pa_cons (pe_call ((ok_sum_numbers T).mono (by decide)) hr (by rfl) T.D_sum_numbers.g T.D_sum_numbers.kp T.D_sum_numbers.b .nil pass0 (pa_cons (pv 0) pa_nil)) pa_nil)) pe_int (nomark _))))))), ?_⟩
    by_cases ht : ∃ ds, d = .tuple ds
    · obtain ⟨ds, rfl⟩ := ht
      have gd : Gd (.tuple ds) := gd.resolve_right (fun z => by cases z)
      have hd0 := hd
      obtain ⟨a, ys, rfl, hS, hA⟩ := gp_tup hd
      have yl := gpAll_len hA
      refine ⟨_, rfl, .ref a, .ty "tuple", _, _, true, rfl, .ty _, tyx_tupS hS, kit_ty (by decide +kernel), true, rfl, iteF ?_⟩
      refine ⟨_, rfl, a, _, rfl, .inr hS, rfl, _, rfl, ?_⟩
      rw [yl]
      by_cases l4 : ds.length = 4
      · obtain ⟨x1, x2, x3, x4, d1, d2, d3, d4, rfl, rfl, h1, h2, h3, h4⟩ := gp_four hA l4
        have gm := gd.mem
        refine iteF ?_
        refine ⟨_, rfl, a, _, _, _, rfl, rfl, hS, rfl, d1, .str "sum", h1, .str _, (gm _ (by simp)).sh, by decide +kernel, _, rfl, ?_⟩
        cases ev : PyData.eqv d1 (.str "sum") with
        | false =>
          refine iteT (q false _ (Same.refl _) ⟨(fun z => by cases z), ?_⟩)
          rintro ⟨s, e, _⟩
          have e := PyData.tuple.inj e
          simp only [List.cons.injEq, and_true] at e
          rw [eqv_strD.mpr e.1] at ev
          cases ev
        | true =>
          obtain rfl := eqv_strD.mp ev
          obtain rfl := gp_str h1
          refine iteF ?_
          refine ⟨_, rfl, a, _, rfl, hS, rfl, _, _, rfl, _, _, rfl, _, _, rfl, _, _, rfl, rfl, ?_⟩
          refine ⟨_, rfl, x2, d2, rfl, h2, _, rfl, ?_⟩
          cases i2 : isIntD d2 with
          | false =>
            refine iteT (q false _ (Same.refl _) ⟨(fun z => by cases z), ?_⟩)
            rintro ⟨s, e, _⟩
            have e := PyData.tuple.inj e
            simp only [List.cons.injEq, and_true] at e
            rw [e.2.1] at i2
            cases i2
          | true =>
            obtain ⟨c, rfl⟩ : ∃ c, d2 = .int c := by
              cases d2 <;> first | exact ⟨_, rfl⟩ | cases i2
            obtain rfl := gp_int h2
            refine iteF ?_
            refine ⟨_, rfl, _, rfl, x3, nv, d3, names, rfl, h3, gm _ (by simp), hn, few, fun b H1 s1 hb => ?_⟩
            cases b with
            | false =>
              refine ⟨_, rfl, iteT (q false _ s1 ⟨(fun z => by cases z), ?_⟩)⟩
              rintro ⟨s, e, nz, asc, _⟩
              have e := PyData.tuple.inj e
              simp only [List.cons.injEq, and_true] at e
              have := hb.mpr ⟨s.ts, e.2.2.1, nz, asc⟩
              cases this
            | true =>
              obtain ⟨ts, rfl, nz, asc⟩ := hb.mp rfl
              refine ⟨_, rfl, iteF ?_⟩
              refine ⟨_, rfl, x4, d4, rfl, h4.same s1, _, rfl, ?_⟩
              cases i4 : isIntD d4 with
              | false =>
                refine iteT (q false _ s1 ⟨(fun z => by cases z), ?_⟩)
                rintro ⟨s, e, _⟩
                have e := PyData.tuple.inj e
                simp only [List.cons.injEq, and_true] at e
                rw [e.2.2.2] at i4
                cases i4
              | true =>
                obtain ⟨dv, rfl⟩ : ∃ c, d4 = .int c := by
                  cases d4 <;> first | exact ⟨_, rfl⟩ | cases i4
                obtain rfl := gp_int h4
                refine iteF ?_
                refine ⟨_, rfl, _, _, rfl, rfl, _, rfl, ?_⟩
                have eS : ∀ s : Sm, PyData.tuple [.str "sum", .int c, .tuple (ts.map tD), .int dv] = s.D → s = ⟨c, ts, dv⟩ := fun s e => (Sm.D_inj (t := ⟨c, ts, dv⟩) e.symm)
                by_cases hlt : dv < 1
                · rw [decide_eq_true hlt]
                  refine iteT (q false _ s1 ⟨(fun z => by cases z), ?_⟩)
                  rintro ⟨s, e, _, _, h, _⟩
                  rw [eS s e] at h
                  have h : 1 ≤ dv := h
                  omega
                · rw [decide_eq_false hlt]
                  refine iteF ?_
                  have hl := ts_len few.l4 nz asc
                  have tt : tupD (Sm.D ⟨c, ts, dv⟩) = true := Long_tup hN nz
                  refine ⟨_, rfl, .ref a, ⟨c, ts, dv⟩, rfl, dp_of_gp (hd0.same s1) tt, tt, by show ts.length ≤ 60; omega, fun H2 p s2 np hp => ?_⟩
                  refine ⟨p, _, rfl, hp, rfl, ?_⟩
                  refine q _ _ (s1.trans s2) ?_
                  rw [decide_eq_true_eq]
                  constructor
                  · intro e
                    have e := V.int.inj e
                    exact ⟨⟨c, ts, dv⟩, rfl, nz, asc, by show 1 ≤ dv; omega, Int.ofNat.inj e⟩
                  · rintro ⟨s, e, _, _, _, g⟩
                    rw [eS s e] at g
                    rw [g]
                    rfl
      · rw [notEq4 l4]
        refine iteT (q false _ (Same.refl _) ⟨(fun z => by cases z), ?_⟩)
        rintro ⟨s, e, _⟩
        rw [PyData.tuple.inj e] at l4
        exact absurd rfl l4
    · have ht : ∀ ds, d ≠ .tuple ds := fun ds e => ht ⟨ds, e⟩
      obtain ⟨ty, kt⟩ := not_tuple hd ht
      refine ⟨_, rfl, v, .ty "tuple", _, _, false, rfl, .ty _, ty, kt, false, rfl, iteT (iteT (q false _ (Same.refl _) ⟨(fun z => by cases z), ?_⟩))⟩
      rintro ⟨t, e, _⟩
      exact absurd e (ht _)
def sp_sumG (K : PySem.W.Frag) : Sp := fun vs H Q _ => ∃ v nv d names, vs = [v, nv] ∧ Gp K H v d ∧ (Gd d ∨ d = .dict []) ∧ Tl K H nv names ∧ Few names ∧ ∀ (b : Bool) H', Same H H' → (b = true ↔ SumP names d) → Q (.bl b) H'
theorem int_shD {u : List Int} {D : Addr} : True := trivial
theorem okG_is_sum (T : PgF K mg) : FnOk P w K mg base CX0 5 T.f_is_sum T.fd_is_sum ["candidate", "names"] (sp_sumG K) := by
  refine T.D_is_sum.F.ok sc_is_sum (fun vs H Q E h => ?_) (fun cdv A outer s H vs Q E hr h => ?_)
  · obtain ⟨v, nv, d, names, rfl, _⟩ := h
    rfl
  · obtain ⟨v, nv, d, names, rfl, hd, gd, hn, few, q⟩ := h
    have nd := sc_is_sum.nd
    have hN := few.N
    refine ⟨_, (pss_one (ps_ret (pe_and (pe_call ((okG_is_long_sum T).mono (by decide)) hr (by rfl) T.D_is_long_sum.g T.D_is_long_sum.kp T.D_is_long_sum.b .nil pass0 (pa_cons (pv 0) (pa_cons (pv 1) pa_nil))) (pe_one (pe_callB (cr_all rfl) (by rfl) T.m_all (by decide +kernel) (pa_cons (pe_lc (own := [("number", 2)]) (g := (gName 2)) (tt := tYes) rfl nd (pi_list (pe_call ((ok_sum_numbers T).mono (by decide)) hr (by rfl) T.D_sum_numbers.g T.D_sum_numbers.kp T.D_sum_numbers.b .nil pass0 (pa_cons (pv 0) pa_nil))) (blkOk_by (N := N_is_sum) (sc := defScope s_is_sum) (by decide +kernel)) (fun _ _ _ _ _ => (pg_name (i := 2) nd rfl (.inl rfl))) (fun _ _ _ _ _ => pts_nil) (fun _ _ _ _ _ => (pe_call ((okG_is_short T).mono (by decide)) hr (by rfl) T.D_is_short.g T.D_is_short.kp T.D_is_short.b .nil pass0 (pa_cons (pv 2) pa_nil)))) pa_nil)))))), ?_⟩
    refine ⟨_, rfl, _, rfl, v, nv, d, names, rfl, hd, gd, hn, few, fun b H1 s1 hb => ?_⟩
    cases b with
    | false =>
      refine ⟨false, rfl, iteF (q false _ s1 ⟨(fun z => by cases z), fun z => ?_⟩)⟩
      obtain ⟨s, e, nz, asc, dp, g, _⟩ := (sum_iff few).mp z
      have := hb.mpr ⟨s, e, nz, asc, dp, g⟩
      cases this
    | true =>
      obtain ⟨s, rfl, nz, asc, dp, g⟩ := hb.mp rfl
      have hl := ts_len few.l4 nz asc
      have tt : tupD s.D = true := Long_tup hN nz
      refine ⟨true, rfl, iteT ?_⟩
      refine ⟨_, rfl, v, s, rfl, dp_of_gp (hd.same s1) tt, tt, by omega, fun H2 p s2 np hp => ?_⟩
      refine ⟨p, rfl, ⟨_, SqL.of hp⟩, fun D nD => ?_⟩
      have nl : s.nums.length = s.ts.length + 2 := by simp [Sm.nums]
      refine lc_it (walk_list (K := K) (a := p) (xs := s.nums.map V.int)) (Bls H2 D (fun d => ∃ i, d = .int i ∧ -great < i ∧ i < great) (s.nums.map PyData.int)) (Bls.start nD) (fun i H' _ h => SqL.of (h.1 _ _ hp)) ?_ ?_
      · rintro i v H3 H4 hi h ⟨rfl, hv⟩
        obtain ⟨hi', rfl⟩ := int_of hv
        refine ⟨rfl, ?_⟩
        dsimp only [tYes]
        refine iteT ?_
        refine ⟨_, rfl, _, rfl, ?_⟩
        refine h.turn nD (Same.refl _) (by omega) (d := .int s.nums[i]) (by rw [List.getElem?_map, List.getElem?_eq_getElem hi']; rfl) ?_
        rw [Bool.and_eq_true, decide_eq_true_eq, decide_eq_true_eq]
        exact ⟨fun h => ⟨_, rfl, h⟩, fun ⟨j, e, h⟩ => by rw [PyData.int.inj e]; exact h⟩
      · rintro H3 h
        have s3 := h.1
        have h : Bls H2 D (fun d => ∃ i, d = .int i ∧ -great < i ∧ i < great) (s.nums.map PyData.int) (s.nums.map PyData.int).length H3 := by
          rw [List.length_map] at h ⊢
          exact h
        obtain ⟨bs, hD, hall⟩ := h.all
        refine ⟨D, _, rfl, SqL.of hD, ?_⟩
        refine q _ _ ((s1.trans s2).trans s3) ?_
        rw [hall, sum_iff few]
        constructor
        · intro h
          refine ⟨s, rfl, nz, asc, dp, g, fun x hx => ?_⟩
          obtain ⟨i, e, h⟩ := h (.int x) (List.mem_map.mpr ⟨x, hx, rfl⟩)
          rw [PyData.int.inj e]
          exact h
        · rintro ⟨s', e, _, _, _, _, h⟩ d hd
          obtain rfl := Sm.D_inj e
          obtain ⟨x, hx, rfl⟩ := List.mem_map.mp hd
          exact ⟨x, rfl, h x hx⟩
theorem not_read_sum {names : List Str} (h : SumP names (.tuple [.str "read"])) : False := by
  obtain ⟨s, e, _⟩ := h
  have e := PyData.tuple.inj e
  simp at e
def sp_exprG (K : PySem.W.Frag) : Sp := fun vs H Q _ => ∃ v nv d names, vs = [v, nv] ∧ Gp K H v d ∧ (Gd d ∨ d = .dict []) ∧ Tl K H nv names ∧ Few names ∧ ∀ (b : Bool) H', Same H H' → (b = true ↔ ExP names d) → Q (.bl b) H'
theorem pairs_tup : ∀ x ∈ pairWords, tupD (.str x) = true := fun x hx => pairWords_tup hx
theorem ex_cases {names : List Str} {d : PyData} : ExP names d ↔ SumP names d ∨ d = .tuple [.str "read"] ∨ ∃ w a b, d = .tuple [.str w, a, b] ∧ w ∈ pairWords ∧ SumP names a ∧ SumP names b := by
  constructor
  · rintro ⟨e, rfl, ok⟩
    cases e with
    | sum s => exact .inl ⟨s, rfl, ok⟩
    | read => exact .inr (.inl rfl)
    | two w a b => exact .inr (.inr ⟨w, a.D, b.D, rfl, ok.1, ⟨a, rfl, ok.2.1⟩, ⟨b, rfl, ok.2.2⟩⟩)
  · rintro (⟨s, rfl, ok⟩ | rfl | ⟨w, a, b, rfl, hw, ⟨x, rfl, okx⟩, ⟨y, rfl, oky⟩⟩)
    · exact ⟨.sum s, rfl, ok⟩
    · exact ⟨.read, rfl, trivial⟩
    · exact ⟨.two w x y, rfl, hw, okx, oky⟩
theorem okG_is_expression (T : PgF K mg) : FnOk P w K mg base CX0 6 T.f_is_expression T.fd_is_expression ["candidate", "names"] (sp_exprG K) := by
  refine T.D_is_expression.F.ok sc_is_expression (fun vs H Q E h => ?_) (fun cdv A outer s H vs Q E hr h => ?_)
  · obtain ⟨v, nv, d, names, rfl, _⟩ := h
    rfl
  · obtain ⟨v, nv, d, names, rfl, hd, gd, hn, few, q⟩ := h
    have nd := sc_is_expression.nd
    refine ⟨_, (pss_cons (ps_if (PW.pt (pw_or (pt_val (pe_call ((okG_is_sum T).mono (by decide)) hr (by rfl) T.D_is_sum.g T.D_is_sum.kp T.D_is_sum.b .nil pass0 (pa_cons (pv 0) (pa_cons (pv 1) pa_nil)))) (pw_or1 (pt_cmpR (op_eqG hr.units) (pv 0) (pe_tup (pa_cons pe_str pa_nil)) (nomark _)))))
      (pss_one (ps_ret pe_bl))
      pss_nil)
      (pss_cons (ps_if (PW.pt (pw_or (pt_not (pt_val (pe_callB call_isi (by rfl) T.m_isinstance (by decide +kernel) (pa_cons (pv 0) (pa_cons (pe_ty (n := "tuple") (by rfl) T.m_tuple (by decide +kernel)) pa_nil))))) (pw_or (pt_cmpR op_ne (pe_callB call_len_seq (by rfl) T.m_len PySem.boot_len (pa_cons (pv 0) pa_nil)) pe_int (nomark _)) (pw_or1 (pt_cmpR (op_notInG hr.units) (pe_ix (r := rIxT K) ix_tup (pv 0) pe_int (fun _ _ => rfl)) (pe_glob (v := .ref T.a_PAIRS) rfl T.g_PAIRS rfl) (by with_unfolding_all rfl))))))
      (pss_one (ps_ret pe_bl))
      pss_nil)
      (pss_one (ps_ret (pe_and (pe_call ((okG_is_sum T).mono (by decide)) hr (by rfl) T.D_is_sum.g T.D_is_sum.kp T.D_is_sum.b .nil pass0 (pa_cons (pe_ix (r := rIxT K) ix_tup (pv 0) pe_int (fun _ _ => rfl)) (pa_cons (pv 1) pa_nil))) (pe_one (pe_call ((okG_is_sum T).mono (by decide)) hr (by rfl) T.D_is_sum.g T.D_is_sum.kp T.D_is_sum.b .nil pass0 (pa_cons (pe_ix (r := rIxT K) ix_tup (pv 0) pe_int (fun _ _ => rfl)) (pa_cons (pv 1) pa_nil))))))))), ?_⟩
    refine ⟨_, rfl, _, rfl, v, nv, d, names, rfl, hd, gd, hn, few, fun b H1 s1 hb => ?_⟩
    cases b with
    | true => exact ⟨_, rfl, iteT (q true _ s1 ⟨fun _ => ex_cases.mpr (.inl (hb.mp rfl)), fun _ => rfl⟩)⟩
    | false =>
      have ns : ¬ SumP names d := fun z => by
        have := hb.mpr z
        cases this
      refine ⟨_, rfl, iteF ?_⟩
      refine ⟨_, rfl, by rw [sizeLine_eq]; show 1 ≤ _; omega, fun p np => ?_⟩
      have s2' := same_new (o := HO.tup [.str "read"]) np
      have hp : (upd H1 p (HO.tup [.str "read"])) p = some (HO.tup [.str "read"]) := upd_same
      generalize upd H1 p (HO.tup [.str "read"]) = H2 at s2' hp ⊢
      have s2 := s1.trans s2'
      refine ⟨d, .tuple [.str "read"], hd.same s2, .tup (SqT.of hp) (.cons (.str _) .nil), ?_, _, rfl, ite2 (fun e => ?_) (fun e => ?_)⟩
      · rcases gd with gd | rfl
        · exact .inl ⟨gd.sh, shaped_read⟩
        · exact .inr ⟨rfl, .inr ⟨_, rfl⟩⟩
      · exact q true _ s2 ⟨fun _ => ex_cases.mpr (.inr (.inl (eqv_readD.mp e))), fun _ => rfl⟩
      · have nr : d ≠ .tuple [.str "read"] := fun z => e (eqv_readD.mpr z)
        by_cases ht : ∃ ds, d = .tuple ds
        · obtain ⟨ds, rfl⟩ := ht
          have gd : Gd (.tuple ds) := gd.resolve_right (fun z => by cases z)
          obtain ⟨a, ys, rfl, hS0, hA⟩ := gp_tup hd
          have yl := gpAll_len hA
          have hS := Same.sqt s2 hS0
          refine ⟨_, rfl, .ref a, .ty "tuple", _, _, true, rfl, .ty _, tyx_tupS hS, kit_ty (by decide +kernel), true, rfl, iteF ?_⟩
          refine ⟨_, rfl, a, _, rfl, .inr hS, rfl, _, rfl, ?_⟩
          rw [yl]
          by_cases l3 : ds.length = 3
          · obtain ⟨x1, x2, x3, d1, d2, d3, rfl, rfl, h1, h2, h3⟩ := gp_three hA l3
            have gm := gd.mem
            refine iteF ?_
            refine ⟨_, rfl, a, _, _, _, rfl, rfl, hS, rfl, T.a_PAIRS, pairWords, d1, rfl, .inr (T.w_PAIRS _), h1.same s2, .inl (gm _ (by simp)).sh, pairs_tup, _, rfl, ?_⟩
            show (if (!nameIn pairWords d1) = true then _ else _)
            cases hw : nameIn pairWords d1 with
            | false =>
              refine iteT (q false _ s2 ⟨(fun z => by cases z), fun z => ?_⟩)
              rcases ex_cases.mp z with z | z | ⟨w0, a0, b0, e0, hw0, _⟩
              · exact (ns z).elim
              · exact (nr z).elim
              · have e0 := PyData.tuple.inj e0
                simp only [List.cons.injEq, and_true] at e0
                rw [e0.1] at hw
                rw [show nameIn pairWords (.str w0) = true from decide_eq_true hw0] at hw
                cases hw
            | true =>
              obtain ⟨w0, rfl⟩ : ∃ x, d1 = .str x := by
                cases d1 <;> first | exact ⟨_, rfl⟩ | cases hw
              have hw0 : w0 ∈ pairWords := of_decide_eq_true hw
              refine iteF ?_
              refine ⟨_, rfl, a, _, _, _, rfl, rfl, hS, rfl, _, rfl, x2, nv, d2, names, rfl, h2.same s2, .inl (gm _ (by simp)), hn.same s2, few, fun b H3 s3 hb2 => ?_⟩
              have s23 := s2.trans s3
              have key : ∀ a0 b0 : PyData, ∀ w1, PyData.tuple [.str w0, d2, d3] = .tuple [.str w1, a0, b0] → d2 = a0 ∧ d3 = b0 := fun a0 b0 w1 e0 => by
                have e0 := PyData.tuple.inj e0
                simp only [List.cons.injEq, and_true] at e0
                exact ⟨e0.2.1, e0.2.2⟩
              cases b with
              | false =>
                refine ⟨_, rfl, iteF (q false _ s23 ⟨(fun z => by cases z), fun z => ?_⟩)⟩
                rcases ex_cases.mp z with z | z | ⟨w1, a0, b0, e0, _, ha0, _⟩
                · exact (ns z).elim
                · exact (nr z).elim
                · rw [← (key _ _ _ e0).1] at ha0
                  have := hb2.mpr ha0
                  cases this
              | true =>
                refine ⟨_, rfl, iteT ?_⟩
                refine ⟨_, rfl, a, _, _, _, rfl, rfl, Same.sqt s23 hS0, rfl, _, rfl, x3, nv, d3, names, rfl, h3.same s23, .inl (gm _ (by simp)), hn.same s23, few, fun b H5 s5 hb3 => ?_⟩
                refine q _ _ (s23.trans s5) ?_
                rw [hb3, ex_cases]
                constructor
                · intro z
                  exact .inr (.inr ⟨w0, d2, d3, rfl, hw0, hb2.mp rfl, z⟩)
                · rintro (z | z | ⟨w1, a0, b0, e0, _, _, hb0⟩)
                  · exact (ns z).elim
                  · exact (nr z).elim
                  · rw [(key _ _ _ e0).2]
                    exact hb0
          · rw [notEq3 l3]
            refine iteT (q false _ s2 ⟨(fun z => by cases z), fun z => ?_⟩)
            rcases ex_cases.mp z with z | z | ⟨w1, a0, b0, e0, _⟩
            · exact (ns z).elim
            · exact (nr z).elim
            · rw [PyData.tuple.inj e0] at l3
              exact absurd rfl l3
        · have ht : ∀ ds, d ≠ .tuple ds := fun ds e => ht ⟨ds, e⟩
          obtain ⟨ty, kt⟩ := not_tuple (hd.same s2) ht
          refine ⟨_, rfl, v, .ty "tuple", _, _, false, rfl, .ty _, ty, kt, false, rfl, iteT (iteT (q false _ s2 ⟨(fun z => by cases z), fun z => ?_⟩))⟩
          rcases ex_cases.mp z with z | z | ⟨w1, a0, b0, e0, _⟩
          · exact (ns z).elim
          · exact (nr z).elim
          · exact absurd e0 (ht _)
end
end Sp1

set_option Elab.async false
set_option linter.all false
set_option maxRecDepth 100000
set_option maxHeartbeats 1000000
namespace Pg
open PySem
abbrev Gz (d : PyData) : Prop := Gd d ∨ d = .dict []
mutual
/-- what may stand for a statement: the tests of the program can meet it -/
inductive StX : PyData → Prop
  | one {d : PyData} : (∀ ds, d ≠ .tuple ds) → Gz d → StX d
  | flat {ds : List PyData} : ds.length ≤ 500 → (∀ x ∈ ds, Gz x) → StX (.tuple ds)
  | comp {w : Str} {e : PyData} {bs : List PyData} : Gd (.str w) → Gz e → bs.length ≤ 500 → (∀ b ∈ bs, BlX b) → w ∈ compound → StX (.tuple (.str w :: e :: bs))
/-- .. for a block -/
inductive BlX : PyData → Prop
  | one {d : PyData} : (∀ ds, d ≠ .tuple ds) → Gz d → BlX d
  | tup {ds : List PyData} : ds.length ≤ 500 → (∀ s ∈ ds, StX s) → BlX (.tuple ds)
end
theorem Gz.flat {ds : List PyData} (h : Gz (.tuple ds)) : ds.length ≤ 500 ∧ ∀ x ∈ ds, Gz x := by
  have gd : Gd (.tuple ds) := h.resolve_right (fun z => by cases z)
  exact ⟨gd.len, fun x hx => .inl (gd.mem x hx)⟩
theorem StX.of {d : PyData} (h : Gz d) : StX d := by
  by_cases ht : ∃ ds, d = .tuple ds
  · obtain ⟨ds, rfl⟩ := ht
    exact .flat h.flat.1 h.flat.2
  · exact .one (fun ds e => ht ⟨ds, e⟩) h
theorem BlX.of {d : PyData} (h : Gz d) : BlX d := by
  by_cases ht : ∃ ds, d = .tuple ds
  · obtain ⟨ds, rfl⟩ := ht
    exact .tup h.flat.1 fun s hs => StX.of (h.flat.2 s hs)
  · exact .one (fun ds e => ht ⟨ds, e⟩) h
/-- a tuple's first and further parts -/
theorem StX.cons {w : PyData} {r : List PyData} (h : StX (.tuple (w :: r))) : Gz w ∧ r.length ≤ 501 ∧ ((∀ x ∈ r, Gz x) ∨ ∃ x e bs, w = .str x ∧ x ∈ compound ∧ r = e :: bs ∧ Gz e ∧ ∀ b ∈ bs, BlX b) := by
  generalize hd : PyData.tuple (w :: r) = d at h
  cases h with
  | one n g => exact absurd hd.symm (n _)
  | flat l h =>
    cases hd
    simp only [List.length_cons] at l
    exact ⟨h _ List.mem_cons_self, by omega, .inl fun x hx => h x (List.mem_cons_of_mem _ hx)⟩
  | comp gw ge l h hw =>
    cases hd
    exact ⟨.inl gw, by simp only [List.length_cons]; omega, .inr ⟨_, _, _, rfl, hw, rfl, ge, h⟩⟩
theorem BlX.mem {ds : List PyData} (h : BlX (.tuple ds)) : ds.length ≤ 500 ∧ ∀ s ∈ ds, StX s := by
  generalize hd : PyData.tuple ds = d at h
  cases h with
  | one n g => exact absurd hd.symm (n _)
  | tup l h =>
    cases hd
    exact ⟨l, h⟩
def StP (names procs : List Str) (n : Nat) (d : PyData) : Prop := ∃ s : St, d = s.D ∧ St.Ok names procs n s
def BkP (names procs : List Str) (n : Nat) (d : PyData) : Prop := ∃ b : List St, d = bD b ∧ blOk names procs n b
theorem sts_of {names procs : List Str} {n : Nat} : ∀ {ds : List PyData}, (∀ d ∈ ds, StP names procs n d) → ∃ b : List St, ds = b.map St.D ∧ blOk names procs n b
  | [], _ => ⟨[], rfl, trivial⟩
  | d :: r, h => by
    obtain ⟨s, rfl, h1⟩ := h d List.mem_cons_self
    obtain ⟨b, e, h2⟩ := sts_of (ds := r) fun d hd => h d (List.mem_cons_of_mem _ hd)
    exact ⟨s :: b, by rw [e]; rfl, h1, h2⟩
theorem bk_iff {names procs : List Str} {n : Nat} {ds : List PyData} : BkP names procs n (.tuple ds) ↔ ∀ d ∈ ds, StP names procs n d := by
  constructor
  · rintro ⟨b, e, ok⟩ d hd
    rw [PyData.tuple.inj e] at hd
    obtain ⟨s, hs, rfl⟩ := List.mem_map.mp hd
    exact ⟨s, rfl, blOk_iff.mp ok s hs⟩
  · intro h
    obtain ⟨b, rfl, ok⟩ := sts_of h
    exact ⟨b, rfl, ok⟩
theorem bk_tup {names procs : List Str} {n : Nat} {d : PyData} (h : BkP names procs n d) : ∃ ds, d = .tuple ds := by
  obtain ⟨b, rfl, _⟩ := h
  exact ⟨_, rfl⟩
def WrP (names : List Str) (d : PyData) : Prop := (∃ x e, d = .tuple [.str "set", .str x, e] ∧ x ∈ names ∧ ExP names e) ∨ ∃ x y, d = .tuple [.str "swap", .str x, .str y] ∧ x ∈ names ∧ y ∈ names ∧ y ≠ x
/-- the parts of a statement behind its word -/
theorem st_cases {names procs : List Str} {n : Nat} {w : PyData} {r : List PyData} : StP names procs n (.tuple (w :: r)) ↔
    (∃ x e, w = .str "set" ∧ r = [.str x, e] ∧ x ∈ names ∧ ExP names e) ∨ (∃ x y, w = .str "swap" ∧ r = [.str x, .str y] ∧ x ∈ names ∧ y ∈ names ∧ y ≠ x) ∨ (∃ e, w = .str "print" ∧ r = [e] ∧ ExP names e) ∨
    (∃ x, w = .str "call" ∧ r = [.str x] ∧ x ∈ procs) ∨ (∃ e bs, (∃ m, n = m + 1 ∧ ∀ b ∈ bs, BkP names procs m b) ∧ r = e :: bs ∧ ExP names e ∧ ((w = .str "if" ∧ bs.length = 2) ∨ ((w = .str "while" ∨ w = .str "repeat") ∧ bs.length = 1))) := by
  constructor
  · rintro ⟨s, e, ok⟩
    cases s with
    | set x v =>
      simp only [St.D, PyData.tuple.injEq, List.cons.injEq] at e
      exact .inl ⟨x, v.D, e.1, e.2, ok.1, v, rfl, ok.2⟩
    | swap x y =>
      simp only [St.D, PyData.tuple.injEq, List.cons.injEq] at e
      exact .inr (.inl ⟨x, y, e.1, e.2, ok⟩)
    | print v =>
      simp only [St.D, PyData.tuple.injEq, List.cons.injEq] at e
      exact .inr (.inr (.inl ⟨v.D, e.1, e.2, v, rfl, ok⟩))
    | call x =>
      simp only [St.D, PyData.tuple.injEq, List.cons.injEq] at e
      exact .inr (.inr (.inr (.inl ⟨x, e.1, e.2, ok⟩)))
    | ite v a b =>
      simp only [St.D, PyData.tuple.injEq, List.cons.injEq] at e
      obtain ⟨h1, m, rfl, h2, h3⟩ := ok
      refine .inr (.inr (.inr (.inr ⟨v.D, [bD a, bD b], ⟨m, rfl, fun c hc => ?_⟩, by rw [e.2, blD_map, blD_map]; rfl, ⟨v, rfl, h1⟩, .inl ⟨e.1, rfl⟩⟩)))
      rcases List.mem_cons.mp hc with rfl | hc
      · exact ⟨a, rfl, h2⟩
      · rw [List.mem_singleton.mp hc]
        exact ⟨b, rfl, h3⟩
    | whl v b =>
      simp only [St.D, PyData.tuple.injEq, List.cons.injEq] at e
      obtain ⟨h1, m, rfl, h2⟩ := ok
      refine .inr (.inr (.inr (.inr ⟨v.D, [bD b], ⟨m, rfl, fun c hc => ?_⟩, by rw [e.2, blD_map]; rfl, ⟨v, rfl, h1⟩, .inr ⟨.inl e.1, rfl⟩⟩)))
      rw [List.mem_singleton.mp hc]
      exact ⟨b, rfl, h2⟩
    | rep v b =>
      simp only [St.D, PyData.tuple.injEq, List.cons.injEq] at e
      obtain ⟨h1, m, rfl, h2⟩ := ok
      refine .inr (.inr (.inr (.inr ⟨v.D, [bD b], ⟨m, rfl, fun c hc => ?_⟩, by rw [e.2, blD_map]; rfl, ⟨v, rfl, h1⟩, .inr ⟨.inr e.1, rfl⟩⟩)))
      rw [List.mem_singleton.mp hc]
      exact ⟨b, rfl, h2⟩
  · rintro (⟨x, e, rfl, rfl, hx, v, rfl, ok⟩ | ⟨x, y, rfl, rfl, h⟩ | ⟨e, rfl, rfl, v, rfl, ok⟩ | ⟨x, rfl, rfl, h⟩ | ⟨e, bs, ⟨m, rfl, hb⟩, rfl, ⟨v, rfl, ok⟩, h⟩)
    · exact ⟨.set x v, by simp only [St.D], hx, ok⟩
    · exact ⟨.swap x y, by simp only [St.D], h⟩
    · exact ⟨.print v, by simp only [St.D], ok⟩
    · exact ⟨.call x, by simp only [St.D], h⟩
    · rcases h with ⟨rfl, l⟩ | ⟨h, l⟩
      · match bs, l with
        | [b1, b2], _ =>
          obtain ⟨a, rfl, h1⟩ := hb b1 (by simp)
          obtain ⟨b, rfl, h2⟩ := hb b2 (by simp)
          exact ⟨.ite v a b, by simp only [St.D, blD_map]; rfl, ok, m, rfl, h1, h2⟩
      · match bs, l with
        | [b1], _ =>
          obtain ⟨b, rfl, h2⟩ := hb b1 (by simp)
          rcases h with rfl | rfl
          · exact ⟨.whl v b, by simp only [St.D, blD_map]; rfl, ok, m, rfl, h2⟩
          · exact ⟨.rep v b, by simp only [St.D, blD_map]; rfl, ok, m, rfl, h2⟩
end Pg
namespace Sp1
open PySem PySem.Spec PyProof.Rows L2 Pg
section
variable {P : Program} {w : World} {K : PySem.W.Frag} {mg : Str → Option Value} {base : Heap}
theorem gz_ok {d : PyData} (h : Gz d) : SeqAt.shaped d = true ∨ d = .dict [] ∨ (∃ ds, d = .tuple ds) ∨ ∃ ds, d = .list ds := h.imp (fun h => h.sh) .inl
theorem nameIn_str {names : List Str} {d : PyData} (h : nameIn names d = true) : ∃ x, d = .str x ∧ x ∈ names := by
  cases d <;> first | exact ⟨_, rfl, of_decide_eq_true h⟩ | cases h
def sp_iswritingG (K : PySem.W.Frag) : Sp := fun vs H Q _ => ∃ (v nv : V) (wd : Str) (ds : List PyData) (names : List Str), vs = [v, nv] ∧ Gp K H v (.tuple (.str wd :: ds)) ∧ (wd = "set" ∨ wd = "swap") ∧ (∀ x ∈ ds, Gz x) ∧ Tl K H nv names ∧ Few names ∧
  ∀ (b : Bool) H', Same H H' → (b = true ↔ WrP names (.tuple (.str wd :: ds))) → Q (.bl b) H'
theorem okG_is_writing (T : PgF K mg) : FnOk P w K mg base CX0 7 T.f_is_writing T.fd_is_writing ["candidate", "names"] (sp_iswritingG K) := by
  refine T.D_is_writing.F.ok sc_is_writing (fun vs H Q E h => ?_) (fun cdv A outer s H vs Q E hr h => ?_)
  · obtain ⟨v, nv, wd, ds, names, rfl, _⟩ := h
    rfl
  · obtain ⟨v, nv, wd, ds, names, rfl, hd, hw, gz, ⟨na, rfl, hn⟩, few, q⟩ := h
    have nd := sc_is_writing.nd
    have hN := few.N
    refine ⟨_, (pss_cons (ps_if (PW.pt (pw_or (pt_cmpR op_ne (pe_callB call_len_seq (by rfl) T.m_len PySem.boot_len (pa_cons (pv 0) pa_nil)) pe_int (nomark _)) (pw_or1 (pt_cmpR (op_notInG hr.units) (pe_ix (r := rIxT K) ix_tup (pv 0) pe_int (fun _ _ => rfl)) (pv 1) (by with_unfolding_all rfl)))))
      (pss_one (ps_ret pe_bl))
      pss_nil)
      (pss_cons (ps_asg (pv 0) (pg_tup rfl (pgs_cons (pg_name (i := 2) nd rfl (.inl rfl)) (pgs_cons (pg_name (i := 3) nd rfl (.inl rfl)) (pgs_cons (pg_name (i := 4) nd rfl (.inl rfl)) pgs_nil)))))
      (pss_cons (ps_if (pt_cmpR op_eq (pv 2) pe_str (nomark _))
      (pss_one (ps_ret (pe_call ((okG_is_expression T).mono (by decide)) hr (by rfl) T.D_is_expression.g T.D_is_expression.kp T.D_is_expression.b .nil pass0 (pa_cons (pv 4) (pa_cons (pv 1) pa_nil)))))
      pss_nil)
      (pss_one (ps_ret (pe_and (pe_cmpR (op_inG hr.units) (pv 4) (pv 1) (by with_unfolding_all rfl)) (pe_one (pe_cmpR op_ne (pv 4) (pv 3) (nomark _))))))))), ?_⟩
    obtain ⟨a, ys, rfl, hS, hA⟩ := gp_tup hd
    have yl := gpAll_len hA
    have key : ∀ {b : Bool}, (b = true → ∃ x y, ds = [.str x, y] ∧ x ∈ names) → ¬ (∃ x y, ds = [.str x, y] ∧ x ∈ names) → (false = true ↔ WrP names (.tuple (.str wd :: ds))) := fun _ h => ⟨(fun z => by cases z), fun z => by
      rcases z with ⟨x, e, e2, hx, _⟩ | ⟨x, y, e2, hx, _⟩
      · exact absurd ⟨x, e, (List.cons.inj (PyData.tuple.inj e2)).2, hx⟩ h
      · exact absurd ⟨x, .str y, (List.cons.inj (PyData.tuple.inj e2)).2, hx⟩ h⟩
    refine ⟨_, rfl, a, _, rfl, .inr hS, rfl, _, rfl, ?_⟩
    rw [yl]
    by_cases l3 : (PyData.str wd :: ds).length = 3
    · obtain ⟨x1, x2, x3, d1, d2, d3, rfl, e, h1, h2, h3⟩ := gp_three hA l3
      obtain ⟨rfl, rfl⟩ := List.cons.inj e
      obtain rfl := gp_str h1
      rw [l3]
      refine iteF ?_
      refine ⟨_, rfl, a, _, _, _, rfl, rfl, hS, rfl, _, rfl, na, names, d2, rfl, hn, h2, gz_ok (gz _ (by simp)), fun x hx => (hN x hx).tup, _, rfl, ?_⟩
      show (if (!nameIn names d2) = true then _ else _)
      cases hm : nameIn names d2 with
      | false =>
        refine iteT (q false _ (Same.refl _) (key (b := false) (fun z => by cases z) ?_))
        rintro ⟨x, y, e2, hx⟩
        simp only [List.cons.injEq, and_true] at e2
        rw [e2.1, show nameIn names (.str x) = true from decide_eq_true hx] at hm
        cases hm
      | true =>
        obtain ⟨x, rfl, hx⟩ := nameIn_str hm
        obtain rfl := gp_str h2
        refine iteF ?_
        refine ⟨_, rfl, a, _, rfl, hS, rfl, _, _, rfl, _, _, rfl, _, _, rfl, rfl, ?_⟩
        rcases hw with rfl | rfl
        · refine ⟨_, rfl, rfl, _, rfl, iteT ?_⟩
          refine ⟨_, rfl, _, rfl, x3, .ref na, d3, names, rfl, h3, gz _ (by simp), ⟨na, rfl, hn⟩, few, fun b H1 s1 hb => ?_⟩
          refine q b _ s1 (hb.trans ⟨fun z => .inl ⟨x, d3, rfl, hx, z⟩, fun z => ?_⟩)
          rcases z with ⟨x', e', e2, _, h⟩ | ⟨x', y', e2, _⟩
          · simp only [PyData.tuple.injEq, List.cons.injEq, and_true] at e2
            rw [e2.2.2]
            exact h
          · simp only [PyData.tuple.injEq, List.cons.injEq, PyData.str.injEq] at e2
            exact absurd e2.1 (by decide +kernel)
        · refine ⟨_, rfl, rfl, _, rfl, iteF ?_⟩
          refine ⟨_, rfl, _, rfl, na, names, d3, rfl, hn, h3, gz_ok (gz _ (by simp)), fun x hx => (hN x hx).tup, ?_⟩
          show ∃ c, V.bl (nameIn names d3) = V.bl c ∧ _
          cases hm3 : nameIn names d3 with
          | false =>
            refine ⟨_, rfl, iteF (q false _ (Same.refl _) ⟨(fun z => by cases z), fun z => ?_⟩)⟩
            rcases z with ⟨x', e', e2, _, h⟩ | ⟨x', y', e2, _, hy, _⟩
            · simp only [PyData.tuple.injEq, List.cons.injEq, PyData.str.injEq] at e2
              exact absurd e2.1 (by decide +kernel)
            · simp only [PyData.tuple.injEq, List.cons.injEq, and_true] at e2
              rw [e2.2.2, show nameIn names (.str y') = true from decide_eq_true hy] at hm3
              cases hm3
          | true =>
            obtain ⟨y, rfl, hy⟩ := nameIn_str hm3
            obtain rfl := gp_str h3
            refine ⟨_, rfl, iteT ⟨_, rfl, _, rfl, rfl, ?_⟩⟩
            refine q _ _ (Same.refl _) ?_
            rw [Bool.not_eq_true', decide_eq_false_iff_not]
            constructor
            · intro z
              exact .inr ⟨x, y, rfl, hx, hy, fun e => z (by rw [e])⟩
            · rintro (⟨x', e', e2, _, h⟩ | ⟨x', y', e2, _, _, hne⟩) z
              · simp only [PyData.tuple.injEq, List.cons.injEq, PyData.str.injEq] at e2
                exact absurd e2.1 (by decide +kernel)
              · simp only [PyData.tuple.injEq, List.cons.injEq, and_true, PyData.str.injEq, true_and] at e2
                have z := V.str.inj z
                rw [e2.1, e2.2] at z
                exact hne z
    · rw [notEq3 l3]
      refine iteT (q false _ (Same.refl _) (key (b := false) (fun z => by cases z) ?_))
      rintro ⟨x, y, e2, hx⟩
      rw [e2] at l3
      exact absurd rfl l3
end
end Sp1

set_option Elab.async false
set_option linter.all false
set_option maxRecDepth 100000
set_option maxHeartbeats 1000000
namespace Sp1
open PySem PySem.Spec PyProof.Rows L2 Pg
section
variable {P : Program} {w : World} {K : PySem.W.Frag} {mg : Str → Option Value} {base : Heap}
theorem notEq2 {n : Nat} (h : n ≠ 2) : (!decide (V.int (n : Int) = V.int 2)) = true := by
  rw [Bool.not_eq_true', decide_eq_false_iff_not]
  intro z
  have := V.int.inj z
  omega
/-- few names and some procedures -/
structure BxG (K : PySem.W.Frag) (H : Hp) (nv qv : V) (names procs : List Str) : Prop where
  n : Tl K H nv names
  p : Tl K H qv procs
  few : Few names
  P : Names procs
theorem BxG.same {H H' : Hp} {nv qv : V} {names procs : List Str} (h : BxG K H nv qv names procs) (s : Same H H') : BxG K H' nv qv names procs := ⟨h.n.same s, h.p.same s, h.few, h.P⟩
/-- n: 9 less the depth -/
def sp_isblockG (K : PySem.W.Frag) (n : Nat) : Sp := fun vs H Q _ => ∃ (v nv qv : V) (dd : Int) (d : PyData) (names procs : List Str), vs = [v, nv, qv, .int dd] ∧ Gp K H v d ∧ BlX d ∧ BxG K H nv qv names procs ∧ dd + n = 9 ∧
  ∀ (b : Bool) H', Same H H' → (b = true ↔ ∃ m, n = m + 1 ∧ BkP names procs m d) → Q (.bl b) H'
/-- n: 8 less the depth -/
def sp_isstatG (K : PySem.W.Frag) (n : Nat) : Sp := fun vs H Q _ => ∃ (v nv qv : V) (dd : Int) (d : PyData) (names procs : List Str), vs = [v, nv, qv, .int dd] ∧ Gp K H v d ∧ StX d ∧ BxG K H nv qv names procs ∧ dd + n = 8 ∧
  ∀ (b : Bool) H', Same H H' → (b = true ↔ StP names procs n d) → Q (.bl b) H'
def sp_iscompG (K : PySem.W.Frag) (n : Nat) : Sp := fun vs H Q _ => ∃ (v nv qv : V) (dd : Int) (wd : Str) (r : List PyData) (names procs : List Str), vs = [v, nv, qv, .int dd] ∧ Gp K H v (.tuple (.str wd :: r)) ∧ StX (.tuple (.str wd :: r)) ∧ wd ∈ compound ∧ BxG K H nv qv names procs ∧ dd + n = 8 ∧
  ∀ (b : Bool) H', Same H H' → (b = true ↔ StP names procs n (.tuple (.str wd :: r))) → Q (.bl b) H'
theorem okG_is_block (T : PgF K mg) {n : Nat} (hS : ∀ m, n = m + 1 → FnOk P w K mg base CX0 (3 * m + 9) T.f_is_statement T.fd_is_statement ["candidate", "names", "procedures", "depth"] (sp_isstatG K m)) :
    FnOk P w K mg base CX0 (3 * n + 7) T.f_is_block T.fd_is_block ["candidate", "names", "procedures", "depth"] (sp_isblockG K n) := by
  refine T.F_is_block.ok sc_is_block (fun vs H Q E h => ?_) (fun cdv A outer s H vs Q E hr h => ?_)
  · obtain ⟨v, nv, qv, dd, d, names, procs, rfl, _⟩ := h
    rfl
  · obtain ⟨v, nv, qv, dd, d, names, procs, rfl, hd, bx, hx, hdn, q⟩ := h
    have nd := sc_is_block.nd
    by_cases ht : ∃ ds, d = .tuple ds
    · obtain ⟨ds, rfl⟩ := ht
      obtain ⟨a, ys, rfl, hS1, hA⟩ := gp_tup hd
      have yl := gpAll_len hA
      obtain ⟨hl, hsx⟩ := bx.mem
      cases n with
      | zero =>
        have hS : FnOk P w K mg base CX0 (3 * 0 + 6) T.f_is_statement T.fd_is_statement ["candidate", "names", "procedures", "depth"] (fun _ _ _ _ => False) := FnOk.none
        refine ⟨_, (pss_cons (ps_if (PW.pt (pw_or (pt_not (pt_val (pe_callB call_isi (by rfl) T.m_isinstance (by decide +kernel) (pa_cons (pv 0) (pa_cons (pe_ty (n := "tuple") (by rfl) T.m_tuple (by decide +kernel)) pa_nil))))) (pw_or1 (pt_cmpR op_gt (pv 3) (pe_glob (v := .int 8) rfl T.c_MAX_DEPTH ⟨_, rfl⟩) (nomark _)))))
      (pss_one (ps_ret pe_bl))
      pss_nil)
      (pss_one (ps_ret (pe_callB (cr_all rfl) (by rfl) T.m_all (by decide +kernel) (pa_cons (pe_lc (own := [("statement", 4)]) (g := (gName 4)) (tt := tYes) rfl nd (pi_tup (pv 0)) (blkOk_by (N := N_is_block) (sc := defScope s_is_block) (by decide +kernel)) (fun _ _ _ _ _ => (pg_name (i := 4) nd rfl (.inl rfl))) (fun _ _ _ _ _ => pts_nil) (fun _ _ _ _ _ => (pe_call (hS.mono (by omega)) hr (by rfl) T.D_is_statement.g T.D_is_statement.kp T.D_is_statement.b .nil pass0 (pa_cons (pv 4) (pa_cons (pv 1) (pa_cons (pv 2) (pa_cons (pv 3) pa_nil))))))) pa_nil))))), ?_⟩
        refine ⟨_, rfl, .ref a, .ty "tuple", _, _, true, rfl, .ty _, tyx_tupS hS1, kit_ty (by decide +kernel), true, rfl, iteF ?_⟩
        refine ⟨_, rfl, _, _, rfl, rfl, _, rfl, ?_⟩
        rw [decide_eq_true (by omega)]
        refine iteT (q false _ (Same.refl _) ⟨(fun z => by cases z), ?_⟩)
        rintro ⟨m, e, _⟩
        omega
      | succ n =>
        have hS := hS n rfl
        refine ⟨_, (pss_cons (ps_if (PW.pt (pw_or (pt_not (pt_val (pe_callB call_isi (by rfl) T.m_isinstance (by decide +kernel) (pa_cons (pv 0) (pa_cons (pe_ty (n := "tuple") (by rfl) T.m_tuple (by decide +kernel)) pa_nil))))) (pw_or1 (pt_cmpR op_gt (pv 3) (pe_glob (v := .int 8) rfl T.c_MAX_DEPTH ⟨_, rfl⟩) (nomark _)))))
      (pss_one (ps_ret pe_bl))
      pss_nil)
      (pss_one (ps_ret (pe_callB (cr_all rfl) (by rfl) T.m_all (by decide +kernel) (pa_cons (pe_lc (own := [("statement", 4)]) (g := (gName 4)) (tt := tYes) rfl nd (pi_tup (pv 0)) (blkOk_by (N := N_is_block) (sc := defScope s_is_block) (by decide +kernel)) (fun _ _ _ _ _ => (pg_name (i := 4) nd rfl (.inl rfl))) (fun _ _ _ _ _ => pts_nil) (fun _ _ _ _ _ => (pe_call (hS.mono (by omega)) hr (by rfl) T.D_is_statement.g T.D_is_statement.kp T.D_is_statement.b .nil pass0 (pa_cons (pv 4) (pa_cons (pv 1) (pa_cons (pv 2) (pa_cons (pv 3) pa_nil))))))) pa_nil))))), ?_⟩
        refine ⟨_, rfl, .ref a, .ty "tuple", _, _, true, rfl, .ty _, tyx_tupS hS1, kit_ty (by decide +kernel), true, rfl, iteF ?_⟩
        refine ⟨_, rfl, _, _, rfl, rfl, _, rfl, ?_⟩
        rw [decide_eq_false (by omega)]
        refine iteF ?_
        refine ⟨_, rfl, a, rfl, ⟨_, hS1⟩, fun D nD => ?_⟩
        refine lc_it (walk_tup (K := K) (a := a) (xs := ys)) (Bls H D (StP names procs n) ds) (Bls.start nD) (fun i H' _ h => Same.sqt h.1 hS1) ?_ ?_
        · rintro i v H1 H2 hi h ⟨rfl, hv⟩
          obtain ⟨d', hd', hdp⟩ := gpAll_at hA hv
          refine ⟨rfl, ?_⟩
          dsimp only [tYes]
          refine iteT ?_
          refine ⟨_, rfl, _, rfl, _, rfl, _, rfl, _, _, _, dd, d', names, procs, rfl, hdp.same h.1, hsx d' (List.mem_of_getElem? hd'), hx.same h.1, by omega, fun b H3 s3 hb => ?_⟩
          exact h.turn nD s3 (by omega) hd' hb
        · rintro H1 h
          rw [yl] at h
          have s1 := h.1
          obtain ⟨bs, hD, hall⟩ := h.all
          refine ⟨D, _, rfl, SqL.of hD, ?_⟩
          refine q _ _ s1 (hall.trans ⟨fun z => ⟨n, rfl, bk_iff.mpr z⟩, ?_⟩)
          rintro ⟨m, e, z⟩
          obtain rfl : n = m := by omega
          exact bk_iff.mp z
    · have ht : ∀ ds, d ≠ .tuple ds := fun ds e => ht ⟨ds, e⟩
      obtain ⟨ty, kt⟩ := not_tuple hd ht
      have hS : FnOk P w K mg base CX0 (3 * n + 6) T.f_is_statement T.fd_is_statement ["candidate", "names", "procedures", "depth"] (fun _ _ _ _ => False) := FnOk.none
      refine ⟨_, (pss_cons (ps_if (PW.pt (pw_or (pt_not (pt_val (pe_callB call_isi (by rfl) T.m_isinstance (by decide +kernel) (pa_cons (pv 0) (pa_cons (pe_ty (n := "tuple") (by rfl) T.m_tuple (by decide +kernel)) pa_nil))))) (pw_or1 (pt_cmpR op_gt (pv 3) (pe_glob (v := .int 8) rfl T.c_MAX_DEPTH ⟨_, rfl⟩) (nomark _)))))
      (pss_one (ps_ret pe_bl))
      pss_nil)
      (pss_one (ps_ret (pe_callB (cr_all rfl) (by rfl) T.m_all (by decide +kernel) (pa_cons (pe_lc (own := [("statement", 4)]) (g := (gName 4)) (tt := tYes) rfl nd (pi_tup (pv 0)) (blkOk_by (N := N_is_block) (sc := defScope s_is_block) (by decide +kernel)) (fun _ _ _ _ _ => (pg_name (i := 4) nd rfl (.inl rfl))) (fun _ _ _ _ _ => pts_nil) (fun _ _ _ _ _ => (pe_call (hS.mono (by omega)) hr (by rfl) T.D_is_statement.g T.D_is_statement.kp T.D_is_statement.b .nil pass0 (pa_cons (pv 4) (pa_cons (pv 1) (pa_cons (pv 2) (pa_cons (pv 3) pa_nil))))))) pa_nil))))), ?_⟩
      refine ⟨_, rfl, v, .ty "tuple", _, _, false, rfl, .ty _, ty, kt, false, rfl, iteT (iteT (q false _ (Same.refl _) ⟨(fun z => by cases z), ?_⟩))⟩
      rintro ⟨m, _, z⟩
      obtain ⟨ds, e⟩ := bk_tup z
      exact absurd e (ht _)
theorem okG_is_compound (T : PgF K mg) {m : Nat} (hB : FnOk P w K mg base CX0 (3 * m + 7) T.f_is_block T.fd_is_block ["candidate", "names", "procedures", "depth"] (sp_isblockG K m)) :
    FnOk P w K mg base CX0 (3 * m + 8) T.f_is_compound T.fd_is_compound ["candidate", "names", "procedures", "depth"] (sp_iscompG K m) := by
  refine T.D_is_compound.F.ok sc_is_compound (fun vs H Q E h => ?_) (fun cdv A outer s H vs Q E hr h => ?_)
  · obtain ⟨v, nv, qv, dd, wd, r, names, procs, rfl, _⟩ := h
    rfl
  · obtain ⟨v, nv, qv, dd, wd, r, names, procs, rfl, hd, sx, hw, hx, hdn, q⟩ := h
    have nd := sc_is_compound.nd
    obtain ⟨_, rl, hr2⟩ := sx.cons
    have few := hx.few
    refine ⟨_, (pss_cons (ps_asg (pv 0) (pg_star rfl (pg_name (i := 4) nd rfl (.inl rfl)) (pg_name (i := 5) nd rfl (.inl rfl))))
      (pss_cons (ps_if (PW.pt (pw_or (pt_cmpR op_ne (pe_callB call_len_seq (by rfl) T.m_len PySem.boot_len (pa_cons (pv 5) pa_nil)) (pe_ifExp (pt_cmpR op_eq (pv 4) pe_str (nomark _)) pe_int pe_int) (nomark _)) (pw_or1 (pt_not (pt_val (pe_call ((okG_is_expression T).mono (by omega)) hr (by rfl) T.D_is_expression.g T.D_is_expression.kp T.D_is_expression.b .nil pass0 (pa_cons (pe_ix ix_list (pv 5) pe_int (fun _ _ => rfl)) (pa_cons (pv 1) pa_nil))))))))
      (pss_one (ps_ret pe_bl))
      pss_nil)
      (pss_one (ps_ret (pe_callB (cr_all rfl) (by rfl) T.m_all (by decide +kernel) (pa_cons (pe_lc (own := [("part", 6)]) (g := (gName 6)) (tt := tYes) rfl nd (pi_list (pe_slice sl_list (pv 5) (po_some pe_int) po_none)) (blkOk_by (N := N_is_compound) (sc := defScope s_is_compound) (by decide +kernel)) (fun _ _ _ _ _ => (pg_name (i := 6) nd rfl (.inl rfl))) (fun _ _ _ _ _ => pts_nil) (fun _ _ _ _ _ => (pe_call (hB.mono (by omega)) hr (by rfl) T.g_is_block T.F_is_block.kp T.b4_is_block .nil pass0 (pa_cons (pv 6) (pa_cons (pv 1) (pa_cons (pv 2) (pa_cons (pe_op op_add (pv 3) pe_int) pa_nil))))))) pa_nil)))))), ?_⟩
    obtain ⟨a, zs, rfl, hS1, hA⟩ := gp_tup hd
    obtain ⟨ys, rfl, hys⟩ : ∃ ys, zs = .str wd :: ys ∧ GpAll K H ys r := by
      cases hA with
      | cons x y =>
        obtain rfl := gp_str x
        exact ⟨_, rfl, y⟩
    have yl := gpAll_len hys
    refine ⟨_, rfl, a, _, _, rfl, hS1, fun p np => ?_⟩
    have s1 := same_new (o := HO.lst ys) np
    have hp : (upd H p (HO.lst ys)) p = some (HO.lst ys) := upd_same
    generalize upd H p (HO.lst ys) = H1 at s1 hp ⊢
    refine ⟨_, rfl, p, _, rfl, .inl (SqL.of hp), ?_⟩
    have ew : (decide (V.str wd = V.str "if")) = decide (wd = "if") := decide_eq_decide.mpr ⟨fun z => V.str.inj z, fun z => by rw [z]⟩
    refine ⟨_, rfl, rfl, _, rfl, ?_⟩
    rw [ew, yl]
    have hno : ∀ k : Nat, (wd = "if" → k = 3) → (wd ≠ "if" → k = 2) → r.length ≠ k → ¬ StP names procs m (.tuple (.str wd :: r)) := fun k k1 k2 hne z => by
      rcases st_cases.mp z with ⟨x, e, e1, _⟩ | ⟨x, y, e1, _⟩ | ⟨e, e1, _⟩ | ⟨x, e1, _⟩ | ⟨e, bs, _, e2, _, ⟨e1, l⟩ | ⟨e1, l⟩⟩
      · rw [PyData.str.inj e1] at hw
        exact absurd hw (by decide +kernel)
      · rw [PyData.str.inj e1] at hw
        exact absurd hw (by decide +kernel)
      · rw [PyData.str.inj e1] at hw
        exact absurd hw (by decide +kernel)
      · rw [PyData.str.inj e1] at hw
        exact absurd hw (by decide +kernel)
      · have := k1 (PyData.str.inj e1)
        rw [e2, List.length_cons, l] at hne
        omega
      · have h2 : wd ≠ "if" := fun z => by
          rcases e1 with e1 | e1 <;>
          · have := PyData.str.inj e1
            rw [z] at this
            exact absurd this (by decide +kernel)
        have := k2 h2
        rw [e2, List.length_cons, l] at hne
        omega
    have main : ∀ k : Nat, (wd = "if" → k = 3) → (wd ≠ "if" → k = 2) → 2 ≤ k → r.length = k → ∃ e bs, r = e :: bs ∧ Gz e ∧ (∀ b ∈ bs, BlX b) ∧ (StP names procs m (.tuple (.str wd :: e :: bs)) ↔ ExP names e ∧ ∃ m', m = m' + 1 ∧ ∀ b ∈ bs, BkP names procs m' b) := fun k k1 k2 k3 hlen => by
      obtain ⟨e, bs, rfl⟩ : ∃ e bs, r = e :: bs := by
        cases r with
        | nil => simp at hlen; omega
        | cons e bs => exact ⟨e, bs, rfl⟩
      refine ⟨e, bs, rfl, ?_, ?_, ?_⟩
      · rcases hr2 with h | ⟨x, e', bs', _, _, e2, h, _⟩
        · exact h _ List.mem_cons_self
        · rw [(List.cons.inj e2).1]
          exact h
      · intro b hb
        rcases hr2 with h | ⟨x, e', bs', _, _, e2, _, h⟩
        · exact BlX.of (h _ (List.mem_cons_of_mem _ hb))
        · rw [(List.cons.inj e2).2] at hb
          exact h b hb
      · rw [List.length_cons] at hlen
        constructor
        · intro z
          rcases st_cases.mp z with ⟨x, e, e1, _⟩ | ⟨x, y, e1, _⟩ | ⟨e, e1, _⟩ | ⟨x, e1, _⟩ | ⟨e', bs', ⟨m', em, hb⟩, e2, he, _⟩
          · rw [PyData.str.inj e1] at hw
            exact absurd hw (by decide +kernel)
          · rw [PyData.str.inj e1] at hw
            exact absurd hw (by decide +kernel)
          · rw [PyData.str.inj e1] at hw
            exact absurd hw (by decide +kernel)
          · rw [PyData.str.inj e1] at hw
            exact absurd hw (by decide +kernel)
          · obtain ⟨rfl, rfl⟩ := List.cons.inj e2
            exact ⟨he, m', em, hb⟩
        · rintro ⟨he, m', em, hb⟩
          refine st_cases.mpr (.inr (.inr (.inr (.inr ⟨e, bs, ⟨m', em, hb⟩, rfl, he, ?_⟩))))
          by_cases hif : wd = "if"
          · exact .inl ⟨by rw [hif], by have := k1 hif; omega⟩
          · refine .inr ⟨?_, by have := k2 hif; omega⟩
            simp only [compound, List.mem_cons, List.not_mem_nil, or_false] at hw
            rcases hw with h | h | h
            · exact absurd h hif
            · exact .inl (by rw [h])
            · exact .inr (by rw [h])
    refine ite2 (fun hwi => ?_) (fun hwi => ?_)
    · have hwi := of_decide_eq_true hwi
      have k1 : wd = "if" → 3 = 3 := fun _ => rfl
      have k2 : wd ≠ "if" → 3 = 2 := fun h => absurd hwi h
      have k3 : 2 ≤ 3 := by decide
      refine ⟨rfl, _, rfl, ?_⟩
      by_cases hlen : r.length = 3
      · obtain ⟨e, bs, rfl, ge, gbs, iff⟩ := main 3 k1 k2 k3 hlen
        rw [hlen]
        refine iteNS rfl ?_
        obtain ⟨ve, yb, rfl, hve, hyb⟩ : ∃ ve yb, ys = ve :: yb ∧ Gp K H ve e ∧ GpAll K H yb bs := by
          cases hys with
          | cons x y => exact ⟨_, _, rfl, x, y⟩
        refine ⟨_, rfl, p, _, _, ve, rfl, rfl, SqL.of hp, atI_nat (j := 0) rfl, _, rfl, ve, nv, e, names, rfl, hve.same s1, ge, hx.n.same s1, few, fun b H2 s2 hb => ?_⟩
        have s12 := s1.trans s2
        cases b with
        | false =>
          refine ⟨false, rfl, iteT (q false _ s12 ⟨(fun z => by cases z), fun z => ?_⟩)⟩
          have := hb.mpr (iff.mp z).1
          cases this
        | true =>
          have hex := hb.mp rfl
          refine ⟨true, rfl, iteF ?_⟩
          refine ⟨_, rfl, ⟨_, rfl, p, _, rfl, SqL.of (s2 _ _ hp), fun p2 np2 => ?_⟩⟩
          have ybl := gpAll_len hyb
          have cut : cutV (ve :: yb) (some 1) none = yb := by
            show ((ve :: yb).drop (HT.sIx (yb.length + 1) 0 (some 1))).take _ = yb
            have e1 : HT.sIx (yb.length + 1) 0 (some 1) = 1 := by
              unfold HT.sIx
              simp
            rw [e1]
            simp [HT.sIx]
          rw [cut]
          have s3' := same_new (o := HO.lst yb) np2
          have hp2 : (upd H2 p2 (HO.lst yb)) p2 = some (HO.lst yb) := upd_same
          generalize upd H2 p2 (HO.lst yb) = H3 at s3' hp2 ⊢
          have s3 := s12.trans s3'
          refine ⟨p2, rfl, ⟨_, SqL.of hp2⟩, fun D nD => ?_⟩
          refine lc_it (walk_list (K := K) (a := p2) (xs := yb)) (Bls H3 D (fun b => ∃ m', m = m' + 1 ∧ BkP names procs m' b) bs) (Bls.start nD) (fun i H' _ h => SqL.of (h.1 _ _ hp2)) ?_ ?_
          · rintro i v H4 H5 hi h ⟨rfl, hv⟩
            obtain ⟨d', hd', hdp⟩ := gpAll_at hyb hv
            refine ⟨rfl, ?_⟩
            dsimp only [tYes]
            refine iteT ?_
            refine ⟨_, rfl, _, rfl, _, rfl, _, rfl, _, _, rfl, rfl, _, _, _, dd + 1, d', names, procs, rfl, hdp.same (s3.trans h.1), gbs d' (List.mem_of_getElem? hd'), hx.same (s3.trans h.1), by omega, fun b H6 s6 hb => ?_⟩
            rw [List.length_cons] at rl
            exact h.turn nD s6 (by omega) hd' hb
          · rintro H4 h
            rw [ybl] at h
            have s4 := s3.trans h.1
            obtain ⟨bls, hD, hall⟩ := h.all
            refine ⟨D, _, rfl, SqL.of hD, ?_⟩
            refine q _ _ s4 (hall.trans (Iff.trans ?_ iff.symm))
            constructor
            · intro z
              refine ⟨hex, ?_⟩
              obtain ⟨b0, hb0⟩ : ∃ b0, b0 ∈ bs := by
                cases bs with
                | nil => simp at hlen
                | cons b0 _ => exact ⟨b0, List.mem_cons_self⟩
              obtain ⟨m', em, _⟩ := z b0 hb0
              refine ⟨m', em, fun b hb => ?_⟩
              obtain ⟨m2, em2, h⟩ := z b hb
              obtain rfl : m' = m2 := by omega
              exact h
            · rintro ⟨_, m', em, h⟩ b hb
              exact ⟨m', em, h b hb⟩
      · rw [notEq3 hlen]
        exact iteT (q false _ s1 ⟨(fun z => by cases z), fun z => absurd z (hno 3 k1 k2 hlen)⟩)
    · have hwi : ¬ wd = "if" := fun z => hwi (decide_eq_true z)
      have k1 : wd = "if" → 2 = 3 := fun h => absurd h hwi
      have k2 : wd ≠ "if" → 2 = 2 := fun _ => rfl
      have k3 : 2 ≤ 2 := by decide
      refine ⟨rfl, _, rfl, ?_⟩
      by_cases hlen : r.length = 2
      · obtain ⟨e, bs, rfl, ge, gbs, iff⟩ := main 2 k1 k2 k3 hlen
        rw [hlen]
        refine iteNS rfl ?_
        obtain ⟨ve, yb, rfl, hve, hyb⟩ : ∃ ve yb, ys = ve :: yb ∧ Gp K H ve e ∧ GpAll K H yb bs := by
          cases hys with
          | cons x y => exact ⟨_, _, rfl, x, y⟩
        refine ⟨_, rfl, p, _, _, ve, rfl, rfl, SqL.of hp, atI_nat (j := 0) rfl, _, rfl, ve, nv, e, names, rfl, hve.same s1, ge, hx.n.same s1, few, fun b H2 s2 hb => ?_⟩
        have s12 := s1.trans s2
        cases b with
        | false =>
          refine ⟨false, rfl, iteT (q false _ s12 ⟨(fun z => by cases z), fun z => ?_⟩)⟩
          have := hb.mpr (iff.mp z).1
          cases this
        | true =>
          have hex := hb.mp rfl
          refine ⟨true, rfl, iteF ?_⟩
          refine ⟨_, rfl, ⟨_, rfl, p, _, rfl, SqL.of (s2 _ _ hp), fun p2 np2 => ?_⟩⟩
          have ybl := gpAll_len hyb
          have cut : cutV (ve :: yb) (some 1) none = yb := by
            show ((ve :: yb).drop (HT.sIx (yb.length + 1) 0 (some 1))).take _ = yb
            have e1 : HT.sIx (yb.length + 1) 0 (some 1) = 1 := by
              unfold HT.sIx
              simp
            rw [e1]
            simp [HT.sIx]
          rw [cut]
          have s3' := same_new (o := HO.lst yb) np2
          have hp2 : (upd H2 p2 (HO.lst yb)) p2 = some (HO.lst yb) := upd_same
          generalize upd H2 p2 (HO.lst yb) = H3 at s3' hp2 ⊢
          have s3 := s12.trans s3'
          refine ⟨p2, rfl, ⟨_, SqL.of hp2⟩, fun D nD => ?_⟩
          refine lc_it (walk_list (K := K) (a := p2) (xs := yb)) (Bls H3 D (fun b => ∃ m', m = m' + 1 ∧ BkP names procs m' b) bs) (Bls.start nD) (fun i H' _ h => SqL.of (h.1 _ _ hp2)) ?_ ?_
          · rintro i v H4 H5 hi h ⟨rfl, hv⟩
            obtain ⟨d', hd', hdp⟩ := gpAll_at hyb hv
            refine ⟨rfl, ?_⟩
            dsimp only [tYes]
            refine iteT ?_
            refine ⟨_, rfl, _, rfl, _, rfl, _, rfl, _, _, rfl, rfl, _, _, _, dd + 1, d', names, procs, rfl, hdp.same (s3.trans h.1), gbs d' (List.mem_of_getElem? hd'), hx.same (s3.trans h.1), by omega, fun b H6 s6 hb => ?_⟩
            rw [List.length_cons] at rl
            exact h.turn nD s6 (by omega) hd' hb
          · rintro H4 h
            rw [ybl] at h
            have s4 := s3.trans h.1
            obtain ⟨bls, hD, hall⟩ := h.all
            refine ⟨D, _, rfl, SqL.of hD, ?_⟩
            refine q _ _ s4 (hall.trans (Iff.trans ?_ iff.symm))
            constructor
            · intro z
              refine ⟨hex, ?_⟩
              obtain ⟨b0, hb0⟩ : ∃ b0, b0 ∈ bs := by
                cases bs with
                | nil => simp at hlen
                | cons b0 _ => exact ⟨b0, List.mem_cons_self⟩
              obtain ⟨m', em, _⟩ := z b0 hb0
              refine ⟨m', em, fun b hb => ?_⟩
              obtain ⟨m2, em2, h⟩ := z b hb
              obtain rfl : m' = m2 := by omega
              exact h
            · rintro ⟨_, m', em, h⟩ b hb
              exact ⟨m', em, h b hb⟩
      · rw [notEq2 hlen]
        exact iteT (q false _ s1 ⟨(fun z => by cases z), fun z => absurd z (hno 2 k1 k2 hlen)⟩)
end
end Sp1

set_option Elab.async false
set_option linter.all false
set_option maxRecDepth 100000
set_option maxHeartbeats 1000000
namespace Sp1
open PySem PySem.Spec PyProof.Rows L2 Pg
section
variable {P : Program} {w : World} {K : PySem.W.Frag} {mg : Str → Option Value} {base : Heap}
theorem compound_tup : ∀ x ∈ compound, tupD (.str x) = true := by
  intro x hx
  simp only [compound, List.mem_cons, List.not_mem_nil, or_false] at hx
  rcases hx with rfl | rfl | rfl <;> decide +kernel
theorem ss_tup : ∀ x ∈ ([("set" : Str), "swap"] : List Str), tupD (.str x) = true := by
  intro x hx
  simp only [List.mem_cons, List.not_mem_nil, or_false] at hx
  rcases hx with rfl | rfl <;> decide +kernel
theorem gz_eq {d : PyData} {x : Str} (h : Gz d) (hx : tupD (.str x) = true) : eqOk d (.str x) := h.elim (fun h => .inl ⟨h.sh, shaped_of hx (by show 0 ≤ 64; decide)⟩) fun h => .inr ⟨h, .inl ⟨_, rfl⟩⟩
theorem notEqV {n : Nat} {m : Int} (h : (n : Int) ≠ m) : (!decide (V.int (n : Int) = V.int m)) = true := by
  rw [Bool.not_eq_true', decide_eq_false_iff_not]
  intro z
  exact h (V.int.inj z)
theorem st_nil {names procs : List Str} {n : Nat} : ¬ StP names procs n (.tuple []) := by
  rintro ⟨s, e, _⟩
  cases s <;> (simp only [St.D, PyData.tuple.injEq] at e; cases e)
theorem okG_is_statement (T : PgF K mg) {n : Nat} (hC : FnOk P w K mg base CX0 (3 * n + 8) T.f_is_compound T.fd_is_compound ["candidate", "names", "procedures", "depth"] (sp_iscompG K n)) :
    FnOk P w K mg base CX0 (3 * n + 9) T.f_is_statement T.fd_is_statement ["candidate", "names", "procedures", "depth"] (sp_isstatG K n) := by
  refine T.D_is_statement.F.ok sc_is_statement (fun vs H Q E h => ?_) (fun cdv A outer s H vs Q E hr h => ?_)
  · obtain ⟨v, nv, qv, dd, d, names, procs, rfl, _⟩ := h
    rfl
  · obtain ⟨v, nv, qv, dd, d, names, procs, rfl, hd, sx, hx, hdn, q⟩ := h
    have nd := sc_is_statement.nd
    have hN := hx.few.N
    refine ⟨_, (pss_cons (ps_if (PW.pt (pw_or (pt_not (pt_val (pe_callB call_isi (by rfl) T.m_isinstance (by decide +kernel) (pa_cons (pv 0) (pa_cons (pe_ty (n := "tuple") (by rfl) T.m_tuple (by decide +kernel)) pa_nil))))) (pw_or1 (pt_not (pt_truth (pv 0) (by intro _; rfl))))))
      (pss_one (ps_ret pe_bl))
      pss_nil)
      (pss_cons (ps_set (i := 4) nd rfl (.inl rfl) (pe_ix (r := rIxT K) ix_tup (pv 0) pe_int (fun _ _ => rfl)))
      (pss_cons (ps_if (pt_cmpR (op_inG hr.units) (pv 4) (pe_glob (v := .ref T.a_COMPOUND) rfl T.g_COMPOUND rfl) (by with_unfolding_all rfl))
      (pss_one (ps_ret (pe_call (hC.mono (by omega)) hr (by rfl) T.D_is_compound.g T.D_is_compound.kp T.D_is_compound.b .nil pass0 (pa_cons (pv 0) (pa_cons (pv 1) (pa_cons (pv 2) (pa_cons (pv 3) pa_nil)))))))
      pss_nil)
      (pss_cons (ps_if (pt_cmpR (op_inG hr.units) (pv 4) (pe_tup (pa_cons pe_str (pa_cons pe_str pa_nil))) (by with_unfolding_all rfl))
      (pss_one (ps_ret (pe_call ((okG_is_writing T).mono (by omega)) hr (by rfl) T.D_is_writing.g T.D_is_writing.kp T.D_is_writing.b .nil pass0 (pa_cons (pv 0) (pa_cons (pv 1) pa_nil)))))
      pss_nil)
      (pss_cons (ps_if (pt_cmpR op_ne (pe_callB call_len_seq (by rfl) T.m_len PySem.boot_len (pa_cons (pv 0) pa_nil)) pe_int (nomark _))
      (pss_one (ps_ret pe_bl))
      pss_nil)
      (pss_cons (ps_if (pt_cmpR (op_eqG hr.units) (pv 4) pe_str (nomark _))
      (pss_one (ps_ret (pe_call ((okG_is_expression T).mono (by omega)) hr (by rfl) T.D_is_expression.g T.D_is_expression.kp T.D_is_expression.b .nil pass0 (pa_cons (pe_ix (r := rIxT K) ix_tup (pv 0) pe_int (fun _ _ => rfl)) (pa_cons (pv 1) pa_nil)))))
      pss_nil)
      (pss_one (ps_ret (pe_and (pe_cmpR (op_eqG hr.units) (pv 4) pe_str (nomark _)) (pe_one (pe_cmpR (op_inG hr.units) (pe_ix (r := rIxT K) ix_tup (pv 0) pe_int (fun _ _ => rfl)) (pv 2) (by with_unfolding_all rfl)))))))))))), ?_⟩
    by_cases ht : ∃ ds, d = .tuple ds
    · obtain ⟨ds, rfl⟩ := ht
      have hd0 := hd
      obtain ⟨a, zs, rfl, hS1, hA⟩ := gp_tup hd
      refine ⟨_, rfl, .ref a, .ty "tuple", _, _, true, rfl, .ty _, tyx_tupS hS1, kit_ty (by decide +kernel), true, rfl, iteF ?_⟩
      cases hA with
      | nil => exact ⟨_, rfl, false, .inr (.inl ⟨_, hS1, rfl⟩), iteT (q false _ (Same.refl _) ⟨(fun z => by cases z), fun z => absurd z st_nil⟩)⟩
      | @cons x1 ys wd r h1 hys =>
        have yl := gpAll_len hys
        obtain ⟨gw, rl, hr2⟩ := sx.cons
        refine ⟨_, rfl, true, .inr (.inl ⟨_, hS1, rfl⟩), iteF ?_⟩
        refine ⟨_, rfl, a, _, _, _, rfl, rfl, hS1, atI_nat (j := 0) rfl, ?_⟩
        refine ⟨_, rfl, T.a_COMPOUND, compound, wd, rfl, .inr (T.w_COMPOUND _), h1, gz_ok gw, compound_tup, _, rfl, ?_⟩
        show (if nameIn compound wd = true then _ else _)
        cases hc : nameIn compound wd with
        | true =>
          obtain ⟨x, rfl, hxc⟩ := nameIn_str hc
          obtain rfl := gp_str h1
          refine iteT ?_
          exact ⟨_, rfl, _, rfl, _, rfl, _, rfl, _, _, _, dd, x, r, names, procs, rfl, hd0, sx, hxc, hx, hdn, q⟩
        | false =>
          have nc : ∀ x ∈ compound, wd ≠ .str x := fun x hxc z => by
            rw [z, show nameIn compound (.str x) = true from decide_eq_true hxc] at hc
            cases hc
          have gr : ∀ x ∈ r, Gz x := hr2.resolve_right (by
            rintro ⟨x, e, bs, e1, hxc, _⟩
            exact nc x hxc e1)
          refine iteF ?_
          refine ⟨_, rfl, by rw [sizeLine_eq]; show 2 ≤ _; omega, fun p np => ?_⟩
          have s1 := same_new (o := HO.tup [.str "set", .str "swap"]) np
          have hp : (upd H p (HO.tup [.str "set", .str "swap"])) p = some (HO.tup [.str "set", .str "swap"]) := upd_same
          generalize upd H p (HO.tup [.str "set", .str "swap"]) = H1 at s1 hp ⊢
          have hp' : SqT K H1 p (([("set" : Str), "swap"] : List Str).map V.str) := SqT.of hp
          refine ⟨p, _, wd, rfl, .inr hp', h1.same s1, gz_ok gw, ss_tup, _, rfl, ?_⟩
          show (if nameIn ["set", "swap"] wd = true then _ else _)
          have hS2 := Same.sqt s1 hS1
          cases hs : nameIn ["set", "swap"] wd with
          | true =>
            obtain ⟨x, rfl, hxs⟩ := nameIn_str hs
            obtain rfl := gp_str h1
            have hxs : x = "set" ∨ x = "swap" := by simpa using hxs
            refine iteT ?_
            refine ⟨_, rfl, _, rfl, _, nv, x, r, names, rfl, hd0.same s1, hxs, gr, hx.n.same s1, hx.few, fun b H2 s2 hb => q b _ (s1.trans s2) (hb.trans ?_)⟩
            rw [st_cases]
            constructor
            · rintro (⟨y, e, e1, h⟩ | ⟨y, z, e1, h⟩)
              · obtain ⟨h1, h2⟩ := List.cons.inj (PyData.tuple.inj e1)
                exact .inl ⟨y, e, h1, h2, h⟩
              · obtain ⟨h1, h2⟩ := List.cons.inj (PyData.tuple.inj e1)
                exact .inr (.inl ⟨y, z, h1, h2, h⟩)
            · rintro (⟨y, e, h1, h2, h⟩ | ⟨y, z, h1, h2, h⟩ | ⟨e, h1, _⟩ | ⟨y, h1, _⟩ | ⟨e, bs, _, _, _, ⟨h1, _⟩ | ⟨h1 | h1, _⟩⟩)
              · exact .inl ⟨y, e, by rw [h1, h2], h⟩
              · exact .inr ⟨y, z, by rw [h1, h2], h⟩
              · rw [PyData.str.inj h1] at hxs
                exact absurd hxs (by decide +kernel)
              · rw [PyData.str.inj h1] at hxs
                exact absurd hxs (by decide +kernel)
              · exact absurd h1 (nc _ (by decide +kernel))
              · exact absurd h1 (nc _ (by decide +kernel))
              · exact absurd h1 (nc _ (by decide +kernel))
          | false =>
            have ns : ∀ x ∈ ([("set" : Str), "swap"] : List Str), wd ≠ .str x := fun x hxc z => by
              rw [z, show nameIn ["set", "swap"] (.str x) = true from decide_eq_true hxc] at hs
              cases hs
            have rest : StP names procs n (.tuple (wd :: r)) ↔ (∃ e, wd = .str "print" ∧ r = [e] ∧ ExP names e) ∨ ∃ x, wd = .str "call" ∧ r = [.str x] ∧ x ∈ procs := by
              rw [st_cases]
              constructor
              · rintro (⟨y, e, h1, h2, h⟩ | ⟨y, z, h1, h2, h⟩ | h | h | ⟨e, bs, _, _, _, ⟨h1, _⟩ | ⟨h1 | h1, _⟩⟩)
                · exact absurd h1 (ns _ (by decide +kernel))
                · exact absurd h1 (ns _ (by decide +kernel))
                · exact .inl h
                · exact .inr h
                · exact absurd h1 (nc _ (by decide +kernel))
                · exact absurd h1 (nc _ (by decide +kernel))
                · exact absurd h1 (nc _ (by decide +kernel))
              · rintro (h | h)
                · exact .inr (.inr (.inl h))
                · exact .inr (.inr (.inr (.inl h)))
            refine iteF ?_
            refine ⟨_, rfl, a, _, rfl, .inr hS2, rfl, _, rfl, ?_⟩
            rw [show (x1 :: ys).length = r.length + 1 from by rw [List.length_cons, yl]]
            by_cases l2 : r.length = 1
            · obtain ⟨e, rfl⟩ : ∃ e, r = [e] := by
                match r, l2 with
                | [e], _ => exact ⟨e, rfl⟩
              obtain ⟨y1, rfl, hy⟩ : ∃ y1, ys = [y1] ∧ Gp K H y1 e := by
                cases hys with
                | cons x y => cases y; exact ⟨_, rfl, x⟩
              refine iteF ?_
              refine ⟨_, rfl, wd, .str "print", h1.same s1, .str _, gz_eq gw (by decide +kernel), _, rfl, ?_⟩
              cases ep : PyData.eqv wd (.str "print") with
              | true =>
                obtain rfl := eqv_strD.mp ep
                refine iteT ?_
                refine ⟨_, rfl, a, _, _, _, rfl, rfl, hS2, atI_nat (j := 1) rfl, _, rfl, y1, nv, e, names, rfl, hy.same s1, gr _ (by simp), hx.n.same s1, hx.few, fun b H2 s2 hb => q b _ (s1.trans s2) (hb.trans ?_)⟩
                rw [rest]
                constructor
                · intro z
                  exact .inl ⟨e, rfl, rfl, z⟩
                · rintro (⟨e', _, e2, z⟩ | ⟨x, e1, _⟩)
                  · rw [(List.cons.inj e2).1]
                    exact z
                  · exact absurd (PyData.str.inj e1) (by decide +kernel)
              | false =>
                have np2 : wd ≠ .str "print" := fun z => by rw [eqv_strD.mpr z] at ep; cases ep
                refine iteF ?_
                refine ⟨_, rfl, wd, .str "call", h1.same s1, .str _, gz_eq gw (by decide +kernel), _, rfl, ?_⟩
                cases ec : PyData.eqv wd (.str "call") with
                | true =>
                  obtain rfl := eqv_strD.mp ec
                  refine iteT ?_
                  obtain ⟨pa, rfl, hp2⟩ := hx.p.same s1
                  refine ⟨_, rfl, a, _, _, _, rfl, rfl, hS2, atI_nat (j := 1) rfl, _, rfl, pa, procs, e, rfl, hp2, hy.same s1, gz_ok (gr _ (by simp)), fun x hxp => (hx.P x hxp).tup, ?_⟩
                  refine q _ _ s1 ?_
                  show nameIn procs e = true ↔ _
                  rw [rest]
                  constructor
                  · intro z
                    obtain ⟨x, rfl, hxp⟩ := nameIn_str z
                    exact .inr ⟨x, rfl, rfl, hxp⟩
                  · rintro (⟨e', e1, _⟩ | ⟨x, _, e2, hxp⟩)
                    · exact absurd e1 np2
                    · rw [(List.cons.inj e2).1]
                      exact decide_eq_true hxp
                | false =>
                  have nc2 : wd ≠ .str "call" := fun z => by rw [eqv_strD.mpr z] at ec; cases ec
                  refine iteF (q _ _ s1 ⟨(fun z => by cases z), fun z => ?_⟩)
                  rcases rest.mp z with ⟨_, e1, _⟩ | ⟨_, e1, _⟩
                  · exact absurd e1 np2
                  · exact absurd e1 nc2
            · rw [notEqV (by omega)]
              refine iteT (q false _ s1 ⟨(fun z => by cases z), fun z => ?_⟩)
              rcases rest.mp z with ⟨e', _, e2, _⟩ | ⟨x, _, e2, _⟩
              · rw [e2] at l2
                exact absurd rfl l2
              · rw [e2] at l2
                exact absurd rfl l2
    · have ht : ∀ ds, d ≠ .tuple ds := fun ds e => ht ⟨ds, e⟩
      obtain ⟨ty, kt⟩ := not_tuple hd ht
      refine ⟨_, rfl, v, .ty "tuple", _, _, false, rfl, .ty _, ty, kt, false, rfl, iteT (iteT (q false _ (Same.refl _) ⟨(fun z => by cases z), fun z => ?_⟩))⟩
      obtain ⟨s, e, _⟩ := z
      cases s <;> (simp only [St.D] at e; exact absurd e (ht _))
/-- all three, by the depth -/
theorem okG_blocks (T : PgF K mg) : ∀ n : Nat, FnOk P w K mg base CX0 (3 * n + 7) T.f_is_block T.fd_is_block ["candidate", "names", "procedures", "depth"] (sp_isblockG K n)
  | 0 => okG_is_block T fun m e => by omega
  | n + 1 => okG_is_block T fun m e => by
    obtain rfl : n = m := by omega
    exact okG_is_statement T (okG_is_compound T (okG_blocks T n))
end
end Sp1

set_option Elab.async false
set_option linter.all false
set_option maxRecDepth 100000
set_option maxHeartbeats 1000000
namespace Pg
open PySem PySem.Spec PyProof.Rows L2
theorem Gd.str {x : Str} (h : Gd (.str x)) : x.length ≤ 500 ∧ tupD (.str x) = true := by
  have h1 := h.sm
  have h2 := (Bool.and_eq_true_iff.mp h.sh).1
  simp only [smlD, decide_eq_true_eq] at h1
  exact ⟨h1, by simpa only [tupD] using h2⟩
def NamesP (d : PyData) : Prop := ∃ xs : List Str, d = .tuple (xs.map sD) ∧ Names xs ∧ xs.Nodup
theorem sDs_inj : ∀ {xs ys : List Str}, xs.map sD = ys.map sD → xs = ys
  | [], [], _ => rfl
  | [], _ :: _, h => by cases h
  | _ :: _, [], h => by cases h
  | t :: r, u :: q, h => by
    rw [List.map_cons, List.map_cons, List.cons.injEq] at h
    rw [PyData.str.inj h.1, sDs_inj h.2]
theorem strs_of : ∀ {ds : List PyData}, (∀ d ∈ ds, ∃ x, d = .str x ∧ Nm x) → ∃ xs : List Str, ds = xs.map sD ∧ Names xs
  | [], _ => ⟨[], rfl, fun t h => by cases h⟩
  | d :: r, h => by
    obtain ⟨x, rfl, h1⟩ := h d List.mem_cons_self
    obtain ⟨xs, e, h2⟩ := strs_of (ds := r) fun d hd => h d (List.mem_cons_of_mem _ hd)
    refine ⟨x :: xs, by rw [e]; rfl, fun u hu => ?_⟩
    rcases List.mem_cons.mp hu with rfl | hu
    · exact h1
    · exact h2 u hu
theorem nodup_of_len : ∀ {xs ys : List Str}, ys.Nodup → (∀ k ∈ ys, k ∈ xs) → xs.length ≤ ys.length → xs.Nodup
  | [], _, _, _, _ => List.nodup_nil
  | x :: r, ys, nd, m, l => by
    rw [List.length_cons] at l
    refine List.nodup_cons.mpr ⟨fun hx => ?_, ?_⟩
    · have := List.Nodup.length_le_of_subset nd (l₂ := r) fun k hk => by
        rcases List.mem_cons.mp (m k hk) with rfl | h
        · exact hx
        · exact h
      omega
    · refine nodup_of_len (ys := ys.erase x) (nd.erase x) (fun k hk => ?_) ?_
      · have h := (List.Nodup.mem_erase_iff nd).mp hk
        exact (List.mem_cons.mp (m k h.2)).resolve_left h.1
      · have := List.length_erase (a := x) (l := ys)
        split at this <;> omega
theorem nodup_iff_len {xs ys : List Str} (nd : ys.Nodup) (m : ∀ k, k ∈ ys ↔ k ∈ xs) : ys.length = xs.length ↔ xs.Nodup := by
  constructor
  · intro h
    exact nodup_of_len nd (fun k hk => (m k).mp hk) (by omega)
  · intro h
    exact (perm_of h nd m).length_eq
end Pg
namespace Sp1
open PySem PySem.Spec PyProof.Rows L2 Pg
theorem cmpA (c : Nat) : (!decide ((⟨#[c]⟩ : Str).cps.toList < ((("a" : String) : Str)).cps.toList)) = decide (97 ≤ c) := by
  have e : ((("a" : String) : Str)).cps.toList = [97] := by decide +kernel
  rw [e]
  rw [Bool.eq_iff_iff, Bool.not_eq_true', decide_eq_false_iff_not, decide_eq_true_eq]
  show ¬ [c] < [97] ↔ _
  constructor
  · intro h
    by_cases hc : c < 97
    · exact absurd (List.Lex.rel hc) h
    · omega
  · intro h z
    cases z with
    | rel z => omega
    | cons z => cases z
theorem cmpZ (c : Nat) : (!decide (((("z" : String) : Str)).cps.toList < (⟨#[c]⟩ : Str).cps.toList)) = decide (c ≤ 122) := by
  have e : ((("z" : String) : Str)).cps.toList = [122] := by decide +kernel
  rw [e]
  rw [Bool.eq_iff_iff, Bool.not_eq_true', decide_eq_false_iff_not, decide_eq_true_eq]
  show ¬ [122] < [c] ↔ _
  constructor
  · intro h
    by_cases hc : 122 < c
    · exact absurd (List.Lex.rel hc) h
    · omega
  · intro h z
    cases z with
    | rel z => omega
    | cons z => cases z
section
variable {P : Program} {w : World} {K : PySem.W.Frag} {mg : Str → Option Value} {base : Heap}
def sp_isnameG (K : PySem.W.Frag) : Sp := fun vs H Q _ => ∃ v d, vs = [v] ∧ Gp K H v d ∧ (∀ x, d = .str x → x.length ≤ 500) ∧ ∀ (b : Bool) H', Same H H' → (b = true ↔ ∃ x, d = .str x ∧ Nm x) → Q (.bl b) H'
theorem okG_is_name (T : PgF K mg) : FnOk P w K mg base CX0 1 T.f_is_name T.fd_is_name ["candidate"] (sp_isnameG K) := by
  refine T.D_is_name.F.ok sc_is_name (fun vs H Q E h => ?_) (fun cdv A outer s H vs Q E hr h => ?_)
  · obtain ⟨v, d, rfl, _⟩ := h
    rfl
  · obtain ⟨v, d, rfl, hd, hl, q⟩ := h
    have nd := sc_is_name.nd
    refine ⟨_, (pss_cons (ps_if (PW.pt (pw_or (pt_not (pt_val (pe_callB call_isi (by rfl) T.m_isinstance (by decide +kernel) (pa_cons (pv 0) (pa_cons (pe_ty (n := "str") (by rfl) T.m_str (by decide +kernel)) pa_nil))))) (pw_or1 (pt_not (pt_chain op_le op_le pe_int (pe_callB call_len_str (by rfl) T.m_len PySem.boot_len (pa_cons (pv 0) pa_nil)) (pe_glob (v := .int 8) rfl T.c_MAX_LETTERS ⟨_, rfl⟩) )))))
      (pss_one (ps_ret pe_bl))
      pss_nil)
      (pss_one (ps_ret (pe_and (pe_callB (cr_all rfl) (by rfl) T.m_all (by decide +kernel) (pa_cons (pe_lc (own := [("letter", 1)]) (g := (gName 1)) (tt := tYes) rfl nd (pi_str (pv 0)) (blkOk_by (N := N_is_name) (sc := defScope s_is_name) (by decide +kernel)) (fun _ _ _ _ _ => (pg_name (i := 1) nd rfl (.inl rfl))) (fun _ _ _ _ _ => pts_nil) (fun _ _ _ _ _ => (pe_chain op_le_str op_le_str pe_str (pv 1) pe_str ))) pa_nil)) (pe_one (pe_cmpR op_notIn_seq (pv 0) (pe_glob (v := .ref T.a_WORDS) rfl T.g_WORDS rfl) (by with_unfolding_all rfl))))))), ?_⟩
    by_cases hs : ∃ x, d = .str x
    · obtain ⟨x, rfl⟩ := hs
      obtain rfl := gp_str hd
      have l500 := hl x rfl
      have key : ¬ Nm x → (false = true ↔ ∃ y, PyData.str x = .str y ∧ Nm y) := fun h => ⟨(fun z => by cases z), fun ⟨y, e, n⟩ => absurd (PyData.str.inj e ▸ n) h⟩
      refine ⟨_, rfl, .str x, .ty "str", _, _, true, rfl, .ty _, .base (.str x), kit_ty (by decide +kernel), true, rfl, iteF ?_⟩
      refine ⟨_, rfl, x, rfl, by rw [sizeLine_eq]; omega, _, _, rfl, rfl, _, rfl, ?_⟩
      by_cases h1 : 1 ≤ x.length
      · rw [decide_eq_true (by omega)]
        refine iteT ⟨_, _, rfl, rfl, _, rfl, ?_⟩
        by_cases h8 : x.length ≤ 8
        · rw [decide_eq_true (by omega)]
          refine iteF ?_
          refine ⟨_, rfl, x, rfl, fun D nD => ?_⟩
          refine lc_it (walk_str (z := x)) (Bls H D (fun d => ∃ c : Nat, d = .int (c : Int) ∧ 97 ≤ c ∧ c ≤ 122) (x.cps.toList.map fun (c : Nat) => PyData.int (c : Int))) (Bls.start nD) (fun _ _ _ _ => trivial) ?_ ?_
          · rintro i v H1 H2 hi h ⟨rfl, c, hc, rfl⟩
            refine ⟨rfl, ?_⟩
            dsimp only [tYes]
            refine iteT ?_
            have hx : x.cps.size = x.length := rfl
            have hci : (x.cps.toList.map fun (c : Nat) => PyData.int (c : Int))[i]? = some (.int (c : Int)) := by
              rw [List.getElem?_map, Array.getElem?_toList, hc]
              rfl
            refine ⟨_, rfl, _, _, rfl, rfl, _, rfl, ?_⟩
            rw [cmpA]
            refine ite2 (fun e => ?_) (fun e => ?_)
            · refine ⟨_, _, rfl, rfl, ?_⟩
              rw [cmpZ]
              refine h.turn nD (Same.refl _) (by omega) hci ?_
              rw [decide_eq_true_eq]
              have e := of_decide_eq_true e
              exact ⟨fun z => ⟨c, rfl, e, z⟩, fun ⟨c', e', _, z⟩ => by have := PyData.int.inj e'; omega⟩
            · refine h.turn nD (Same.refl _) (by omega) hci (b := false) ⟨(fun z => by cases z), ?_⟩
              rintro ⟨c', e', z, _⟩
              have := PyData.int.inj e'
              exact absurd (decide_eq_true (by omega)) e
          · rintro H1 h
            have h : Bls H D (fun d => ∃ c : Nat, d = .int (c : Int) ∧ 97 ≤ c ∧ c ≤ 122) (x.cps.toList.map fun (c : Nat) => PyData.int (c : Int)) (x.cps.toList.map fun (c : Nat) => PyData.int (c : Int)).length H1 := by
              rw [List.length_map, Array.length_toList]
              exact h
            have s1 := h.1
            obtain ⟨bs, hD, hall⟩ := h.all
            refine ⟨D, _, rfl, SqL.of hD, _, rfl, ite2 (fun e => ?_) (fun e => ?_)⟩
            · have hch : ∀ c ∈ x.cps.toList, 97 ≤ c ∧ c ≤ 122 := fun c hc => by
                obtain ⟨c', e', z⟩ := hall.mp e (.int (c : Int)) (List.mem_map.mpr ⟨c, hc, rfl⟩)
                have := PyData.int.inj e'
                omega
              refine ⟨_, rfl, T.a_WORDS, _, rfl, .inr (T.w_WORDS _), rfl, flat_strs _, ?_⟩
              rw [inV_strs]
              refine q _ _ s1 ?_
              rw [show (if true = true then !decide (x ∈ words) else decide (x ∈ words)) = !decide (x ∈ words) from rfl, Bool.not_eq_true', decide_eq_false_iff_not]
              exact ⟨fun z => ⟨x, rfl, h1, h8, hch, z⟩, fun ⟨y, e', n⟩ => by rw [PyData.str.inj e']; exact n.nw⟩
            · refine q false _ s1 (key fun n => e (hall.mpr fun d hd => ?_))
              obtain ⟨c, hc, rfl⟩ := List.mem_map.mp hd
              exact ⟨c, rfl, n.ch c hc⟩
        · rw [decide_eq_false (by omega)]
          exact iteT (q false _ (Same.refl _) (key fun n => h8 n.l8))
      · rw [decide_eq_false (by omega)]
        exact iteF ⟨_, rfl, iteT (q false _ (Same.refl _) (key fun n => h1 n.l1))⟩
    · obtain ⟨ty, kt⟩ : TyX K H v (.type (tyG d)) ∧ PySem.W.kitOne K (.type (tyG d)) (.type "str") = some false := by
        refine ⟨gp_ty hd, ?_⟩
        cases d with
        | str x => exact absurd ⟨x, rfl⟩ hs
        | none => exact (show PySem.W.kitOne K (.type "NoneType") (.type "str") = some false from kit_ty (by decide +kernel))
        | bool b => exact (show PySem.W.kitOne K (.type "bool") (.type "str") = some false from kit_ty (by decide +kernel))
        | int i => exact (show PySem.W.kitOne K (.type "int") (.type "str") = some false from kit_ty (by decide +kernel))
        | tuple x => exact (show PySem.W.kitOne K (.type "tuple") (.type "str") = some false from kit_ty (by decide +kernel))
        | list x => exact (show PySem.W.kitOne K (.type "list") (.type "str") = some false from kit_ty (by decide +kernel))
        | dict x => exact (show PySem.W.kitOne K (.type "dict") (.type "str") = some false from kit_ty (by decide +kernel))
      refine ⟨_, rfl, v, .ty "str", _, _, false, rfl, .ty _, ty, kt, false, rfl, iteT (iteT (q false _ (Same.refl _) ⟨(fun z => by cases z), ?_⟩))⟩
      rintro ⟨x, e, _⟩
      exact absurd ⟨x, e⟩ hs
def sp_arenamesG (K : PySem.W.Frag) : Sp := fun vs H Q _ => ∃ v d, vs = [v] ∧ Gp K H v d ∧ (∀ ds, d = .tuple ds → ds.length ≤ 500 ∧ ∀ x ∈ ds, Gz x) ∧ ∀ (b : Bool) H', Same H H' → (b = true ↔ NamesP d) → Q (.bl b) H'
theorem okG_are_names (T : PgF K mg) : FnOk P w K mg base CX0 2 T.f_are_names T.fd_are_names ["candidate"] (sp_arenamesG K) := by
  refine T.D_are_names.F.ok sc_are_names (fun vs H Q E h => ?_) (fun cdv A outer s H vs Q E hr h => ?_)
  · obtain ⟨v, d, rfl, _⟩ := h
    rfl
  · obtain ⟨v, d, rfl, hd, hg, q⟩ := h
    have nd := sc_are_names.nd
    refine ⟨_, (pss_cons (ps_if (PW.pt (pw_or (pt_not (pt_val (pe_callB call_isi (by rfl) T.m_isinstance (by decide +kernel) (pa_cons (pv 0) (pa_cons (pe_ty (n := "tuple") (by rfl) T.m_tuple (by decide +kernel)) pa_nil))))) (pw_or1 (pt_not (pt_val (pe_callB (cr_all rfl) (by rfl) T.m_all (by decide +kernel) (pa_cons (pe_lc (own := [("name", 1)]) (g := (gName 1)) (tt := tYes) rfl nd (pi_tup (pv 0)) (blkOk_by (N := N_are_names) (sc := defScope s_are_names) (by decide +kernel)) (fun _ _ _ _ _ => (pg_name (i := 1) nd rfl (.inl rfl))) (fun _ _ _ _ _ => pts_nil) (fun _ _ _ _ _ => (pe_call ((okG_is_name T).mono (by decide)) hr (by rfl) T.D_is_name.g T.D_is_name.kp T.D_is_name.b .nil pass0 (pa_cons (pv 1) pa_nil)))) pa_nil)))))))
      (pss_one (ps_ret pe_bl))
      pss_nil)
      (pss_one (ps_ret (pe_cmpR op_eq (pe_callB cr_lenT (by rfl) T.m_len PySem.boot_len (pa_cons (pe_callTy (cr_setTd rfl) (by rfl) T.m_set (by decide +kernel) (pa_cons (pv 0) pa_nil)) pa_nil)) (pe_callB call_len_seq (by rfl) T.m_len PySem.boot_len (pa_cons (pv 0) pa_nil)) (nomark _))))), ?_⟩
    by_cases ht : ∃ ds, d = .tuple ds
    · obtain ⟨ds, rfl⟩ := ht
      obtain ⟨hl, gz⟩ := hg ds rfl
      obtain ⟨a, ys, rfl, hS, hA⟩ := gp_tup hd
      have yl := gpAll_len hA
      refine ⟨_, rfl, .ref a, .ty "tuple", _, _, true, rfl, .ty _, tyx_tupS hS, kit_ty (by decide +kernel), true, rfl, iteF ?_⟩
      refine ⟨_, rfl, a, rfl, ⟨_, hS⟩, fun D nD => ?_⟩
      refine lc_it (walk_tup (K := K) (a := a) (xs := ys)) (Bls H D (fun d => ∃ x, d = .str x ∧ Nm x) ds) (Bls.start nD) (fun i H' _ h => Same.sqt h.1 hS) ?_ ?_
      · rintro i v H1 H2 hi h ⟨rfl, hv⟩
        obtain ⟨d, hd, hdp⟩ := gpAll_at hA hv
        refine ⟨rfl, ?_⟩
        dsimp only [tYes]
        refine iteT ?_
        refine ⟨_, rfl, _, d, rfl, hdp.same h.1, fun x e => ?_, fun b H3 s3 hb => h.turn nD s3 (by omega) hd hb⟩
        have := gz d (List.mem_of_getElem? hd)
        rw [e] at this
        exact (this.resolve_right (fun z => by cases z)).str.1
      · rintro H1 h
        rw [yl] at h
        have s1 := h.1
        obtain ⟨bs, hD, hall⟩ := h.all
        refine ⟨D, _, rfl, SqL.of hD, _, rfl, ite2 (fun e => ?_) (fun e => ?_)⟩
        · refine q false _ s1 ⟨(fun z => by cases z), ?_⟩
          rintro ⟨xs, e2, hN, _⟩
          have : bs.all id = true := hall.mpr fun d hd => by
            rw [PyData.tuple.inj e2] at hd
            obtain ⟨x, hx, rfl⟩ := List.mem_map.mp hd
            exact ⟨x, rfl, hN x hx⟩
          rw [this] at e
          cases e
        · have e : bs.all id = true := by
            cases hb : bs.all id with
            | true => rfl
            | false =>
              rw [hb] at e
              exact absurd rfl e
          obtain ⟨xs, rfl, hN⟩ := strs_of (hall.mp e)
          have ys_eq : ys = xs.map V.str := dpAll_strs_inv (dpAll_of_gp hA (tupAll_iff.mpr fun d hd => by
            obtain ⟨x, hx, rfl⟩ := List.mem_map.mp hd
            exact (hN x hx).tup))
          subst ys_eq
          rw [List.length_map] at hl
          refine ⟨_, rfl, a, xs, rfl, .inr (Same.sqt s1 hS), by omega, fun S zs nS hz1 hz2 => ?_⟩
          refine ⟨S, zs, rfl, upd_same, ?_⟩
          refine ⟨_, rfl, a, _, rfl, .inr (Same.sqt (s1.trans (same_new nS)) hS), rfl, ?_⟩
          refine q _ _ (s1.trans (same_new nS)) ?_
          rw [decide_eq_true_eq, List.length_map]
          constructor
          · intro z
            have := V.int.inj z
            exact ⟨xs, rfl, hN, (nodup_iff_len hz1 hz2).mp (by omega)⟩
          · rintro ⟨xs', e2, _, hn⟩
            have e3 := sDs_inj (PyData.tuple.inj e2)
            rw [← e3] at hn
            rw [(nodup_iff_len hz1 hz2).mpr hn]
    · have ht : ∀ ds, d ≠ .tuple ds := fun ds e => ht ⟨ds, e⟩
      obtain ⟨ty, kt⟩ := not_tuple hd ht
      refine ⟨_, rfl, v, .ty "tuple", _, _, false, rfl, .ty _, ty, kt, false, rfl, iteT (iteT (q false _ (Same.refl _) ⟨(fun z => by cases z), ?_⟩))⟩
      rintro ⟨t, e, _⟩
      exact absurd e (ht _)
end
end Sp1

set_option Elab.async false
set_option linter.all false
set_option maxRecDepth 100000
set_option maxHeartbeats 1000000
namespace Pg
open PySem PySem.Spec PyProof.Rows L2
/-- the procedures' names and blocks are right (but for their size) -/
structure PrsV (names : List Str) (ps : List Pr) : Prop where
  N : Names (ps.map (·.1))
  nd : (ps.map (·.1)).Nodup
  len : ps.length ≤ 6
  bl : ∀ p ∈ ps, blOk names (ps.map (·.1)) 7 p.2
def PrsP (names : List Str) (d : PyData) : Prop := ∃ ps : List Pr, d = prsD ps ∧ PrsV names ps
/-- what may stand for the procedures -/
def PrX (d : PyData) : Prop := ∀ ds, d = .tuple ds → ds.length ≤ 500 ∧ ∀ x ∈ ds, ∀ a b, x = .tuple [a, b] → Gz a ∧ BlX b
abbrev qD (q : PyData × PyData) : PyData := .tuple [q.1, q.2]
theorem qs_of : ∀ {ds : List PyData}, (∀ d ∈ ds, ∃ a b, d = .tuple [a, b]) → ∃ qs : List (PyData × PyData), ds = qs.map qD
  | [], _ => ⟨[], rfl⟩
  | d :: r, h => by
    obtain ⟨a, b, rfl⟩ := h d List.mem_cons_self
    obtain ⟨qs, e⟩ := qs_of (ds := r) fun d hd => h d (List.mem_cons_of_mem _ hd)
    exact ⟨(a, b) :: qs, by rw [e]; rfl⟩
theorem prs_of {names procs : List Str} : ∀ {qs : List (PyData × PyData)} {xs : List Str}, qs.map (·.1) = xs.map sD → (∀ q ∈ qs, BkP names procs 7 q.2) → ∃ ps : List Pr, qs.map qD = ps.map prD ∧ ps.map (·.1) = xs ∧ ∀ p ∈ ps, blOk names procs 7 p.2
  | [], xs, e, _ => by
    cases xs with
    | nil => exact ⟨[], rfl, rfl, fun p h => by cases h⟩
    | cons _ _ => cases e
  | q :: r, xs, e, h => by
    cases xs with
    | nil => cases e
    | cons x xs =>
      rw [List.map_cons, List.map_cons, List.cons.injEq] at e
      obtain ⟨b, e1, ok⟩ := h q List.mem_cons_self
      obtain ⟨ps, e2, e3, e4⟩ := prs_of e.2 fun q hq => h q (List.mem_cons_of_mem _ hq)
      refine ⟨(x, b) :: ps, ?_, by rw [List.map_cons, e3], fun p hp => ?_⟩
      · rw [List.map_cons, List.map_cons, e2]
        unfold qD prD
        rw [e.1, e1]
      · rcases List.mem_cons.mp hp with rfl | hp
        · exact ok
        · exact e4 p hp
theorem prs_inv : ∀ {qs : List (PyData × PyData)} {ps : List Pr}, qs.map qD = ps.map prD → qs.map (·.1) = (ps.map (·.1)).map sD ∧ ∀ q ∈ qs, ∃ p ∈ ps, q.2 = bD p.2
  | [], [], _ => ⟨rfl, fun q h => by cases h⟩
  | [], _ :: _, e => by cases e
  | _ :: _, [], e => by cases e
  | q :: r, p :: ps, e => by
    rw [List.map_cons, List.map_cons, List.cons.injEq] at e
    obtain ⟨h1, h2⟩ := prs_inv e.2
    have e1 := e.1
    unfold qD prD at e1
    simp only [PyData.tuple.injEq, List.cons.injEq, and_true] at e1
    refine ⟨by simp only [List.map_cons]; rw [e1.1, h1], fun q' hq => ?_⟩
    rcases List.mem_cons.mp hq with rfl | hq
    · exact ⟨p, List.mem_cons_self, e1.2⟩
    · obtain ⟨p', hp, e'⟩ := h2 q' hq
      exact ⟨p', List.mem_cons_of_mem _ hp, e'⟩
end Pg
namespace Sp1
open PySem PySem.Spec PyProof.Rows L2 Pg
section
variable {P : Program} {w : World} {K : PySem.W.Frag} {mg : Str → Option Value} {base : Heap}
theorem gpAll_snoc {H : Hp} : ∀ {vs : List V} {ds : List PyData} {v : V} {d : PyData}, GpAll K H vs ds → Gp K H v d → GpAll K H (vs ++ [v]) (ds ++ [d])
  | _, _, _, _, .nil, h => .cons h .nil
  | _, _, _, _, .cons a b, h => .cons a (gpAll_snoc b h)
theorem gpAll_app {H : Hp} : ∀ {vs ws : List V} {ds es : List PyData}, GpAll K H vs ds → GpAll K H ws es → GpAll K H (vs ++ ws) (ds ++ es)
  | _, _, _, _, .nil, h => h
  | _, _, _, _, .cons a b, h => .cons a (gpAll_app b h)
/-- a list put anew at a place that was free ahead leaves other data -/
theorem gpAll_put {H0 H : Hp} {D : Addr} {o : HO} {vs : List V} {ds : List PyData} (n : H0 D = none) (h : GpAll K H0 vs ds) (s : Same H0 H) : GpAll K (upd H D o) vs ds := h.same (same_at n s)
def sp_areprocsG (K : PySem.W.Frag) : Sp := fun vs H Q _ => ∃ v nv d names, vs = [v, nv] ∧ Gp K H v d ∧ PrX d ∧ Tl K H nv names ∧ Few names ∧ ∀ (b : Bool) H', Same H H' → (b = true ↔ PrsP names d) → Q (.bl b) H'
theorem okG_are_procedures (T : PgF K mg) : FnOk P w K mg base CX0 32 T.f_are_procedures T.fd_are_procedures ["candidate", "names"] (sp_areprocsG K) := by
  refine T.D_are_procedures.F.ok sc_are_procedures (fun vs H Q E h => ?_) (fun cdv A outer s H vs Q E hr h => ?_)
  · obtain ⟨v, nv, d, names, rfl, _⟩ := h
    rfl
  · obtain ⟨v, nv, d, names, rfl, hd, px, hn, few, q⟩ := h
    have nd := sc_are_procedures.nd
    refine ⟨_, (pss_cons (ps_if (PW.pt (pw_or (pt_not (pt_val (pe_callB call_isi (by rfl) T.m_isinstance (by decide +kernel) (pa_cons (pv 0) (pa_cons (pe_ty (n := "tuple") (by rfl) T.m_tuple (by decide +kernel)) pa_nil))))) (pw_or1 (pt_cmpR op_gt (pe_callB call_len_seq (by rfl) T.m_len PySem.boot_len (pa_cons (pv 0) pa_nil)) (pe_glob (v := .int 6) rfl T.c_MAX_PROCEDURES ⟨_, rfl⟩) (nomark _)))))
      (pss_one (ps_ret pe_bl))
      pss_nil)
      (pss_cons (ps_if (pt_not (pt_val (pe_callB (cr_all rfl) (by rfl) T.m_all (by decide +kernel) (pa_cons (pe_lc (own := [("procedure", 3)]) (g := (gName 3)) (tt := tYes) rfl nd (pi_tup (pv 0)) (blkOk_by (N := N_are_procedures) (sc := defScope s_are_procedures) (by decide +kernel)) (fun _ _ _ _ _ => (pg_name (i := 3) nd rfl (.inl rfl))) (fun _ _ _ _ _ => pts_nil) (fun _ _ _ _ _ => (pe_and (pe_callB (r := rIsi K) (id := "isinstance") call_isi (by rfl) T.m_isinstance (by decide +kernel) (pa_cons (pv 3) (pa_cons (pe_ty (n := "tuple") (by rfl) T.m_tuple (by decide +kernel)) pa_nil))) (pe_one (pe_cmpR op_eq (pe_callB (r := rLenSq K) call_len_seq (by rfl) T.m_len PySem.boot_len (pa_cons (pv 3) pa_nil)) pe_int (nomark _)))))) pa_nil))))
      (pss_one (ps_ret pe_bl))
      pss_nil)
      (pss_cons (ps_set (i := 2) nd rfl (.inr rfl) (pe_callTy call_tuple_of (by rfl) T.m_tuple (by decide +kernel) (pa_cons (pe_lc (own := [("name", 4), ("_", 5)]) (g := (gTup K 2 (gCons (gName 4) (gCons (gName 5) gNil)))) (tt := tYes) rfl nd (pi_tup (pv 0)) (blkOk_by (N := N_are_procedures) (sc := defScope s_are_procedures) (by decide +kernel)) (fun _ _ _ _ _ => (pg_tup rfl (pgs_cons (pg_name (i := 4) nd rfl (.inl rfl)) (pgs_cons (pg_name (i := 5) nd rfl (.inl rfl)) pgs_nil)))) (fun _ _ _ _ _ => pts_nil) (fun _ _ _ _ _ => (pv 4))) pa_nil)))
      (pss_one (ps_ret (pe_and (pe_call ((okG_are_names T).mono (by decide)) hr (by rfl) T.D_are_names.g T.D_are_names.kp T.D_are_names.b .nil pass0 (pa_cons (pv 2) pa_nil)) (pe_one (pe_callB (cr_all rfl) (by rfl) T.m_all (by decide +kernel) (pa_cons (pe_lc (own := [("_", 5), ("block", 6)]) (g := (gTup K 2 (gCons (gName 5) (gCons (gName 6) gNil)))) (tt := tYes) rfl nd (pi_tup (pv 0)) (blkOk_by (N := N_are_procedures) (sc := defScope s_are_procedures) (by decide +kernel)) (fun _ _ _ _ _ => (pg_tup rfl (pgs_cons (pg_name (i := 5) nd rfl (.inl rfl)) (pgs_cons (pg_name (i := 6) nd rfl (.inl rfl)) pgs_nil)))) (fun _ _ _ _ _ => pts_nil) (fun _ _ _ _ _ => (pe_call ((okG_blocks T 8).mono (by decide)) hr (by rfl) T.g_is_block T.F_is_block.kp T.b3_is_block T.v3_is_block pass0 (pa_cons (pv 6) (pa_cons (pv 1) (pa_cons (pv 2) pa_nil)))))) pa_nil))))))))), ?_⟩
    by_cases ht : ∃ ds, d = .tuple ds
    · obtain ⟨ds, rfl⟩ := ht
      obtain ⟨hl, pxm⟩ := px ds rfl
      obtain ⟨a, ys, rfl, hS, hA⟩ := gp_tup hd
      have yl := gpAll_len hA
      refine ⟨_, rfl, .ref a, .ty "tuple", _, _, true, rfl, .ty _, tyx_tupS hS, kit_ty (by decide +kernel), true, rfl, iteF ?_⟩
      refine ⟨_, rfl, a, _, rfl, .inr hS, ?_⟩
      refine ⟨_, _, rfl, rfl, _, rfl, ?_⟩
      rw [yl]
      by_cases l6 : ds.length ≤ 6
      · rw [decide_eq_false (by omega)]
        refine iteF ?_
        refine ⟨_, rfl, a, rfl, ⟨_, hS⟩, fun D nD => ?_⟩
        refine lc_it (walk_tup (K := K) (a := a) (xs := ys)) (Bls H D (fun d => ∃ a b, d = .tuple [a, b]) ds) (Bls.start nD) (fun i H' _ h => Same.sqt h.1 hS) ?_ ?_
        · rintro i v H1 H2 hi h ⟨rfl, hv⟩
          obtain ⟨d, hd, hdp⟩ := gpAll_at hA hv
          refine ⟨rfl, ?_⟩
          dsimp only [tYes]
          refine iteT ?_
          by_cases ht : ∃ es, d = .tuple es
          · obtain ⟨es, rfl⟩ := ht
            obtain ⟨b, zs, rfl, hb, hz⟩ := gp_tup (hdp.same h.1)
            have zl := gpAll_len hz
            refine ⟨_, rfl, .ref b, .ty "tuple", _, _, true, rfl, .ty _, tyx_tupS hb, kit_ty (by decide +kernel), true, rfl, iteT ?_⟩
            refine ⟨_, rfl, b, _, rfl, .inr hb, rfl, ?_⟩
            refine h.turn nD (Same.refl _) (by omega) hd ?_
            rw [decide_eq_true_eq, zl]
            constructor
            · intro z
              have z := V.int.inj z
              have z : es.length = 2 := by omega
              match es, z with
              | [x, y], _ => exact ⟨x, y, rfl⟩
            · rintro ⟨x, y, e⟩
              rw [PyData.tuple.inj e]
              rfl
          · have ht : ∀ ds, d ≠ .tuple ds := fun ds e => ht ⟨ds, e⟩
            obtain ⟨ty, kt⟩ := not_tuple (hdp.same h.1) ht
            refine ⟨_, rfl, v, .ty "tuple", _, _, false, rfl, .ty _, ty, kt, false, rfl, iteF ?_⟩
            refine h.turn nD (Same.refl _) (by omega) hd (b := false) ⟨(fun z => by cases z), ?_⟩
            rintro ⟨x, y, e⟩
            exact absurd e (ht _)
        · rintro H1 h
          rw [yl] at h
          have s1 := h.1
          obtain ⟨bs, hD, hall⟩ := h.all
          refine ⟨D, _, rfl, SqL.of hD, _, rfl, ite2 (fun e => ?_) (fun e => ?_)⟩
          · refine q false _ s1 ⟨(fun z => by cases z), ?_⟩
            rintro ⟨ps, e2, _⟩
            have : bs.all id = true := hall.mpr fun d hd => by
              rw [PyData.tuple.inj e2] at hd
              obtain ⟨p, hp, rfl⟩ := List.mem_map.mp hd
              exact ⟨_, _, rfl⟩
            rw [this] at e
            cases e
          · have e : bs.all id = true := by
              cases hb : bs.all id with
              | true => rfl
              | false =>
                rw [hb] at e
                exact absurd rfl e
            obtain ⟨qs, rfl⟩ := qs_of (hall.mp e)
            have item : ∀ {i : Nat} {v : V} {H' : Hp}, Same H H' → ys[i]? = some v → ∃ q b x y, qs[i]? = some q ∧ v = .ref b ∧ SqT K H' b [x, y] ∧ Gp K H' x q.1 ∧ Gp K H' y q.2 := fun {i v H'} s hv => by
              obtain ⟨d', hd', hdp⟩ := gpAll_at hA hv
              rw [List.getElem?_map] at hd'
              obtain ⟨q, hq, rfl⟩ := Option.map_eq_some_iff.mp hd'
              obtain ⟨b, x, y, e, h1, h2, h3⟩ := gp_tup2 (hdp.same s)
              exact ⟨q, b, x, y, hq, e, h1, h2, h3⟩
            have gq : ∀ q ∈ qs, Gz q.1 ∧ BlX q.2 := fun q hq => pxm _ (List.mem_map.mpr ⟨q, hq, rfl⟩) _ _ rfl
            rw [List.length_map] at yl l6 hl
            refine ⟨_, rfl, a, rfl, ⟨_, Same.sqt s1 hS⟩, fun D2 nD2 => ?_⟩
            refine lc_it (walk_tup (K := K) (a := a) (xs := ys)) (fun i H' => Same H1 H' ∧ ∃ acc, H' D2 = some (.lst acc) ∧ GpAll K H1 acc ((qs.take i).map (·.1))) ⟨same_new nD2, [], upd_same, .nil⟩ (fun i H' _ h' => Same.sqt (s1.trans h'.1) hS) ?_ ?_
            · rintro i v H3 H4 hi ⟨s3, acc, hacc, hg⟩ ⟨rfl, hv⟩
              obtain ⟨q', b, x, y, hq, rfl, hb, hx, hy⟩ := item s1 hv
              refine ⟨b, _, rfl, Same.sqt s3 hb, rfl, _, _, rfl, _, _, rfl, rfl, rfl, ?_⟩
              dsimp only [tYes]
              refine iteT ⟨_, rfl, ?_⟩
              have al := gpAll_len hg
              rw [List.length_map, List.length_take] at al
              refine ⟨acc, hacc, by rw [sizeLine_eq]; omega, same_at nD2 s3, _, upd_same, ?_⟩
              have htk : (qs.take (i + 1)).map (·.1) = (qs.take i).map (·.1) ++ [q'.1] := by rw [List.take_add_one, hq, List.map_append]; rfl
              rw [htk]
              exact gpAll_snoc hg hx
            · rintro H3 ⟨s3, acc, hacc, hg⟩
              rw [yl, List.take_length] at hg
              have s13 := s1.trans s3
              refine ⟨D2, acc, rfl, .inl ⟨SqL.of hacc, fun c nc => ?_⟩⟩
              have s4' := same_new (o := HO.tup acc) nc
              have hc : (upd H3 c (HO.tup acc)) c = some (HO.tup acc) := upd_same
              generalize upd H3 c (HO.tup acc) = H4 at s4' hc ⊢
              have s14 := s13.trans s4'
              refine ⟨_, rfl, .ref c, .tuple (qs.map (·.1)), rfl, .tup (SqT.of hc) (hg.same (s3.trans s4')), fun ds e => ?_, fun b H5 s5 hb => ?_⟩
              · obtain rfl := PyData.tuple.inj e
                refine ⟨by rw [List.length_map]; omega, fun x hx => ?_⟩
                obtain ⟨q', hq', rfl⟩ := List.mem_map.mp hx
                exact (gq q' hq').1
              · have s15 := s14.trans s5
                cases b with
                | false =>
                  refine ⟨_, rfl, iteF (q false _ s15 ⟨(fun z => by cases z), ?_⟩)⟩
                  rintro ⟨ps, e, h⟩
                  have := hb.mpr ⟨ps.map (·.1), by rw [(prs_inv (PyData.tuple.inj e)).1], h.N, h.nd⟩
                  cases this
                | true =>
                  obtain ⟨xs, e1, hXN, hXnd⟩ := hb.mp rfl
                  have e1 := PyData.tuple.inj e1
                  have hcx : acc = xs.map V.str := dpAll_strs_inv (dpAll_of_gp (by rw [← e1]; exact hg) (tupAll_iff.mpr fun d hd => by
                    obtain ⟨x, hx, rfl⟩ := List.mem_map.mp hd
                    exact (hXN x hx).tup))
                  subst hcx
                  refine ⟨_, rfl, iteT ?_⟩
                  refine ⟨_, rfl, a, rfl, ⟨_, Same.sqt s15 hS⟩, fun D3 nD3 => ?_⟩
                  refine lc_it (walk_tup (K := K) (a := a) (xs := ys)) (Bls H5 D3 (fun d => BkP names xs 7 d) (qs.map (·.2))) (Bls.start nD3) (fun i H' _ h => Same.sqt (s15.trans h.1) hS) ?_ ?_
                  · rintro i v H6 H7 hi h' ⟨rfl, hv⟩
                    obtain ⟨q', b, x, y, hq, rfl, hb', hx, hy⟩ := item (s15.trans h'.1) hv
                    refine ⟨b, _, rfl, hb', rfl, _, _, rfl, _, _, rfl, rfl, rfl, ?_⟩
                    dsimp only [tYes]
                    refine iteT ?_
                    refine ⟨_, rfl, _, rfl, _, rfl, y, nv, .ref c, 1, q'.2, names, xs, rfl, hy, (gq q' (List.mem_of_getElem? hq)).2, ⟨hn.same (s15.trans h'.1), ⟨c, rfl, .inr (SqT.of ((s5.trans h'.1) _ _ hc))⟩, few, hXN⟩, by decide, fun bb H8 s8 hbb => ?_⟩
                    refine h'.turn nD3 s8 (by omega) (d := q'.2) (by rw [List.getElem?_map, hq]; rfl) (hbb.trans ⟨?_, fun z => ⟨7, rfl, z⟩⟩)
                    rintro ⟨m, em, z⟩
                    obtain rfl : m = 7 := by omega
                    exact z
                  · rintro H6 h'
                    have h' : Bls H5 D3 (fun d => BkP names xs 7 d) (qs.map (·.2)) (qs.map (·.2)).length H6 := by
                      rw [List.length_map]
                      rw [yl] at h'
                      exact h'
                    have s6 := s15.trans h'.1
                    obtain ⟨bs2, hD3, hall2⟩ := h'.all
                    refine ⟨D3, _, rfl, SqL.of hD3, ?_⟩
                    refine q _ _ s6 (hall2.trans ⟨fun z => ?_, ?_⟩)
                    · obtain ⟨ps, e2, e3, e4⟩ := prs_of (names := names) (procs := xs) e1 fun q' hq' => z q'.2 (List.mem_map.mpr ⟨q', hq', rfl⟩)
                      refine ⟨ps, by unfold prsD; rw [e2], by rw [e3]; exact hXN, by rw [e3]; exact hXnd, ?_, by rw [e3]; exact e4⟩
                      have := congrArg List.length e2
                      rw [List.length_map, List.length_map] at this
                      omega
                    · rintro ⟨ps, e, h⟩ d hd
                      obtain ⟨h1, h2⟩ := prs_inv (PyData.tuple.inj e)
                      have e5 : xs = ps.map (·.1) := sDs_inj (e1.symm.trans h1)
                      obtain ⟨q', hq', rfl⟩ := List.mem_map.mp hd
                      obtain ⟨p, hp, e6⟩ := h2 q' hq'
                      refine ⟨p.2, e6, ?_⟩
                      rw [e5]
                      exact h.bl p hp
      · rw [decide_eq_true (by omega)]
        refine iteT (q false _ (Same.refl _) ⟨(fun z => by cases z), ?_⟩)
        rintro ⟨ps, e, h⟩
        rw [PyData.tuple.inj e, List.length_map] at l6
        exact absurd h.len l6
    · have ht : ∀ ds, d ≠ .tuple ds := fun ds e => ht ⟨ds, e⟩
      obtain ⟨ty, kt⟩ := not_tuple hd ht
      refine ⟨_, rfl, v, .ty "tuple", _, _, false, rfl, .ty _, ty, kt, false, rfl, iteT (iteT (q false _ (Same.refl _) ⟨(fun z => by cases z), ?_⟩))⟩
      rintro ⟨t, e, _⟩
      exact absurd e (ht _)
end
end Sp1

set_option Elab.async false
set_option linter.all false
set_option maxRecDepth 100000
set_option maxHeartbeats 1000000
namespace Pg
open PySem PySem.Spec PyProof.Rows L2
/-- the given names and the others -/
structure VarsOk (gs vs : List Str) : Prop where
  N : Names (gs ++ vs)
  nd : (gs ++ vs).Nodup
  l1 : 1 ≤ gs.length + vs.length
  l4 : gs.length + vs.length ≤ 4
def VarsP (gs : List Str) (d : PyData) : Prop := ∃ vs : List Str, d = .tuple (vs.map sD) ∧ VarsOk gs vs
/-- what may stand for names -/
def NmX (d : PyData) : Prop := ∀ ds, d = .tuple ds → ds.length ≤ 200 ∧ ∀ x ∈ ds, Gz x
theorem VarsOk.few {gs vs : List Str} (h : VarsOk gs vs) : Few (gs ++ vs) := ⟨h.N, by rw [List.length_append]; exact h.l4⟩
end Pg
namespace Sp1
open PySem PySem.Spec PyProof.Rows L2 Pg Sp1X
/-- the error of invalid programs -/
structure PgI (K : PySem.W.Frag) (mg : Str → Option Value) where
  U : Addr
  fU : Addr
  X : Txt_InvalidProgram K mg U fU
/-- what is wanted where the part is wrong: behind H, all but x may not have changed -/
def Er (U : Addr) (H : Hp) (E : XK) (part : Str) : Prop := ∀ (H1 : Hp) (d : Addr), Same H H1 → H1 d = none → E (.ref U) (some d) (upd H1 d (.xd [(("part" : Str), .str part)]))
section
variable {P : Program} {w : World} {K : PySem.W.Frag} {mg : Str → Option Value} {base : Heap}
def spX_names (K : PySem.W.Frag) (U : Addr) : Sp := fun vs H Q E => ∃ (gv vv : V) (dg dv : PyData), vs = [gv, vv] ∧ Gp K H gv dg ∧ Gp K H vv dv ∧ NmX dg ∧ NmX dv ∧ (¬ NamesP dg → Er U H E "given") ∧
  (∀ gs : List Str, dg = .tuple (gs.map sD) → Names gs → gs.Nodup → ¬ VarsP gs dv → Er U H E "variables") ∧ ∀ gs vs : List Str, dg = .tuple (gs.map sD) → dv = .tuple (vs.map sD) → VarsOk gs vs → ∀ H1, Same H H1 → Q .non H1
theorem okX_check_names (T : PgF K mg) (U : PgI K mg) : FnOk P w K mg base (L2.CX P w) 4 T.f_check_names T.fd_check_names ["given", "variables"] (spX_names K U.U) := by
  refine T.D_check_names.F.okX sc_check_names (fun vs H Q E h => ?_) (fun cdv A outer s H vs Q E hr h => ?_)
  · obtain ⟨v, mv, ps, m, rfl, _⟩ := h
    rfl
  · obtain ⟨gv, vv, dg, dv, rfl, hg, hv, ng, nv, eg, ev, q⟩ := h
    have nd := sc_check_names.nd
    refine ⟨_, (pss_cons (ps_if (pt_not (pt_val (pe_call ((okG_are_names T).mono (by decide)) hr (by rfl) T.D_are_names.g T.D_are_names.kp T.D_are_names.b .nil pass0 (pa_cons (pv 0) pa_nil))))
      (pss_one (ps_raise_InvalidProgram rfl U.X hr (takes_of rfl rfl rfl rfl) (pa_cons pe_str pa_nil)))
      pss_nil)
      (pss_cons (ps_if (PW.pt (pw_or (pt_not (pt_val (pe_callB call_isi (by rfl) T.m_isinstance (by decide +kernel) (pa_cons (pv 1) (pa_cons (pe_ty (n := "tuple") (by rfl) T.m_tuple (by decide +kernel)) pa_nil))))) (pw_or1 (pt_not (pt_val (pe_call ((okG_are_names T).mono (by decide)) hr (by rfl) T.D_are_names.g T.D_are_names.kp T.D_are_names.b .nil pass0 (pa_cons (pe_op op_catU (pv 0) (pv 1)) pa_nil)))))))
      (pss_one (ps_raise_InvalidProgram rfl U.X hr (takes_of rfl rfl rfl rfl) (pa_cons pe_str pa_nil)))
      pss_nil)
      (pss_one (ps_if (pt_not (pt_chain op_le op_le pe_int (pe_op op_add (pe_callB call_len_seq (by rfl) T.m_len PySem.boot_len (pa_cons (pv 0) pa_nil)) (pe_callB call_len_seq (by rfl) T.m_len PySem.boot_len (pa_cons (pv 1) pa_nil))) (pe_glob (v := .int 4) rfl T.c_MAX_NAMES ⟨_, rfl⟩) ))
      (pss_one (ps_raise_InvalidProgram rfl U.X hr (takes_of rfl rfl rfl rfl) (pa_cons pe_str pa_nil)))
      pss_nil)))), ?_⟩
    refine ⟨_, rfl, gv, dg, rfl, hg, fun ds e => ⟨by have := (ng ds e).1; omega, (ng ds e).2⟩, fun b H1 s1 hb => ?_⟩
    cases b with
    | false => exact ⟨_, rfl, iteT ⟨_, rfl, fun d nd' => eg (fun z => by have := hb.mpr z; cases this) H1 d s1 nd'⟩⟩
    | true =>
      obtain ⟨gs, rfl, hGN, hGnd⟩ := hb.mp rfl
      obtain ⟨ga, gxs, rfl, hgS, hgA⟩ := gp_tup hg
      have hgx : gxs = gs.map V.str := dpAll_strs_inv (dpAll_of_gp hgA (tupAll_iff.mpr fun d hd => by
        obtain ⟨x, hx, rfl⟩ := List.mem_map.mp hd
        exact (hGN x hx).tup))
      subst hgx
      refine ⟨_, rfl, iteF ?_⟩
      by_cases ht : ∃ ds, dv = .tuple ds
      · obtain ⟨ds, rfl⟩ := ht
        obtain ⟨hl, gz⟩ := nv ds rfl
        have hl2 := (ng _ rfl).1
        rw [List.length_map] at hl2
        obtain ⟨va, vxs, rfl, hvS, hvA⟩ := gp_tup hv
        have yl := gpAll_len hvA
        refine ⟨_, rfl, .ref va, .ty "tuple", _, _, true, rfl, .ty _, tyx_tupS (Same.sqt s1 hvS), kit_ty (by decide +kernel), true, rfl, iteF ?_⟩
        refine ⟨_, rfl, _, rfl, ga, va, _, _, rfl, rfl, Same.sqt s1 hgS, Same.sqt s1 hvS, by rw [List.length_map, sizeLine_eq]; omega, fun p H2 s2 hp => ?_⟩
        have s12 := s1.trans s2
        have hboth : Gp K H2 (.ref p) (.tuple (gs.map sD ++ ds)) := .tup hp (gpAll_app (hgA.same s12) (hvA.same s12))
        refine ⟨.ref p, _, rfl, hboth, fun es e => ?_, fun b H3 s3 hb2 => ?_⟩
        · obtain rfl := PyData.tuple.inj e
          refine ⟨by rw [List.length_append, List.length_map]; omega, fun x hx => ?_⟩
          rcases List.mem_append.mp hx with hx | hx
          · exact (ng _ rfl).2 x hx
          · exact gz x hx
        · have s13 := s12.trans s3
          cases b with
          | false =>
            refine ⟨_, rfl, iteT ⟨_, rfl, fun d nd' => ev gs rfl hGN hGnd ?_ H3 d s13 nd'⟩⟩
            rintro ⟨vs, e, h⟩
            have := hb2.mpr ⟨gs ++ vs, by rw [PyData.tuple.inj e, List.map_append], h.N, h.nd⟩
            cases this
          | true =>
            obtain ⟨xs, e2, hXN, hXnd⟩ := hb2.mp rfl
            obtain ⟨vs, rfl, rfl⟩ : ∃ vs : List Str, ds = vs.map sD ∧ xs = gs ++ vs := by
              have e3 := PyData.tuple.inj e2
              obtain ⟨a, b, e4, e5, e6⟩ := List.append_eq_map_iff.mp e3
              have := sDs_inj e5
              subst this
              exact ⟨b, e6.symm, e4⟩
            refine ⟨_, rfl, iteF ?_⟩
            refine ⟨_, rfl, ga, _, rfl, .inr (Same.sqt s13 hgS), _, rfl, va, _, rfl, .inr (Same.sqt s13 hvS), ?_⟩
            refine ⟨_, _, rfl, rfl, _, _, rfl, rfl, _, rfl, ?_⟩
            rw [List.length_map] at yl
            rw [List.length_map, yl]
            have fail : ¬ (1 ≤ gs.length + vs.length ∧ gs.length + vs.length ≤ 4) → Er U.U H E "variables" := fun hn => ev gs rfl hGN hGnd fun z => by
              obtain ⟨vs', e, h⟩ := z
              rw [sDs_inj (PyData.tuple.inj e)] at hn
              exact hn ⟨h.l1, h.l4⟩
            by_cases h1 : 1 ≤ gs.length + vs.length
            · rw [decide_eq_true (by omega)]
              refine iteT ⟨_, _, rfl, rfl, _, rfl, ?_⟩
              by_cases h4 : gs.length + vs.length ≤ 4
              · rw [decide_eq_true (by omega)]
                exact iteF (q gs vs rfl rfl ⟨hXN, hXnd, h1, h4⟩ _ s13)
              · rw [decide_eq_false (by omega)]
                exact iteT ⟨_, rfl, fun d nd' => fail (fun z => h4 z.2) H3 d s13 nd'⟩
            · rw [decide_eq_false (by omega)]
              exact iteF ⟨_, rfl, iteT ⟨_, rfl, fun d nd' => fail (fun z => h1 z.1) H3 d s13 nd'⟩⟩
      · have ht : ∀ ds, dv ≠ .tuple ds := fun ds e => ht ⟨ds, e⟩
        obtain ⟨ty, kt⟩ := not_tuple (hv.same s1) ht
        refine ⟨_, rfl, vv, .ty "tuple", _, _, false, rfl, .ty _, ty, kt, false, rfl, iteT (iteT ⟨_, rfl, fun d nd' => ev gs rfl hGN hGnd ?_ H1 d s1 nd'⟩)⟩
        rintro ⟨vs, e, _⟩
        exact absurd e (ht _)
def spX_blocks (K : PySem.W.Frag) (U : Addr) : Sp := fun vs H Q E => ∃ (nv pv mv : V) (names : List Str) (dq dm : PyData), vs = [nv, pv, mv] ∧ Ts K H nv names ∧ Few names ∧ Gp K H pv dq ∧ Gp K H mv dm ∧ PrX dq ∧ BlX dm ∧ (¬ PrsP names dq → Er U H E "procedures") ∧
  (∀ ps, dq = prsD ps → PrsV names ps → ¬ BkP names (ps.map (·.1)) 7 dm → Er U H E "main") ∧ ∀ ps m, dq = prsD ps → PrsV names ps → dm = bD m → blOk names (ps.map (·.1)) 7 m → ∀ H1, Same H H1 → Q .non H1
theorem okX_check_blocks (T : PgF K mg) (U : PgI K mg) : FnOk P w K mg base (L2.CX P w) 33 T.f_check_blocks T.fd_check_blocks ["names", "procedures", "main"] (spX_blocks K U.U) := by
  refine T.D_check_blocks.F.okX sc_check_blocks (fun vs H Q E h => ?_) (fun cdv A outer s H vs Q E hr h => ?_)
  · obtain ⟨v, mv, ps, m, x1, x2, rfl, _⟩ := h
    rfl
  · obtain ⟨nv, qv, mv, names, dq, dm, rfl, hn, few, hp, hm, px, bx, eq, em, q⟩ := h
    have nd := sc_check_blocks.nd
    refine ⟨_, (pss_cons (ps_if (pt_not (pt_val (pe_call ((okG_are_procedures T).mono (by decide)) hr (by rfl) T.D_are_procedures.g T.D_are_procedures.kp T.D_are_procedures.b .nil pass0 (pa_cons (pv 1) (pa_cons (pv 0) pa_nil)))))
      (pss_one (ps_raise_InvalidProgram rfl U.X hr (takes_of rfl rfl rfl rfl) (pa_cons pe_str pa_nil)))
      pss_nil)
      (pss_one (ps_if (pt_not (pt_val (pe_call ((okG_blocks T 8).mono (by decide)) hr (by rfl) T.g_is_block T.F_is_block.kp T.b3_is_block T.v3_is_block pass0 (pa_cons (pv 2) (pa_cons (pv 0) (pa_cons (pe_lc (own := [("name", 3), ("_", 4)]) (g := (gTup K 2 (gCons (gName 3) (gCons (gName 4) gNil)))) (tt := tYes) rfl nd (pi_tup (pv 1)) (blkOk_by (N := N_check_blocks) (sc := defScope s_check_blocks) (by decide +kernel)) (fun _ _ _ _ _ => (pg_tup rfl (pgs_cons (pg_name (i := 3) nd rfl (.inl rfl)) (pgs_cons (pg_name (i := 4) nd rfl (.inl rfl)) pgs_nil)))) (fun _ _ _ _ _ => pts_nil) (fun _ _ _ _ _ => (pv 3))) pa_nil))))))
      (pss_one (ps_raise_InvalidProgram rfl U.X hr (takes_of rfl rfl rfl rfl) (pa_cons pe_str pa_nil)))
      pss_nil))), ?_⟩
    refine ⟨_, rfl, _, rfl, _, _, dq, names, rfl, hp, px, hn.tl, few, fun b H1 s1 hb => ?_⟩
    cases b with
    | false => exact ⟨_, rfl, iteT ⟨_, rfl, fun d nd' => eq (fun z => by have := hb.mpr z; cases this) H1 d s1 nd'⟩⟩
    | true =>
      obtain ⟨ps, rfl, ok⟩ := hb.mp rfl
      refine ⟨true, rfl, iteF ?_⟩
      have h6 := ok.len
      obtain ⟨a, ys, rfl, hS1, hA⟩ := gp_tup hp
      have yl : ys.length = ps.length := by rw [gpAll_len hA, List.length_map]
      refine ⟨_, rfl, _, rfl, _, rfl, a, rfl, ⟨_, Same.sqt s1 hS1⟩, fun D nD => ?_⟩
      refine lc_it (walk_tup (K := K) (a := a) (xs := ys)) (Acc H1 D fun i => (((ps.map (·.1)).map V.str)[i]?).getD .non) (Acc.start nD) (fun i H' _ h' => Same.sqt (s1.trans h'.1) hS1) ?_ ?_
      · rintro i v H3 H4 hi h' ⟨rfl, hv⟩
        obtain ⟨d', hd', hdp⟩ := gpAll_at hA hv
        rw [List.getElem?_map] at hd'
        obtain ⟨p, hp, rfl⟩ := Option.map_eq_some_iff.mp hd'
        obtain ⟨b, x, y, rfl, h1, h2, h3⟩ := gp_tup2 (hdp.same (s1.trans h'.1))
        obtain rfl := gp_str h2
        refine ⟨b, _, rfl, h1, rfl, _, _, rfl, _, _, rfl, rfl, rfl, ?_⟩
        dsimp only [tYes]
        refine iteT ⟨_, rfl, ?_⟩
        refine h'.turn nD (Same.refl _) (by omega) ?_
        rw [List.getElem?_map, List.getElem?_map, hp]
        rfl
      · rintro H3 h'
        have hD2 := acc_get h' (by rw [List.length_map, List.length_map, yl])
        have s3 := s1.trans h'.1
        refine ⟨mv, nv, .ref D, 1, dm, names, ps.map (·.1), rfl, hm.same s3, bx, ⟨hn.tl.same s3, ⟨D, rfl, .inl (SqL.of hD2)⟩, few, ok.N⟩, by decide, fun b H4 s4 hb4 => ?_⟩
        have s34 := s3.trans s4
        cases b with
        | false => exact ⟨_, rfl, iteT ⟨_, rfl, fun d nd' => em ps rfl ok (fun z => by have := hb4.mpr ⟨7, rfl, z⟩; cases this) H4 d s34 nd'⟩⟩
        | true =>
          obtain ⟨m', em', m, e, okm⟩ := hb4.mp rfl
          obtain rfl : m' = 7 := by omega
          exact ⟨true, rfl, iteF (q ps m rfl ok e okm _ s34)⟩
def spX_size (K : PySem.W.Frag) (U : Addr) : Sp := fun vs H Q E => ∃ (v : V) (ds : List PyData), vs = [v] ∧ Dp K H v (.tuple ds) ∧ tupAll ds = true ∧ (∀ d ∈ ds, Instr d) ∧ ds.length ≤ 5000 ∧ (ds.length ≤ 120 → (ds.filter isCall).length ≤ 8 → ∀ H1, Same H H1 → Q .non H1) ∧
  (¬ (ds.length ≤ 120 ∧ (ds.filter isCall).length ≤ 8) → Er U H E "size")
theorem okX_check_size (T : PgF K mg) (U : PgI K mg) : FnOk P w K mg base (L2.CX P w) 3 T.f_check_size T.fd_check_size ["code"] (spX_size K U.U) := by
  refine T.D_check_size.F.okX sc_check_size (fun vs H Q E h => ?_) (fun cdv A outer s H vs Q E hr h => ?_)
  · obtain ⟨v, ds, rfl, _⟩ := h
    rfl
  · obtain ⟨v, ds, rfl, hd, ht, hI, h5000, q, es⟩ := h
    have nd := sc_check_size.nd
    obtain ⟨a, ys, rfl, hS1, hA⟩ := dp_tup hd
    have yl := dpAll_len hA
    refine ⟨_, (pss_cons (ps_setLc (i := 1) (own := [("instruction", 2)]) (g := (gName 2)) rfl nd rfl rfl (sw_true rfl rfl rfl (by decide +kernel)) (pi_tup (pv 0)) (blkOk_by (N := N_check_size) (sc := defScope s_check_size) (by decide +kernel)) (fun _ _ _ _ _ => (pg_name (i := 2) nd rfl (.inl rfl))) (fun _ _ _ _ _ => (pts_one (pt_cmpR op_eq (pe_ix (r := rIxT K) ix_tup (pv 2) pe_int (fun _ _ => rfl)) pe_str (nomark _)))) (fun _ _ _ _ _ => (pv 2)))
      (pss_one (ps_if (PW.pt (pw_or (pt_cmpR op_gt (pe_callB call_len_seq (by rfl) T.m_len PySem.boot_len (pa_cons (pv 0) pa_nil)) (pe_glob (v := .int 120) rfl T.c_MAX_CODE ⟨_, rfl⟩) (nomark _)) (pw_or1 (pt_cmpR op_gt (pe_callB call_len_seq (by rfl) T.m_len PySem.boot_len (pa_cons (pv 1) pa_nil)) (pe_glob (v := .int 8) rfl T.c_MAX_CALLS ⟨_, rfl⟩) (nomark _)))))
      (pss_one (ps_raise_InvalidProgram rfl U.X hr (takes_of rfl rfl rfl rfl) (pa_cons pe_str pa_nil)))
      pss_nil))), ?_⟩
    refine ⟨_, rfl, a, rfl, ⟨_, hS1⟩, fun D nD => ?_⟩
    refine lc_it (walk_tup (K := K) (a := a) (xs := ys)) (fun i H' => Same H H' ∧ ∃ acc, H' D = some (.lst acc) ∧ acc.length = ((ds.take i).filter isCall).length) ⟨same_new nD, [], upd_same, rfl⟩ (fun i H' _ h' => Same.sqt h'.1 hS1) ?_ ?_
    · rintro i v H3 H4 hi ⟨s3, acc, hacc, hl⟩ ⟨rfl, hv⟩
      obtain ⟨d', hd', hdp⟩ := dpAll_at hA hv
      have hm := List.mem_of_getElem? hd'
      obtain ⟨x, r, rfl⟩ := hI _ hm
      obtain ⟨b, zs, rfl, hb, hz⟩ := dp_tup (dp_keep (Same.tk s3) hdp (tupAll_iff.mp ht _ hm))
      obtain ⟨zs, rfl⟩ : ∃ r, zs = .str x :: r := by
        cases hz with
        | cons h1 h2 =>
          obtain rfl := dp_str h1
          exact ⟨_, rfl⟩
      have htk : ds.take (i + 1) = ds.take i ++ [.tuple (.str x :: r)] := by rw [List.take_add_one, hd']; rfl
      have hle : ((ds.take i).filter isCall).length ≤ 5000 := Nat.le_trans (List.length_filter_le _ _) (by rw [List.length_take]; omega)
      refine ⟨rfl, ?_⟩
      refine ⟨_, rfl, b, _, _, _, rfl, rfl, hb, atI_nat (j := 0) rfl, rfl, _, rfl, ?_⟩
      have hw : decide (V.str x = V.str "call") = decide (x = "call") := decide_eq_decide.mpr ⟨fun z => V.str.inj z, fun z => by rw [z]⟩
      rw [htk, List.filter_append, List.length_append]
      refine ite2 (fun e => ?_) (fun e => ?_)
      · rw [hw] at e
        refine ⟨_, rfl, acc, hacc, by rw [sizeLine_eq]; omega, same_at nD s3, _, upd_same, ?_⟩
        have : ([PyData.tuple (.str x :: r)].filter isCall).length = 1 := by
          simp [List.filter, isCall, e]
        rw [this, List.length_append, hl]
        rfl
      · rw [hw] at e
        refine ⟨s3, acc, hacc, ?_⟩
        have : ([PyData.tuple (.str x :: r)].filter isCall).length = 0 := by
          simp [List.filter, isCall, e]
        rw [this, hl]
        rfl
    · rintro H3 ⟨s3, acc, hacc, hl⟩
      rw [yl, List.take_length] at hl
      refine ⟨_, rfl, a, _, rfl, .inr (Same.sqt s3 hS1), _, _, rfl, rfl, _, rfl, ?_⟩
      rw [yl]
      by_cases h120 : ds.length ≤ 120
      · rw [decide_eq_false (by omega)]
        refine iteF ?_
        refine ⟨_, rfl, D, _, rfl, .inl (SqL.of hacc), _, _, rfl, rfl, _, rfl, ?_⟩
        by_cases h8 : (ds.filter isCall).length ≤ 8
        · rw [decide_eq_false (by omega)]
          exact iteF (q h120 h8 _ s3)
        · rw [decide_eq_true (by omega)]
          exact iteT ⟨_, rfl, fun d nd' => es (fun z => h8 z.2) H3 d s3 nd'⟩
      · rw [decide_eq_true (by omega)]
        exact iteT (iteT ⟨_, rfl, fun d nd' => es (fun z => h120 z.1) H3 d s3 nd'⟩)
end
end Sp1

set_option Elab.async false
set_option linter.all false
set_option maxRecDepth 100000
set_option maxHeartbeats 1000000
namespace Pg
open PySem PySem.Spec PyProof.Rows L2
/-- what Program's parts come to -/
structure InitX (dg dv dq dm : PyData) (er : Str → Prop) (ok : Pt → Prop) : Prop where
  given : ¬ NamesP dg → er "given"
  vars : ∀ gs : List Str, dg = .tuple (gs.map sD) → Names gs → gs.Nodup → ¬ VarsP gs dv → er "variables"
  prs : ∀ gs vs : List Str, dg = .tuple (gs.map sD) → dv = .tuple (vs.map sD) → VarsOk gs vs → PrX dq ∧ BlX dm ∧ (¬ PrsP (gs ++ vs) dq → er "procedures")
  main : ∀ (gs vs : List Str) (ps : List Pr), dg = .tuple (gs.map sD) → dv = .tuple (vs.map sD) → VarsOk gs vs → dq = prsD ps → PrsV (gs ++ vs) ps → ¬ BkP (gs ++ vs) (ps.map (·.1)) 7 dm → er "main"
  done : ∀ p : Pt, dg = strsD p.given → dv = strsD p.vars → VarsOk p.given p.vars → dq = prsD p.ps → PrsV p.names p.ps → dm = bD p.m → blOk p.names (p.ps.map (·.1)) 7 p.m →
    (∀ q ∈ p.ps, blSz q.2 ≤ 600) ∧ blSz p.m ≤ 600 ∧ (p.Fine → p.Small → ok p) ∧ (p.Fine → ¬ p.Small → er "size")
end Pg
namespace Sp1
open PySem PySem.Spec PyProof.Rows L2 Pg Sp1X
section
variable {P : Program} {w : World} {K : PySem.W.Frag} {mg : Str → Option Value} {base : Heap}
def spX_init (K : PySem.W.Frag) (C U : Addr) : Sp := fun vs H Q E => ∃ (x dx : Addr) (gv vv qv mv : V) (dg dv dq dm : PyData), vs = [.ref x, gv, vv, qv, mv] ∧ H x = some (.ins C dx []) ∧ Gp K H gv dg ∧ Gp K H vv dv ∧ Gp K H qv dq ∧ Gp K H mv dm ∧ NmX dg ∧ NmX dv ∧
  InitX dg dv dq dm (fun part => ∀ (H1 : Hp) (d : Addr), (∀ b o, b ≠ x → H b = some o → H1 b = some o) → H1 d = none → E (.ref U) (some d) (upd H1 d (.xd [(("part" : Str), .str part)])))
    (fun p => ∀ H', (∀ b o, b ≠ x → H b = some o → H' b = some o) → PgAt K C H' (.ref x) p → Q .non H')
theorem okX_init (T : PgF K mg) (U : PgI K mg) (C : PgC K mg) : FnOk P w K mg base (L2.CX P w) 34 C.f_init C.fd_init ["self", "given", "variables", "procedures", "main"] (spX_init K C.C U.U) := by
  refine C.F_init.okX sc_init (fun vs H Q E h => ?_) (fun cdv A outer s H vs Q E hr h => ?_)
  · obtain ⟨x, dx, gv, vv, qv, mv, dg, dv, dq, dm, rfl, _⟩ := h
    rfl
  · obtain ⟨x, dx, gv, vv, qv, mv, dg, dv, dq, dm, rfl, hx, hg, hv, hq, hm, ng, nv, I⟩ := h
    have nd := sc_init.nd
    refine ⟨_, (pss_cons (ps_expr (pe_call ((okX_check_names T U).mono (by decide)) hr (by rfl) T.D_check_names.g T.D_check_names.kp T.D_check_names.b .nil (passes_call (takes_of rfl rfl rfl rfl) (fun _ _ _ _ h => h)) (pa_cons (pv 1) (pa_cons (pv 2) pa_nil))))
      (pss_cons (ps_expr (pe_call ((okX_check_blocks T U).mono (by decide)) hr (by rfl) T.D_check_blocks.g T.D_check_blocks.kp T.D_check_blocks.b .nil (passes_call (takes_of rfl rfl rfl rfl) (fun _ _ _ _ h => h)) (pa_cons (pe_op op_catU (pv 1) (pv 2)) (pa_cons (pv 3) (pa_cons (pv 4) pa_nil)))))
      (pss_cons (ps_asg (pe_call ((ok_program_code T).mono (by decide)) hr (by rfl) T.D_program_code.g T.D_program_code.kp T.D_program_code.b .nil pass0 (pa_cons (pv 3) (pa_cons (pv 4) pa_nil))) (pg_tup rfl (pgs_cons (pg_fld (pv 0)) (pgs_cons (pg_fld (pv 0)) pgs_nil))))
      (pss_cons (ps_expr (pe_call ((okX_check_size T U).mono (by decide)) hr (by rfl) T.D_check_size.g T.D_check_size.kp T.D_check_size.b .nil (passes_call (takes_of rfl rfl rfl rfl) (fun _ _ _ _ h => h)) (pa_cons (pe_fld (pv 0) rfl) pa_nil)))
      (pss_cons (ps_fld (pv 0) (pv 1) rfl)
      (pss_cons (ps_fld (pv 0) (pv 2) rfl)
      (pss_cons (ps_fld (pv 0) (pv 3) rfl)
      (pss_one (ps_fld (pv 0) (pv 4) rfl))))))))), ?_⟩
    have ke : ∀ {H' : Hp} {p : Str}, Same H H' → (∀ (H1 : Hp) (d : Addr), (∀ b o, b ≠ x → H b = some o → H1 b = some o) → H1 d = none → E (.ref U.U) (some d) (upd H1 d (.xd [(("part" : Str), .str p)]))) → Er U.U H' E p := fun s h H1 d s1 n => h H1 d (fun b o _ e => s1 b o (s b o e)) n
    refine ⟨_, rfl, _, rfl, gv, vv, dg, dv, rfl, hg, hv, ng, nv, fun z => ke (Same.refl _) (I.given z), fun gs e h1 h2 h3 => ke (Same.refl _) (I.vars gs e h1 h2 h3), fun gs vs e1 e2 vo H1 s1 => ?_⟩
    subst e1 e2
    obtain ⟨ga, gxs, rfl, hgS, hgA⟩ := gp_tup hg
    have hgx : gxs = gs.map V.str := dpAll_strs_inv (dpAll_of_gp hgA (tupAll_iff.mpr fun d hd => by
      obtain ⟨x, hx, rfl⟩ := List.mem_map.mp hd
      exact (vo.N x (List.mem_append_left _ hx)).tup))
    subst hgx
    obtain ⟨va, vxs, rfl, hvS, hvA⟩ := gp_tup hv
    have hvx : vxs = vs.map V.str := dpAll_strs_inv (dpAll_of_gp hvA (tupAll_iff.mpr fun d hd => by
      obtain ⟨x, hx, rfl⟩ := List.mem_map.mp hd
      exact (vo.N x (List.mem_append_right _ hx)).tup))
    subst hvx
    have l4 := vo.l4
    refine ⟨_, rfl, _, rfl, ga, va, _, _, rfl, rfl, Same.sqt s1 hgS, Same.sqt s1 hvS, by rw [List.length_map, List.length_map, sizeLine_eq]; omega, fun np H2 s2 hnp => ?_⟩
    rw [← List.map_append] at hnp
    have s12 := s1.trans s2
    obtain ⟨px, bx, ep⟩ := I.prs gs vs rfl rfl vo
    refine ⟨_, rfl, _, rfl, .ref np, qv, mv, gs ++ vs, dq, dm, rfl, ⟨np, rfl, hnp⟩, vo.few, hq.same s12, hm.same s12, px, bx, fun z => ke s12 (ep z), fun ps e h1 h2 => ke s12 (I.main gs vs ps rfl rfl vo e h1 h2), fun ps m e3 h3 e4 h4 H3 s3 => ?_⟩
    subst e3 e4
    obtain ⟨sz1, sz2, ok, es⟩ := I.done ⟨gs, vs, ps, m⟩ rfl rfl vo rfl h3 rfl h4
    have sz2 : blSz m ≤ 600 := sz2
    have f : Pt.Fine ⟨gs, vs, ps, m⟩ := ⟨vo.N, vo.nd, vo.l1, vo.l4, ⟨h3.N, h3.nd, h3.len, fun p hp => ⟨h3.bl p hp, by have := sz1 p hp; omega⟩⟩, h4, by show blSz m ≤ 1000; omega⟩
    have hp3 : PvAt K H3 (.ref ga) (.ref va) qv mv ⟨gs, vs, ps, m⟩ := by
      have s13 := s12.trans s3
      exact ⟨⟨ga, rfl, Same.sqt s13 hgS⟩, ⟨va, rfl, Same.sqt s13 hvS⟩, dp_of_gp (hq.same s13) (prsD_tup f.N f.prs), dp_of_gp (hm.same s13) (bD_tup f.N f.prs.N f.mn)⟩
    refine ⟨_, rfl, _, rfl, qv, mv, ps, m, gs ++ vs, rfl, hp3.q, hp3.m, f.N, f.prs, f.mn, f.msz, fun H4 t c d s4 nt ht hc nd4 hd => ?_⟩
    have hp4 := hp3.tk f (Same.tk s4)
    have s14 := (s12.trans s3).trans s4
    have hx4 := s14 _ _ hx
    refine ⟨t, _, rfl, ht, rfl, _, _, rfl, _, rfl, x, C.C, dx, [], rfl, hx4, C.cl, C.n_code, by decide, ?_⟩
    have z0 : ([] : List (Str × V)).length < 1 := by decide
    have z1 := putF_lt (f := "_code") (v := .ref c) z0
    have z2 := putF_lt (f := "_entries") (v := .ref d) z1
    have z3 := putF_lt (f := "_given") (v := .ref ga) z2
    have z4 := putF_lt (f := "_variables") (v := .ref va) z3
    have z5 := putF_lt (f := "_procedures") (v := qv) z4
    generalize hf1 : putF "_code" (V.ref c) [] = f1 at z1 z2 z3 z4 z5 ⊢
    refine ⟨_, _, rfl, _, rfl, x, C.C, dx, f1, rfl, upd_same, C.cl, C.n_entries, by omega, rfl, ?_⟩
    have tk5 : TK H4 (upd (upd H4 x (.ins C.C dx f1)) x (.ins C.C dx (putF "_entries" (V.ref d) f1))) := (tk_ins hx4).trans (tk_ins upd_same)
    have e5 : ∀ b o, b ≠ x → H4 b = some o → (upd (upd H4 x (.ins C.C dx f1)) x (.ins C.C dx (putF "_entries" (V.ref d) f1))) b = some o := fun b o hb e => by
      rw [upd_ne hb, upd_ne hb]
      exact e
    have hx5 : (upd (upd H4 x (.ins C.C dx f1)) x (.ins C.C dx (putF "_entries" (V.ref d) f1))) x = some (.ins C.C dx (putF "_entries" (V.ref d) f1)) := upd_same
    generalize upd (upd H4 x (.ins C.C dx f1)) x (.ins C.C dx (putF "_entries" (V.ref d) f1)) = H5 at tk5 e5 hx5 ⊢
    have lk : (putF "_entries" (V.ref d) f1).lookup ("_code" : Str) = some (.ref c) := by
      rw [lookup_putF, if_neg (by decide +kernel), ← hf1, lookup_putF, if_pos rfl]
    have hc5 : Dp K H5 (.ref c) (.tuple (Pt.code ⟨gs, vs, ps, m⟩)) := dp_keep tk5 hc (by rw [tupD_tuple]; exact code_tupD f)
    have clen : (Pt.code ⟨gs, vs, ps, m⟩).length ≤ 5000 := by
      unfold Pt.code
      rw [pgCode_len]
      have h6 := h3.len
      have : prsSz ps ≤ ps.length * (600 + 1) := prsSz_le (n := 600) fun p hp => sz1 p hp
      have h7 : ps.length * (600 + 1) ≤ 6 * (600 + 1) := Nat.mul_le_mul_right _ h6
      show blSz m + 1 + prsSz ps ≤ 5000
      omega
    refine ⟨_, rfl, x, C.C, dx, _, _, rfl, hx5, C.cl, C.n_code, lk, .ref c, _, rfl, hc5, code_tupD f, pgCode_instr _ _, clen, fun l120 l8 H6 s6 => ?_, fun hn H6 d' s6 nd' => ?_⟩
    rotate_left
    · exact es f (fun sm => hn ⟨sm.sz, sm.calls⟩) H6 d' (fun b o hb e => s6 _ _ (e5 _ _ hb (s14 _ _ e))) nd'
    have sm : Pt.Small ⟨gs, vs, ps, m⟩ := ⟨l120, l8⟩
    have q := ok f sm
    have hx6 := s6 _ _ hx5
    have hdx : d ≠ x := fun z => by rw [z, hx4] at hd; cases hd
    have hd6 := s6 _ _ (e5 _ _ hdx hd)
    have e6 : ∀ b o, b ≠ x → H b = some o → H6 b = some o := fun b o hb e => s6 _ _ (e5 _ _ hb (s14 _ _ e))
    have tk6 : TK H4 H6 := tk5.trans (Same.tk s6)
    have hc6 := dp_keep (Same.tk s6) hc5 (by rw [tupD_tuple]; exact code_tupD f)
    refine ⟨_, rfl, _, rfl, x, C.C, dx, _, rfl, hx6, C.cl, C.n_given, by omega, ?_⟩
    refine ⟨_, rfl, _, rfl, x, C.C, dx, _, rfl, upd_same, C.cl, C.n_variables, by omega, ?_⟩
    refine ⟨_, rfl, _, rfl, x, C.C, dx, _, rfl, upd_same, C.cl, C.n_procedures, by omega, ?_⟩
    refine ⟨_, rfl, _, rfl, x, C.C, dx, _, rfl, upd_same, C.cl, C.n_main, by omega, ?_⟩
    have tk7 := (((tk_ins (o := .ins C.C dx (putF "_given" (V.ref ga) (putF "_entries" (V.ref d) f1))) hx6).trans (tk_ins (o := .ins C.C dx (putF "_variables" (V.ref va) (putF "_given" (V.ref ga) (putF "_entries" (V.ref d) f1)))) upd_same)).trans
      (tk_ins (o := .ins C.C dx (putF "_procedures" qv (putF "_variables" (V.ref va) (putF "_given" (V.ref ga) (putF "_entries" (V.ref d) f1))))) upd_same)).trans (tk_ins (o := .ins C.C dx (putF "_main" mv (putF "_procedures" qv (putF "_variables" (V.ref va) (putF "_given" (V.ref ga) (putF "_entries" (V.ref d) f1)))))) upd_same)
    refine q _ (fun b o hb e => ?_) ⟨x, dx, .ref c, d, .ref ga, .ref va, qv, mv, rfl, ?_, hp4.tk f (tk6.trans tk7), dp_keep tk7 hc6 (by rw [tupD_tuple]; exact code_tupD f), ?_⟩
    · rw [upd_ne hb, upd_ne hb, upd_ne hb, upd_ne hb]
      exact e6 b o hb e
    · rw [upd_same, ← hf1]
      rfl
    · rw [upd_ne hdx, upd_ne hdx, upd_ne hdx, upd_ne hdx]
      exact hd6
end
end Sp1

set_option Elab.async false
set_option linter.all false
set_option maxRecDepth 100000
set_option maxHeartbeats 4000000
namespace Sp1
open PySem PySem.Spec PyProof.Rows L2 Pg
abbrev s_l_stream : Stmt := top 47
abbrev N_l_stream : List Str := ["_law_script", "_law_k", "_law_cell", "_law_size", "_law_mixed"]
theorem sc_l_stream : FnScope N_l_stream ["_law_script", "_law_k"] (defScope s_l_stream) := ⟨rfl, rfl, rfl, by decide +kernel, rfl, by decide +kernel, by decide +kernel⟩
abbrev s_l_draw : Stmt := top 48
abbrev N_l_draw : List Str := ["_law_stream_here", "_law_count", "_law_result"]
theorem sc_l_draw : FnScope N_l_draw ["_law_stream_here", "_law_count"] (defScope s_l_draw) := ⟨rfl, rfl, rfl, by decide +kernel, rfl, by decide +kernel, by decide +kernel⟩
abbrev s_l_choose : Stmt := top 49
abbrev N_l_choose : List Str := ["_law_stream_here", "_law_items"]
theorem sc_l_choose : FnScope N_l_choose ["_law_stream_here", "_law_items"] (defScope s_l_choose) := ⟨rfl, rfl, rfl, by decide +kernel, rfl, by decide +kernel, by decide +kernel⟩
abbrev s_l_sum : Stmt := top 50
abbrev N_l_sum : List Str := ["_law_stream_here", "_law_names", "_law_terms", "_law_name", "_law_constant", "_law_divisor", "_law_part", "_law_factor"]
theorem sc_l_sum : FnScope N_l_sum ["_law_stream_here", "_law_names"] (defScope s_l_sum) := ⟨rfl, rfl, rfl, by decide +kernel, rfl, by decide +kernel, by decide +kernel⟩
abbrev s_l_expression : Stmt := top 51
abbrev N_l_expression : List Str := ["_law_stream_here", "_law_names", "_law_word"]
theorem sc_l_expression : FnScope N_l_expression ["_law_stream_here", "_law_names"] (defScope s_l_expression) := ⟨rfl, rfl, rfl, by decide +kernel, rfl, by decide +kernel, by decide +kernel⟩
abbrev s_l_statement : Stmt := top 52
abbrev N_l_statement : List Str := ["_law_stream_here", "_law_names", "_law_called", "_law_depth", "_law_way", "_law_name", "_law_one", "_law_first", "_law_second", "_law_times"]
theorem sc_l_statement : FnScope N_l_statement ["_law_stream_here", "_law_names", "_law_called", "_law_depth"] (defScope s_l_statement) := ⟨rfl, rfl, rfl, by decide +kernel, rfl, by decide +kernel, by decide +kernel⟩
abbrev s_l_block : Stmt := top 53
abbrev N_l_block : List Str := ["_law_stream_here", "_law_names", "_law_called", "_law_depth", "_law_turn"]
theorem sc_l_block : FnScope N_l_block ["_law_stream_here", "_law_names", "_law_called", "_law_depth"] (defScope s_l_block) := ⟨rfl, rfl, rfl, by decide +kernel, rfl, by decide +kernel, by decide +kernel⟩
abbrev s_l_parts : Stmt := top 54
abbrev N_l_parts : List Str := ["_law_stream_here", "_law_names", "_law_pool", "_law_turn", "_law_cut", "_law_called", "_law_procedures", "_law_main", "_law_name"]
theorem sc_l_parts : FnScope N_l_parts ["_law_stream_here"] (defScope s_l_parts) := ⟨rfl, rfl, rfl, by decide +kernel, rfl, by decide +kernel, by decide +kernel⟩
abbrev s_l_code_of : Stmt := top 55
abbrev N_l_code_of : List Str := ["_law_block_here", "_law_start", "_law_code", "_law_statement_here", "_law_at", "_law_word", "_law_first", "_law_middle", "_law_second", "_law_behind", "_law_inner"]
theorem sc_l_code_of : FnScope N_l_code_of ["_law_block_here", "_law_start"] (defScope s_l_code_of) := ⟨rfl, rfl, rfl, by decide +kernel, rfl, by decide +kernel, by decide +kernel⟩
abbrev s_l_compiled : Stmt := top 56
abbrev N_l_compiled : List Str := ["_law_parts_here", "_law_code", "_law_starts", "_law_name", "_law_block_here"]
theorem sc_l_compiled : FnScope N_l_compiled ["_law_parts_here"] (defScope s_l_compiled) := ⟨rfl, rfl, rfl, by decide +kernel, rfl, by decide +kernel, by decide +kernel⟩
abbrev s_l_is_small : Stmt := top 57
abbrev N_l_is_small : List Str := ["_law_parts_here", "_law_code", "_law_one"]
theorem sc_l_is_small : FnScope N_l_is_small ["_law_parts_here"] (defScope s_l_is_small) := ⟨rfl, rfl, rfl, by decide +kernel, rfl, by decide +kernel, by decide +kernel⟩
abbrev s_l_drawn : Stmt := top 58
abbrev N_l_drawn : List Str := ["_law_stream_here", "_law_parts_here", "_law_turn"]
theorem sc_l_drawn : FnScope N_l_drawn ["_law_stream_here"] (defScope s_l_drawn) := ⟨rfl, rfl, rfl, by decide +kernel, rfl, by decide +kernel, by decide +kernel⟩
/-- the law's own defs that draw programs -/
structure LwF (K : PySem.W.Frag) (mg : Str → Option Value) where
  m_isinstance : mg "isinstance" = none
  m_int : mg "int" = none
  m_bool : mg "bool" = none
  m_tuple : mg "tuple" = none
  m_len : mg "len" = none
  m_all : mg "all" = none
  m_sorted : mg "sorted" = none
  m_max : mg "max" = none
  m_min : mg "min" = none
  m_range : mg "range" = none
  m_list : mg "list" = none
  m_str : mg "str" = none
  m_set : mg "set" = none
  f__law_stream : Addr
  fd__law_stream : FuncData
  D__law_stream : Dn K mg "_law_stream" s_l_stream ["_law_script", "_law_k"] f__law_stream fd__law_stream
  f__law_draw : Addr
  fd__law_draw : FuncData
  D__law_draw : Dn K mg "_law_draw" s_l_draw ["_law_stream_here", "_law_count"] f__law_draw fd__law_draw
  f__law_choose : Addr
  fd__law_choose : FuncData
  D__law_choose : Dn K mg "_law_choose" s_l_choose ["_law_stream_here", "_law_items"] f__law_choose fd__law_choose
  f__law_sum : Addr
  fd__law_sum : FuncData
  D__law_sum : Dn K mg "_law_sum" s_l_sum ["_law_stream_here", "_law_names"] f__law_sum fd__law_sum
  f__law_expression : Addr
  fd__law_expression : FuncData
  D__law_expression : Dn K mg "_law_expression" s_l_expression ["_law_stream_here", "_law_names"] f__law_expression fd__law_expression
  f__law_statement : Addr
  fd__law_statement : FuncData
  D__law_statement : Dn K mg "_law_statement" s_l_statement ["_law_stream_here", "_law_names", "_law_called", "_law_depth"] f__law_statement fd__law_statement
  f__law_block : Addr
  fd__law_block : FuncData
  D__law_block : Dn K mg "_law_block" s_l_block ["_law_stream_here", "_law_names", "_law_called", "_law_depth"] f__law_block fd__law_block
  f__law_parts : Addr
  fd__law_parts : FuncData
  D__law_parts : Dn K mg "_law_parts" s_l_parts ["_law_stream_here"] f__law_parts fd__law_parts
  f__law_code_of : Addr
  fd__law_code_of : FuncData
  D__law_code_of : Dn K mg "_law_code_of" s_l_code_of ["_law_block_here", "_law_start"] f__law_code_of fd__law_code_of
  f__law_compiled : Addr
  fd__law_compiled : FuncData
  D__law_compiled : Dn K mg "_law_compiled" s_l_compiled ["_law_parts_here"] f__law_compiled fd__law_compiled
  f__law_is_small : Addr
  fd__law_is_small : FuncData
  D__law_is_small : Dn K mg "_law_is_small" s_l_is_small ["_law_parts_here"] f__law_is_small fd__law_is_small
  f__law_drawn : Addr
  fd__law_drawn : FuncData
  D__law_drawn : Dn K mg "_law_drawn" s_l_drawn ["_law_stream_here"] f__law_drawn fd__law_drawn
section
variable {P : Program} {w : World} {K : PySem.W.Frag} {mg : Str → Option Value} {base : Heap}
def sp_stream (K : PySem.W.Frag) : Sp := fun vs H Q _ => ∃ (a : Addr) (ns : List Int) (k : Nat), vs = [.ref a, .int (k : Nat)] ∧ SqL K H a (ns.map V.int) ∧ k ≤ 1000 ∧ ∀ p H', Same H H' → H p = none → PoolAt H' p → Q (.ref p) H'
theorem ok__law_stream (T : LwF K mg) : FnOk P w K mg base CX0 1 T.f__law_stream T.fd__law_stream ["_law_script", "_law_k"] (sp_stream K) := by
  refine T.D__law_stream.F.ok sc_l_stream (fun vs H Q E h => ?_) (fun cdv A outer s H vs Q E hr h => ?_)
  · obtain ⟨a, ns, k, rfl, _⟩ := h
    rfl
  · obtain ⟨a, ns, k, rfl, hS, hk, q⟩ := h
    have nd := sc_l_stream.nd
    refine ⟨_, (pss_cons (ps_set (i := 2) nd rfl (.inl rfl) pe_int)
      (pss_cons (ps_if (pt_cmpR op_lt (pv 1) (pe_callB call_len_seq (by rfl) T.m_len PySem.boot_len (pa_cons (pv 0) pa_nil)) (nomark _))
      (pss_one (ps_set (i := 2) nd rfl (.inl rfl) (pe_ix ix_list (pv 0) (pv 1) (fun _ _ => rfl))))
      pss_nil)
      (pss_cons (ps_set (i := 3) nd rfl (.inl rfl) (pe_callB (call_max2 rfl) (by rfl) T.m_max (by decide +kernel) (pa_cons (pv 2) (pa_cons (pe_op op_sub (pe_un un_neg pe_int) (pv 2)) pa_nil))))
      (pss_cons (ps_set (i := 4) nd rfl (.inl rfl) (pe_op op_mod (pe_op op_mul (pe_op op_add (pe_op op_add (pe_op op_add (pe_op op_mod (pv 3) pe_int) (pe_op op_mul (pe_op op_mul pe_int (pv 1)) (pv 1))) (pe_op op_mul pe_int (pv 1))) pe_int) pe_int) pe_int))
      (pss_one (ps_ret (pe_lst (pa_cons (pe_op op_mul (pv 3) (pe_callTy call_int1 (by rfl) T.m_int (by decide +kernel) (pa_cons (pe_cmpR op_ge (pv 3) (pe_op op_pow pe_int pe_int) (nomark _)) pa_nil))) (pa_cons (pv 4) pa_nil))))))))), ?_⟩
    have fin : ∀ (c : Int), ∃ z : Int, (if (-1 - c) > c then (-1 - c) else c) = z ∧ 0 ≤ z := fun c => ⟨_, rfl, by split <;> omega⟩
    have kk : (k : Int) * k ≤ 1000 * 1000 := by
      have h1 : (k * k : Nat) ≤ 1000 * 1000 := Nat.mul_le_mul hk hk
      have h2 : ((k * k : Nat) : Int) ≤ ((1000 * 1000 : Nat) : Int) := Int.ofNat_le.mpr h1
      simpa using h2
    have kk0 : (0 : Int) ≤ (k : Int) * k := Int.mul_nonneg (by omega) (by omega)
    have tail : ∀ (z : Int), 0 ≤ z → ∀ p, H p = none → ∀ m : Int, 0 ≤ m → m < 2147483647 → Q (.ref p) (upd H p (.lst [.int (z * (if decide ((10 : Int) ^ (18 : Int).toNat ≤ z) = true then 1 else 0)), .int m])) := by
      intro z h0 p np m m0 m1
      refine q p _ (same_new np) np ⟨_, _, upd_same, ?_, m0, m1⟩
      split
      · omega
      · omega
    have body : ∀ c : Int, ∃ z : Int, 0 ≤ z ∧ True := fun c => ⟨0, by omega, trivial⟩
    refine ⟨_, rfl, _, rfl, a, _, rfl, .inl hS, _, _, rfl, rfl, _, rfl, ite2 (fun e => ?_) fun e => ?_⟩
    · have hlt : k < ns.length := by
        have := of_decide_eq_true e
        rw [List.length_map] at this
        omega
      refine ⟨_, rfl, _, rfl, a, _, _, _, rfl, rfl, hS, atI_nat (j := k) (by rw [List.getElem?_map, List.getElem?_eq_getElem hlt]; rfl), ?_⟩
      generalize ns[k] = c
      refine ⟨_, rfl, 1, rfl, _, rfl, _, _, rfl, rfl, ?_⟩
      refine ⟨_, _, rfl, ?_⟩
      obtain ⟨z, hz, h0⟩ := fin c
      rw [show (if -1 - c > c then -1 - c else c : Int) = z from hz]
      have b0 := Int.emod_nonneg z (show (2147483629 : Int) ≠ 0 by decide)
      have b1 := Int.emod_lt_of_pos z (show (0 : Int) < 2147483629 by decide)
      refine ⟨_, rfl, _, _, rfl, rfl, (by decide : (0 : Int) < 2147483629), _, rfl, _, _, rfl, rfl, .inl ⟨by decide, by decide⟩, _, rfl, _, _, rfl, rfl, .inr ⟨by omega, by omega⟩, _, _, rfl, rfl, _, rfl, _, _, rfl, rfl, .inl ⟨by decide, by decide⟩, _, _, rfl, rfl, _, _, rfl, rfl, _, _, rfl, rfl, .inr ⟨by decide, by decide⟩, _, _, rfl, rfl, (by decide : (0 : Int) < 2147483647), ?_⟩
      refine ⟨_, rfl, _, rfl, _, _, rfl, rfl, ⟨by decide, by decide, by decide⟩, _, _, rfl, rfl, .inr ⟨_, rfl, ?_⟩⟩
      refine ⟨_, _, rfl, rfl, .inr ?_, _, rfl, small (by show 2 ≤ 5000; decide), fun p np => tail z h0 p np _ (Int.emod_nonneg _ (by decide)) (Int.emod_lt_of_pos _ (by decide))⟩
      split <;> exact ⟨by decide, by decide⟩
    · refine ⟨_, rfl, 1, rfl, _, rfl, _, _, rfl, rfl, ?_⟩
      refine ⟨_, _, rfl, ?_⟩
      obtain ⟨z, hz, h0⟩ := fin 0
      rw [show (if -1 - 0 > 0 then -1 - 0 else 0 : Int) = z from hz]
      have b0 := Int.emod_nonneg z (show (2147483629 : Int) ≠ 0 by decide)
      have b1 := Int.emod_lt_of_pos z (show (0 : Int) < 2147483629 by decide)
      refine ⟨_, rfl, _, _, rfl, rfl, (by decide : (0 : Int) < 2147483629), _, rfl, _, _, rfl, rfl, .inl ⟨by decide, by decide⟩, _, rfl, _, _, rfl, rfl, .inr ⟨by omega, by omega⟩, _, _, rfl, rfl, _, rfl, _, _, rfl, rfl, .inl ⟨by decide, by decide⟩, _, _, rfl, rfl, _, _, rfl, rfl, _, _, rfl, rfl, .inr ⟨by decide, by decide⟩, _, _, rfl, rfl, (by decide : (0 : Int) < 2147483647), ?_⟩
      refine ⟨_, rfl, _, rfl, _, _, rfl, rfl, ⟨by decide, by decide, by decide⟩, _, _, rfl, rfl, .inr ⟨_, rfl, ?_⟩⟩
      refine ⟨_, _, rfl, rfl, .inr ?_, _, rfl, small (by show 2 ≤ 5000; decide), fun p np => tail z h0 p np _ (Int.emod_nonneg _ (by decide)) (Int.emod_lt_of_pos _ (by decide))⟩
      split <;> exact ⟨by decide, by decide⟩
def sp_draw : Sp := fun vs H Q _ => ∃ (p : Addr) (c : Int), vs = [.ref p, .int c] ∧ PoolAt H p ∧ 0 < c ∧ c < 2 ^ 100 ∧ ∀ r H', 0 ≤ r → r < c → SX p H H' → PoolAt H' p → Q (.int r) H'
theorem ok__law_draw (T : LwF K mg) : FnOk P w K mg base CX0 1 T.f__law_draw T.fd__law_draw ["_law_stream_here", "_law_count"] sp_draw := by
  refine T.D__law_draw.F.ok sc_l_draw (fun vs H Q E h => ?_) (fun cdv A outer s H vs Q E hr h => ?_)
  · obtain ⟨p, c, rfl, _⟩ := h
    rfl
  · obtain ⟨p, c, rfl, ⟨a, b, hp, ha, hb0, hb1⟩, hc, hc2, q⟩ := h
    have nd := sc_l_draw.nd
    have cdiv : ∀ i, CDivW i c := fun i => wide_div (b := 100) hc (by omega) (by decide) (by decide)
    have ix0 : ∀ {x y : V}, atI [x, y] 0 = some x := fun {x y} => atI_nat (j := 0) rfl
    have ix1 : ∀ {x y : V}, atI [x, y] 1 = some y := fun {x y} => atI_nat (j := 1) rfl
    refine ⟨_, (pss_cons (ps_if (pt_cmpR op_gt (pe_ix ix_list (pv 0) pe_int (fun _ _ => rfl)) pe_int (nomark _))
      (pss_cons (ps_set (i := 2) nd rfl (.inl rfl) (pe_op op_mod (pe_ix ix_list (pv 0) pe_int (fun _ _ => rfl)) (pv 1)))
        (pss_cons (ps_asg (pe_op op_fdivW (pe_ix ix_list (pv 0) pe_int (fun _ _ => rfl)) (pv 1)) (pg_sub (pv 0) pe_int set_list))
        (pss_one (ps_ret (pv 2)))))
      pss_nil)
      (pss_cons (ps_asg (pe_op op_mod (pe_op op_add (pe_op op_mul (pe_ix ix_list (pv 0) pe_int (fun _ _ => rfl)) pe_int) pe_int) pe_int) (pg_sub (pv 0) pe_int set_list))
      (pss_one (ps_ret (pe_op op_mod (pe_op op_fdiv (pe_op op_mod (pe_op op_mul (pe_ix ix_list (pv 0) pe_int (fun _ _ => rfl)) (pe_ix ix_list (pv 0) pe_int (fun _ _ => rfl))) pe_int) pe_int) (pv 1)))))), ?_⟩
    refine ⟨_, rfl, p, _, _, _, rfl, rfl, SqL.of hp, ix0, _, _, rfl, rfl, _, rfl, ite2 (fun e => ?_) fun e => ?_⟩
    · have e0 : 0 < a := of_decide_eq_true e
      refine ⟨_, rfl, p, _, _, _, rfl, rfl, SqL.of hp, ix0, _, rfl, _, _, rfl, rfl, hc, ?_⟩
      refine ⟨_, rfl, p, _, _, _, rfl, rfl, SqL.of hp, ix0, _, rfl, _, _, rfl, rfl, cdiv _, ?_⟩
      refine ⟨_, rfl, p, _, _, 0, rfl, rfl, hp, rfl, ?_⟩
      refine ⟨_, rfl, q _ _ (Int.emod_nonneg _ (by omega)) (Int.emod_lt_of_pos _ hc) sx_put ⟨a / c, b, upd_same, Int.ediv_nonneg ha (by omega), hb0, hb1⟩⟩
    · refine ⟨_, rfl, p, _, _, _, rfl, rfl, SqL.of hp, ix1, _, _, rfl, rfl, .inl ⟨by omega, by omega⟩, _, _, rfl, rfl, _, _, rfl, rfl, (by decide : (0 : Int) < 2147483647), ?_⟩
      refine ⟨_, rfl, p, _, _, 1, rfl, rfl, hp, rfl, ?_⟩
      have h1 : (upd H p (.lst [.int a, .int ((b * 69621 + 7) % 2147483647)])) p = some (.lst [.int a, .int ((b * 69621 + 7) % 2147483647)]) := upd_same
      have c0 := Int.emod_nonneg (b * 69621 + 7) (show (2147483647 : Int) ≠ 0 by decide)
      have c1 := Int.emod_lt_of_pos (b * 69621 + 7) (show (0 : Int) < 2147483647 by decide)
      refine ⟨_, rfl, p, _, _, _, rfl, rfl, SqL.of h1, ix1, _, rfl, p, _, _, _, rfl, rfl, SqL.of h1, ix1, _, _, rfl, rfl, .inl ⟨by omega, by omega⟩, _, _, rfl, rfl, (by decide : (0 : Int) < 2147483629), _, _, rfl, rfl, ⟨by decide, by decide⟩, _, rfl, _, _, rfl, rfl, hc, ?_⟩
      exact q _ _ (Int.emod_nonneg _ (by omega)) (Int.emod_lt_of_pos _ hc) sx_put ⟨a, _, h1, ha, c0, c1⟩
/-- one of a list's items -/
def sp_choose : Sp := fun vs H Q _ => ∃ (p g : Addr) (xs : List V), vs = [.ref p, .ref g] ∧ PoolAt H p ∧ g ≠ p ∧ H g = some (.lst xs) ∧ 0 < xs.length ∧ xs.length ≤ 1000 ∧ ∀ v H', v ∈ xs → SX p H H' → PoolAt H' p → Q v H'
theorem ok__law_choose (T : LwF K mg) : FnOk P w K mg base CX0 2 T.f__law_choose T.fd__law_choose ["_law_stream_here", "_law_items"] sp_choose := by
  refine T.D__law_choose.F.ok sc_l_choose (fun vs H Q E h => ?_) (fun cdv A outer s H vs Q E hr h => ?_)
  · obtain ⟨p, g, xs, rfl, _⟩ := h
    rfl
  · obtain ⟨p, g, xs, rfl, hp, hgp, hg, h0, h1, q⟩ := h
    have nd := sc_l_choose.nd
    refine ⟨_, (pss_one (ps_ret (pe_ix ix_list (pv 1) (pe_call ((ok__law_draw T).mono (by decide)) hr (by rfl) T.D__law_draw.g T.D__law_draw.kp T.D__law_draw.b .nil pass0 (pa_cons (pv 0) (pa_cons (pe_callB call_len_seq (by rfl) T.m_len PySem.boot_len (pa_cons (pv 1) pa_nil)) pa_nil))) (fun _ _ => rfl)))), ?_⟩
    refine ⟨_, rfl, _, rfl, _, rfl, g, _, rfl, .inl (SqL.of hg), p, _, rfl, hp, by omega, by omega, fun r H' r0 r1 sx hp' => ?_⟩
    obtain ⟨i, rfl⟩ : ∃ i : Nat, r = (i : Int) := ⟨r.toNat, by omega⟩
    have hi : i < xs.length := by omega
    exact ⟨g, _, _, _, rfl, rfl, SqL.of (sx _ _ hgp hg), atI_nat (List.getElem?_eq_getElem hi), q _ _ (List.getElem_mem hi) sx hp'⟩
end
end Sp1

set_option Elab.async false
set_option linter.all false
set_option maxRecDepth 100000
set_option maxHeartbeats 4000000
namespace Pg
open PySem PySem.Spec PyProof.Rows
set_option exponentiation.threshold 400 in
theorem great_big : (10 : Int) ^ 20 < great := by
  unfold great
  decide +kernel
theorem sorted_asc {ys : List Str} (hn : ys.Nodup) (s : sortedS ys = true) : ys.Pairwise sLt := by
  have hy : ys.Pairwise (fun a b => ¬ sLt b a) := by
    cases ys with
    | nil => exact List.Pairwise.nil
    | cons y r => exact rising_pw y r s
  refine (hy.and hn).imp fun {a b} h => ?_
  by_cases hab : sLt a b
  · exact hab
  · exact absurd (sLt_tri hab h.1) h.2
theorem fold_dvd : ∀ (l : List Int) (a : Nat), (l.foldl (fun (a : Nat) x => Nat.gcd a x.natAbs) a ∣ a) ∧ ∀ x ∈ l, l.foldl (fun (a : Nat) x => Nat.gcd a x.natAbs) a ∣ x.natAbs
  | [], a => ⟨Nat.dvd_refl _, fun x hx => by cases hx⟩
  | y :: r, a => by
    obtain ⟨h1, h2⟩ := fold_dvd r (Nat.gcd a y.natAbs)
    refine ⟨Nat.dvd_trans h1 (Nat.gcd_dvd_left _ _), fun x hx => ?_⟩
    rcases List.mem_cons.mp hx with rfl | hx
    · exact Nat.dvd_trans h1 (Nat.gcd_dvd_right _ _)
    · exact h2 x hx
/-- lowest terms: the divisor is one; or two, and some part is odd -/
theorem gcd_low {c d : Int} {fs : List Int} (h : d = 1 ∨ (d = 2 ∧ ∃ x ∈ c :: fs, x % 2 ≠ 0)) : fs.foldl (fun (a : Nat) x => Nat.gcd a x.natAbs) (Nat.gcd (Nat.gcd 0 c.natAbs) d.natAbs) = 1 := by
  obtain ⟨h1, h2⟩ := fold_dvd fs (Nat.gcd (Nat.gcd 0 c.natAbs) d.natAbs)
  have hd := Nat.dvd_trans h1 (Nat.gcd_dvd_right _ _)
  have hc : _ ∣ c.natAbs := Nat.dvd_trans h1 (Nat.dvd_trans (Nat.gcd_dvd_left _ _) (Nat.gcd_dvd_right _ _))
  generalize fs.foldl (fun (a : Nat) x => Nat.gcd a x.natAbs) (Nat.gcd (Nat.gcd 0 c.natAbs) d.natAbs) = g at h2 hd hc
  rcases h with rfl | ⟨rfl, x, hx, ho⟩
  · exact Nat.dvd_one.mp hd
  · have hg : g ∣ x.natAbs := by
      rcases List.mem_cons.mp hx with rfl | hx
      · exact hc
      · exact h2 x hx
    have h2' : g ∣ 2 := hd
    have hle : g ≤ 2 := Nat.le_of_dvd (by decide) h2'
    have : g = 1 ∨ g = 2 ∨ g = 0 := by omega
    rcases this with h | h | h
    · exact h
    · exfalso
      rw [h] at hg
      omega
    · rw [h] at h2'
      exact absurd h2' (by decide)
end Pg
namespace Sp1
open PySem PySem.Spec PyProof.Rows L2 Pg
theorem eqv_nilL : ∀ ds : List PyData, PyData.eqv (.list ds) (.list []) = ds.isEmpty
  | [] => by simp [PyData.eqv, PyData.eqvAll]
  | x :: r => by simp [PyData.eqv, PyData.eqvAll]
theorem SX.tk' {p : Addr} {H H' : Hp} (s : SX p H H') (h : PoolAt H p) : TK H H' := by
  obtain ⟨xs, h⟩ := h.lst
  exact ⟨fun b ys e => s b _ (ne_of e h (by intro z; cases z)) e, fun b o u e => s b _ (ne_of e h (by intro z; cases z)) e⟩
section
variable {P : Program} {w : World} {K : PySem.W.Frag} {mg : Str → Option Value} {base : Heap}
/-- names, a list of the law's -/
structure NmL (H : Hp) (g : Addr) (names : List Str) : Prop where
  at_ : H g = some (.lst (names.map V.str))
  N : Names names
  nd : names.Nodup
  l1 : 1 ≤ names.length
  l4 : names.length ≤ 4
/-- names, a list or a tuple -/
structure NmE (K : PySem.W.Frag) (H : Hp) (g : Addr) (names : List Str) : Prop where
  at_ : SqL K H g (names.map V.str) ∨ SqT K H g (names.map V.str)
  N : Names names
  nd : names.Nodup
  l1 : 1 ≤ names.length
  l4 : names.length ≤ 4
theorem NmL.e {H : Hp} {g : Addr} {names : List Str} (h : NmL H g names) : NmE K H g names := ⟨.inl (SqL.of h.at_), h.N, h.nd, h.l1, h.l4⟩
theorem NmE.same {H H' : Hp} {g : Addr} {names : List Str} (h : NmE K H g names) (s : Same H H') : NmE K H' g names := ⟨h.at_.imp (fun h => s.seq h) fun h => Same.sqt s h, h.N, h.nd, h.l1, h.l4⟩
/-- not the pool's: or a tuple that no heap changes -/
def ApN (K : PySem.W.Frag) (g p : Addr) (names : List Str) : Prop := g ≠ p ∨ ∀ H', SqT K H' g (names.map V.str)
theorem NmE.sx {p g : Addr} {H H' : Hp} {names : List Str} (h : NmE K H g names) (hp : PoolAt H p) (n : ApN K g p names) (s : SX p H H') : NmE K H' g names := by
  rcases n with n | n
  rotate_left
  · exact ⟨.inr (n H'), h.N, h.nd, h.l1, h.l4⟩
  refine ⟨h.at_.imp (fun h => ?_) (fun h => (s.tk' hp).sqt h), h.N, h.nd, h.l1, h.l4⟩
  rcases h with (h | ⟨o, h⟩) | h
  · exact .inl (.inl (s _ _ n h))
  · exact .inl (.inr ⟨o, s _ _ n h⟩)
  · exact .inr h
theorem use_choose {H : Hp} {p l : Addr} {xs : List V} {Q : VK} {E : XK} (hp : PoolAt H p) (nl : H l = none) (h0 : 0 < xs.length) (h1 : xs.length ≤ 1000) (q : ∀ v H', v ∈ xs → SX p H H' → PoolAt H' p → Q v H') : sp_choose [.ref p, .ref l] (upd H l (.lst xs)) Q E :=
  ⟨p, l, xs, rfl, hp.new nl, (hp.ne nl).symm, upd_same, h0, h1, fun v H' hv sx hp' => q v H' hv ((Same.sx (same_new nl)).trans sx) hp'⟩
def sp_lsum (K : PySem.W.Frag) : Sp := fun vs H Q _ => ∃ (p g : Addr) (names : List Str), vs = [.ref p, .ref g] ∧ PoolAt H p ∧ ApN K g p names ∧ NmE K H g names ∧ ∀ (v : V) (H' : Hp) (s : Sm), SX p H H' → PoolAt H' p → Dp K H' v s.D → s.Ok names → Q v H'
theorem ok__law_sum (T : LwF K mg) : FnOk P w K mg base CX0 3 T.f__law_sum T.fd__law_sum ["_law_stream_here", "_law_names"] (sp_lsum K) := by
  refine T.D__law_sum.F.ok sc_l_sum (fun vs H Q E h => ?_) (fun cdv A outer s H vs Q E hr h => ?_)
  · obtain ⟨p, g, xs, rfl, _⟩ := h
    rfl
  · obtain ⟨p, g, names, rfl, hp, hgp, hg, q⟩ := h
    have nd := sc_l_sum.nd
    have l4 := hg.l4
    refine ⟨_, (pss_cons (ps_set (i := 2) nd rfl (.inl rfl) (pe_lst pa_nil))
      (pss_cons (ps_for PassesOwn.never rfl (pi_list (pe_callB cr_sortedST (by rfl) T.m_sorted (by decide +kernel) (pa_cons (pv 1) pa_nil))) (pg_name (i := 3) nd rfl (.inl rfl))
      (pss_one (ps_if (pt_cmpR op_lt (pe_call ((ok__law_draw T).mono (by decide)) hr (by rfl) T.D__law_draw.g T.D__law_draw.kp T.D__law_draw.b .nil pass0 (pa_cons (pv 0) (pa_cons pe_int pa_nil))) pe_int (nomark _))
        (pss_one (ps_expr (pe_bm PySem.F.plainAttrs_list PySem.F.slot_list_append PySem.F.type_list_append mt_append (pv 2) (pa_cons (pe_tup (pa_cons (pe_call ((ok__law_choose T).mono (by decide)) hr (by rfl) T.D__law_choose.g T.D__law_choose.kp T.D__law_choose.b .nil pass0 (pa_cons (pv 0) (pa_cons (pe_lst (pa_cons pe_int (pa_cons pe_int (pa_cons (pe_un un_neg pe_int) (pa_cons pe_int (pa_cons (pe_un un_neg pe_int) pa_nil)))))) pa_nil))) (pa_cons (pv 3) pa_nil))) pa_nil))))
        pss_nil)))
      (pss_cons (ps_set (i := 4) nd rfl (.inl rfl) (pe_call ((ok__law_choose T).mono (by decide)) hr (by rfl) T.D__law_choose.g T.D__law_choose.kp T.D__law_choose.b .nil pass0 (pa_cons (pv 0) (pa_cons (pe_lst (pa_cons pe_int (pa_cons pe_int (pa_cons pe_int (pa_cons (pe_un un_neg pe_int) (pa_cons pe_int (pa_cons (pe_op op_pow pe_int pe_int) pa_nil))))))) pa_nil))))
      (pss_cons (ps_set (i := 5) nd rfl (.inr rfl) (pe_call ((ok__law_choose T).mono (by decide)) hr (by rfl) T.D__law_choose.g T.D__law_choose.kp T.D__law_choose.b .nil pass0 (pa_cons (pv 0) (pa_cons (pe_lst (pa_cons pe_int (pa_cons pe_int (pa_cons pe_int (pa_cons pe_int (pa_cons pe_int (pa_cons pe_int pa_nil))))))) pa_nil))))
      (pss_cons (ps_if (pt_cmpR (op_eqD hr.units) (pe_lc (own := [("_law_part", 6)]) (g := (gName 6)) rfl nd (pi_list (pe_op op_cat (pe_lst (pa_cons (pv 4) pa_nil)) (pe_lc (own := [("_law_factor", 7), ("_law_name", 3)]) (g := (gTup K 2 (gCons (gName 7) (gCons (gName 3) gNil)))) (tt := tYes) rfl nd (pi_list (pv 2)) (blkOk_by (N := N_l_sum) (sc := defScope s_l_sum) (by decide +kernel)) (fun _ _ _ _ _ => (pg_tup rfl (pgs_cons (pg_name (i := 7) nd rfl (.inl rfl)) (pgs_cons (pg_name (i := 3) nd rfl (.inl rfl)) pgs_nil)))) (fun _ _ _ _ _ => pts_nil) (fun _ _ _ _ _ => (pv 7))))) (blkOk_by (N := N_l_sum) (sc := defScope s_l_sum) (by decide +kernel)) (fun _ _ _ _ _ => (pg_name (i := 6) nd rfl (.inl rfl))) (fun _ _ _ _ _ => (pts_one (pt_cmpR op_ne (pe_op op_mod (pv 6) (pv 5)) pe_int (nomark _)))) (fun _ _ _ _ _ => (pv 6))) (pe_lst pa_nil) (nomark _))
      (pss_one (ps_set (i := 5) nd rfl (.inr rfl) pe_int))
      pss_nil)
      (pss_one (ps_ret (pe_tup (pa_cons pe_str (pa_cons (pv 4) (pa_cons (pe_callTy call_tuple_of (by rfl) T.m_tuple (by decide +kernel) (pa_cons (pv 2) pa_nil)) (pa_cons (pv 5) pa_nil)))))))))))), ?_⟩
    refine ⟨small (by decide), fun tl ntl => ?_⟩
    have hp1 := hp.new (o := .lst []) ntl
    have hpt := hp.ne ntl
    have s0 : Same H (upd H tl (.lst [])) := same_new ntl
    have hg0 := hg.at_.imp (fun h => s0.seq h) (fun h => Same.sqt s0 h)
    have ht0 : (upd H tl (.lst [])) tl = some (.lst []) := upd_same
    generalize upd H tl (.lst []) = H1 at s0 hp1 hg0 ht0 ⊢
    refine ⟨_, rfl, g, names, rfl, hg0, by omega, fun ys sl hperm hsort nsl => ?_⟩
    have hys : ys.Nodup := hperm.nodup_iff.mpr hg.nd
    have hasc := sorted_asc hys hsort
    have s1 := s0.trans (same_new (o := .lst (ys.map V.str)) nsl)
    have hp2 := hp1.new (o := .lst (ys.map V.str)) nsl
    have ht2 := same_new (o := .lst (ys.map V.str)) nsl _ _ ht0
    have hsl : (upd H1 sl (.lst (ys.map V.str))) sl = some (.lst (ys.map V.str)) := upd_same
    have hslp : sl ≠ p := (hp1.ne nsl).symm
    have hslt : sl ≠ tl := (ne_of_none ht0 nsl).symm
    generalize upd H1 sl (.lst (ys.map V.str)) = H2 at s1 hp2 ht2 hsl ⊢
    refine ⟨sl, rfl, ⟨_, SqL.of hsl⟩, for_list (K := K) (a := sl) (xs := ys.map V.str)
      (fun i σ H' => SX p H H' ∧ PoolAt H' p ∧ H' sl = some (.lst (ys.map V.str)) ∧ ∃ vs ts y, σ = [some (.ref p), some (.ref g), some (.ref tl), y, none, none, none, none] ∧ H' tl = some (.lst vs) ∧ DpAll K H' vs (ts.map tD) ∧ (∀ t ∈ ts, t.1 ∈ [(1 : Int), -1, 2, -3]) ∧ (ts.map (·.2)).Sublist (ys.take i))
      ⟨Same.sx s1, hp2, hsl, [], [], none, rfl, ht2, .nil, (fun t ht => by cases ht), List.Sublist.refl _⟩ (fun i σ H' _ h => SqL.of h.2.2.1) ?_ ?_⟩
    · rintro i x σ H3 hx ⟨sx3, hp3, hsl3, vs, ts, y, rfl, ht3, hvs, hts, hsub⟩
      rw [List.getElem?_map] at hx
      obtain ⟨z, hz, rfl⟩ := Option.map_eq_some_iff.mp hx
      have htk : ys.take (i + 1) = ys.take i ++ [z] := by rw [List.take_add_one, hz]; rfl
      have tslen : ts.length ≤ 4 := by
        have h1 := hsub.length_le
        rw [List.length_map, List.length_take, hperm.length_eq] at h1
        omega
      have tt : ∀ t ∈ ts, tupD (tD t) = true := fun t ht => by
        have h1 : t.2 ∈ ys := List.mem_of_mem_take (hsub.subset (List.mem_map.mpr ⟨t, ht, rfl⟩))
        exact tD_tup (hg.N _ (hperm.mem_iff.mp h1)).tup
      have tta : tupAll (ts.map tD) = true := tupAll_iff.mpr fun d hd => by
        obtain ⟨t, ht, rfl⟩ := List.mem_map.mp hd
        exact tt t ht
      refine ⟨_, rfl, p, 5, rfl, hp3, by decide, by decide, fun r H4 r0 r1 sx4 hp4 => ?_⟩
      refine ⟨_, _, rfl, rfl, _, rfl, ite2 (fun e => ?_) (fun e => ?_)⟩
      · have ht4 := sx4 _ _ hpt.symm ht3
        refine ⟨_, rfl, .inl ⟨rfl, _, SqL.of ht4⟩, _, rfl, 1, rfl, 3, rfl, small (by show 5 ≤ 5000; decide), fun l nl => ?_⟩
        have s5 : Same H4 (upd H4 l (.lst [.int 1, .int 1, .int (-1), .int 2, .int (-3)])) := same_new nl
        have hp5 := hp4.new (o := .lst [.int 1, .int 1, .int (-1), .int 2, .int (-3)]) nl
        have hl5 : (upd H4 l (.lst [.int 1, .int 1, .int (-1), .int 2, .int (-3)])) l = some (.lst [.int 1, .int 1, .int (-1), .int 2, .int (-3)]) := upd_same
        have hlp := (hp4.ne nl).symm
        generalize upd H4 l (.lst [.int 1, .int 1, .int (-1), .int 2, .int (-3)]) = H5 at s5 hp5 hl5 ⊢
        refine ⟨p, l, _, rfl, hp5, hlp, hl5, by decide, by decide, fun v H6 hv sx6 hp6 => ?_⟩
        obtain ⟨f, hf, rfl⟩ : ∃ f : Int, f ∈ [(1 : Int), -1, 2, -3] ∧ v = .int f := by
          simp only [List.mem_cons, List.not_mem_nil, or_false] at hv
          rcases hv with rfl | rfl | rfl | rfl | rfl
          · exact ⟨1, by decide, rfl⟩
          · exact ⟨1, by decide, rfl⟩
          · exact ⟨-1, by decide, rfl⟩
          · exact ⟨2, by decide, rfl⟩
          · exact ⟨-3, by decide, rfl⟩
        refine ⟨_, rfl, small (by show 2 ≤ 5000; decide), fun tp ntp => ?_⟩
        have ht6 := sx6 _ _ hpt.symm (s5 _ _ ht4)
        have s7 : Same H6 (upd H6 tp (.tup [.int f, .str z])) := same_new ntp
        have ht7 := s7 _ _ ht6
        have hp7 := hp6.new (o := .tup [.int f, .str z]) ntp
        have htp : SqT K (upd H6 tp (.tup [.int f, .str z])) tp [.int f, .str z] := SqT.of upd_same
        generalize upd H6 tp (.tup [.int f, .str z]) = H7 at s7 ht7 hp7 htp ⊢
        have vl := dpAll_len hvs
        refine ⟨tl, vs, _, rfl, rfl, ht7, by rw [vl, List.length_map, sizeLine_eq]; omega, ?_⟩
        have sx7 : SX p H H7 := ((sx3.trans sx4).trans (Same.sx s5)).trans (sx6.trans (Same.sx s7))
        have tk : TK H3 H7 := (sx4.tk' hp3).trans ((Same.tk s5).trans ((sx6.tk' hp5).trans (Same.tk s7)))
        have tk8 : TK H7 (upd H7 tl (.lst (vs ++ [.ref tp]))) := tk_lst ht7
        refine ⟨sx7.new ntl, hp7.put hpt, ?_, _, ts ++ [(f, z)], some (.str z), rfl, upd_same, ?_, ?_, ?_⟩
        · rw [upd_ne hslt]
          exact s7 _ _ (sx6 _ _ hslp (s5 _ _ (sx4 _ _ hslp hsl3)))
        · rw [List.map_append]
          exact dpAll_snoc (dpAll_keep (tk.trans tk8) hvs tta) (dp_t2 (tk8.sqt htp) (.int f) (.str z))
        · intro t ht
          rcases List.mem_append.mp ht with ht | ht
          · exact hts t ht
          · rw [List.mem_singleton.mp ht]
            exact hf
        · rw [List.map_append, htk]
          exact hsub.append (List.Sublist.refl _)
      · refine ⟨sx3.trans sx4, hp4, sx4 _ _ hslp hsl3, vs, ts, some (.str z), rfl, sx4 _ _ hpt.symm ht3, dpAll_keep (sx4.tk' hp3) hvs tta, hts, ?_⟩
        rw [htk]
        exact hsub.trans (List.sublist_append_left _ _)
    · rintro σ H3 ⟨sx3, hp3, hsl3, vs, ts, y, rfl, ht3, hvs, hts, hsub⟩
      rw [List.length_map, List.take_length] at hsub
      have tslen : ts.length ≤ 4 := by
        have h1 := hsub.length_le
        rw [List.length_map, hperm.length_eq] at h1
        omega
      have tmem : ∀ t ∈ ts, t.2 ∈ names := fun t ht => hperm.mem_iff.mp (hsub.subset (List.mem_map.mpr ⟨t, ht, rfl⟩))
      have tt : ∀ t ∈ ts, tupD (tD t) = true := fun t ht => tD_tup (hg.N _ (tmem t ht)).tup
      have tta : tupAll (ts.map tD) = true := tupAll_iff.mpr fun d hd => by
        obtain ⟨t, ht, rfl⟩ := List.mem_map.mp hd
        exact tt t ht
      have vl := dpAll_len hvs
      rw [List.length_map] at vl
      refine ⟨_, rfl, 1, rfl, _, _, rfl, rfl, ⟨by decide, by decide, by decide⟩, small (by show 6 ≤ 5000; decide), fun l nl => ?_⟩
      refine use_choose (E := E0) hp3 nl (by decide) (by decide) fun v H4 hv sx4 hp4 => ?_
      obtain ⟨c, hcb, hcb2, rfl⟩ : ∃ c : Int, -(10 ^ 20) ≤ c ∧ c ≤ 10 ^ 20 ∧ v = .int c := by
        simp only [List.mem_cons, List.not_mem_nil, or_false] at hv
        rcases hv with rfl | rfl | rfl | rfl | rfl | rfl
        · exact ⟨0, by decide, by decide, rfl⟩
        · exact ⟨0, by decide, by decide, rfl⟩
        · exact ⟨1, by decide, by decide, rfl⟩
        · exact ⟨-1, by decide, by decide, rfl⟩
        · exact ⟨5, by decide, by decide, rfl⟩
        · exact ⟨10 ^ 20, by decide, by decide, rfl⟩
      have ht4 := sx4 _ _ hpt.symm ht3
      have hvs4 := dpAll_keep (sx4.tk' hp3) hvs tta
      refine ⟨_, rfl, small (by show 6 ≤ 5000; decide), fun l2 nl2 => ?_⟩
      refine use_choose (E := E0) hp4 nl2 (by decide) (by decide) fun v H5 hv sx5 hp5 => ?_
      obtain ⟨d, hd, rfl⟩ : ∃ d : Int, (d = 1 ∨ d = 2) ∧ v = .int d := by
        simp only [List.mem_cons, List.not_mem_nil, or_false] at hv
        rcases hv with rfl | rfl | rfl | rfl | rfl | rfl
        · exact ⟨1, .inl rfl, rfl⟩
        · exact ⟨1, .inl rfl, rfl⟩
        · exact ⟨1, .inl rfl, rfl⟩
        · exact ⟨1, .inl rfl, rfl⟩
        · exact ⟨1, .inl rfl, rfl⟩
        · exact ⟨2, .inr rfl, rfl⟩
      have ht5 := sx5 _ _ hpt.symm ht4
      have hvs5 := dpAll_keep (sx5.tk' hp4) hvs4 tta
      have sx05 := (sx3.trans sx4).trans sx5
      have d0 : 0 < d := by omega
      -- the end
      have fin : ∀ (e : Int) (H6 : Hp), (e = 1 ∨ (e = 2 ∧ ∃ x ∈ c :: ts.map (·.1), x % 2 ≠ 0)) → Same H5 H6 → ∀ t, H6 t = none → ∀ r, (upd H6 t (.tup vs)) r = none → Q (.ref r) (upd (upd H6 t (.tup vs)) r (.tup [.str "sum", .int c, .ref t, .int e])) := by
        intro e H6 he s6 t nt r nr
        have s7 := s6.trans (same_new (o := .tup vs) nt)
        have s8 := same_new (o := .tup [.str "sum", .int c, .ref t, .int e]) nr
        have hl : SqT K (upd (upd H6 t (.tup vs)) r (.tup [.str "sum", .int c, .ref t, .int e])) t vs := Same.sqt s8 (SqT.of upd_same)
        have hr : SqT K (upd (upd H6 t (.tup vs)) r (.tup [.str "sum", .int c, .ref t, .int e])) r [.str "sum", .int c, .ref t, .int e] := SqT.of upd_same
        refine q _ _ ⟨c, ts, e⟩ (sx05.trans (Same.sx (s7.trans s8))) (hp5.same (s7.trans s8)) (.tup hr (.cons (.str _) (.cons (.int c) (.cons (.tup hl (dpAll_keep (Same.tk (s7.trans s8)) hvs5 tta)) (.cons (.int e) .nil))))) ?_
        refine ⟨fun t ht => ⟨fun z => ?_, tmem t ht⟩, hasc.sublist hsub, by show 1 ≤ e; rcases he with h | h <;> omega, by show ts.length ≤ 60; omega, gcd_low he, fun x hx => ?_⟩
        · have := hts t ht
          rw [z] at this
          revert this
          decide
        · have b2 := great_big
          rcases List.mem_cons.mp hx with hx | hx
          · rw [hx]
            exact ⟨by show -great < c; omega, by show c < great; omega⟩
          · rcases List.mem_cons.mp hx with hx | hx
            · rw [hx]
              show -great < e ∧ e < great
              omega
            · obtain ⟨t, ht, rfl⟩ := List.mem_map.mp hx
              have h1 := hts t ht
              simp only [List.mem_cons, List.not_mem_nil, or_false] at h1
              omega
      refine ⟨_, rfl, small (by show 1 ≤ 5000; decide), fun l3 nl3 => ?_⟩
      have s6 : Same H5 (upd H5 l3 (.lst [.int c])) := same_new nl3
      have h36 : (upd H5 l3 (.lst [.int c])) l3 = some (.lst [.int c]) := upd_same
      generalize upd H5 l3 (.lst [.int c]) = H6 at s6 h36 ⊢
      refine ⟨_, rfl, tl, rfl, ⟨_, SqL.of (s6 _ _ ht5)⟩, fun D nD => ?_⟩
      refine lc_it (walk_list (K := K) (a := tl) (xs := vs)) (Acc H6 D fun i => (((ts.map (·.1)).map V.int)[i]?).getD .non) (Acc.start nD) (fun i H' _ h' => SqL.of (h'.1 _ _ (s6 _ _ ht5))) ?_ ?_
      · rintro i v H7 H8 hi h' ⟨rfl, hv⟩
        obtain ⟨d', hd', hdp⟩ := dpAll_at hvs5 hv
        rw [List.getElem?_map] at hd'
        obtain ⟨t, ht', rfl⟩ := Option.map_eq_some_iff.mp hd'
        obtain ⟨pa, rfl, hpa⟩ := dp_tD (dp_keep (Same.tk (s6.trans h'.1)) hdp (tt t (List.mem_of_getElem? ht')))
        refine ⟨pa, _, rfl, hpa, rfl, _, _, rfl, _, _, rfl, rfl, rfl, ?_⟩
        dsimp only [tYes]
        refine iteT ⟨_, rfl, ?_⟩
        refine h'.turn nD (Same.refl _) (by omega) ?_
        rw [List.getElem?_map, List.getElem?_map, ht']
        rfl
      · rintro H7 h'
        have hD := acc_get h' (by rw [List.length_map, List.length_map, vl])
        have s7 := s6.trans h'.1
        refine ⟨l3, D, _, _, rfl, rfl, h'.1 _ _ h36, hD, by rw [List.length_map, List.length_map, sizeLine_eq]; show 1 + _ ≤ _; omega, fun l4 nl4 => ?_⟩
        have s8 := s7.trans (same_new (o := .lst ([.int c] ++ (ts.map (·.1)).map V.int)) nl4)
        have h48 : (upd H7 l4 (.lst ([.int c] ++ (ts.map (·.1)).map V.int))) l4 = some (.lst ((c :: ts.map (·.1)).map V.int)) := upd_same
        generalize upd H7 l4 (.lst ([.int c] ++ (ts.map (·.1)).map V.int)) = H8 at s8 h48 ⊢
        refine ⟨l4, rfl, ⟨_, SqL.of h48⟩, fun D2 nD2 => ?_⟩
        generalize hu : c :: ts.map (·.1) = u at h48 fin
        have ul : u.length ≤ 5 := by rw [← hu, List.length_cons, List.length_map]; omega
        refine lc_it (walk_list (K := K) (a := l4) (xs := u.map V.int)) (fun i H' => Same H8 H' ∧ H' D2 = some (.lst (((u.take i).filter fun x => decide (x % d ≠ 0)).map V.int))) ⟨same_new nD2, upd_same⟩ (fun i H' _ h' => SqL.of (h'.1 _ _ h48)) ?_ ?_
        · rintro i v H9 H10 hi ⟨s9, h9⟩ ⟨rfl, hv⟩
          obtain ⟨hi', rfl⟩ := int_of hv
          have htk : u.take (i + 1) = u.take i ++ [u[i]] := by rw [List.take_add_one, List.getElem?_eq_getElem hi']; rfl
          have hfl : ((u.take i).filter fun x => decide (x % d ≠ 0)).length ≤ 5 := Nat.le_trans (List.length_filter_le _ _) (by rw [List.length_take]; omega)
          refine ⟨rfl, ?_⟩
          refine ⟨_, rfl, _, rfl, _, _, rfl, rfl, d0, rfl, _, rfl, ?_⟩
          rw [htk, List.filter_append]
          refine ite2 (fun e => ?_) (fun e => ?_)
          · have e2 : ¬ u[i] % d = 0 := by
              rw [Bool.not_eq_true', decide_eq_false_iff_not] at e
              exact fun z => e (show V.int (u[i] % d) = V.int 0 by rw [z])
            refine ⟨_, rfl, _, h9, by rw [List.length_map, sizeLine_eq]; omega, same_at nD2 s9, ?_⟩
            rw [upd_same, List.map_append]
            have : [u[i]].filter (fun x => decide (x % d ≠ 0)) = [u[i]] := by simp [List.filter, e2]
            rw [this]
            rfl
          · have e2 : u[i] % d = 0 := by
              rw [Bool.not_eq_true', decide_eq_false_iff_not, Classical.not_not] at e
              exact V.int.inj e
            refine ⟨s9, ?_⟩
            have : [u[i]].filter (fun x => decide (x % d ≠ 0)) = [] := by simp [List.filter, e2]
            rw [this, List.append_nil]
            exact h9
        · rintro H9 ⟨s9, h9⟩
          rw [List.length_map, List.take_length] at h9
          refine ⟨Nat.zero_le _, fun l5 nl5 => ?_⟩
          have s10 := (s8.trans s9).trans (same_new (o := .lst []) nl5)
          have h10 := same_new (o := .lst []) nl5 _ _ h9
          have h510 : (upd H9 l5 (.lst [])) l5 = some (.lst []) := upd_same
          generalize upd H9 l5 (.lst []) = H10 at s10 h10 h510 ⊢
          refine ⟨_, .list [], .lst (SqL.of h10) (dp_ints _), .lst (SqL.of h510) .nil, shaped_i _, by decide +kernel, _, rfl, ?_⟩
          rw [eqv_nilL]
          have hT10 := s10 _ _ ht5
          refine ite2 (fun e => ?_) (fun e => ?_)
          · refine ⟨_, rfl, _, rfl, tl, _, rfl, .inl ⟨SqL.of hT10, fun t nt => ?_⟩⟩
            exact ⟨_, rfl, small (by show 4 ≤ 5000; decide), fin 1 H10 (.inl rfl) s10 t nt⟩
          · refine ⟨_, rfl, _, rfl, tl, _, rfl, .inl ⟨SqL.of hT10, fun t nt => ?_⟩⟩
            refine ⟨_, rfl, small (by show 4 ≤ 5000; decide), fin d H10 ?_ s10 t nt⟩
            rw [List.isEmpty_iff, List.map_eq_nil_iff, List.filter_eq_nil_iff] at e
            rcases hd with rfl | rfl
            · exact .inl rfl
            · refine .inr ⟨rfl, Classical.byContradiction fun z => e fun x hx hxx => z ⟨x, hx, ?_⟩⟩
              exact of_decide_eq_true hxx
end
end Sp1

set_option Elab.async false
set_option linter.all false
set_option maxRecDepth 100000
set_option maxHeartbeats 4000000
namespace Sp1
open PySem PySem.Spec PyProof.Rows L2 Pg
theorem ifJ {tt : TT} {tb te : TS} {D : Ends} {σ : L2.St} {H : Hp} (C : Bool → Hp → Prop) (h1 : ∀ Q : Bool → Hp → Prop, (∀ b H', C b H' → Q b H') → tt σ H Q) (h2 : ∀ H', C true H' → tb D σ H') (h3 : ∀ H', C false H' → te D σ H') : tIfS tt tb te D σ H := by
  refine h1 _ fun b H' c => ?_
  cases b with
  | true => exact iteT (h2 H' c)
  | false => exact iteF (h3 H' c)
theorem seqJ {tt : TT} {tb te u : TS} {D : Ends} {σ : L2.St} {H : Hp} (C : Bool → Hp → Prop) (h1 : ∀ Q : Bool → Hp → Prop, (∀ b H', C b H' → Q b H') → tt σ H Q) (h2 : ∀ H', C true H' → tb { D with nx := u D } σ H') (h3 : ∀ H', C false H' → te { D with nx := u D } σ H') : tSeq (tIfS tt tb te) u D σ H := ifJ C h1 h2 h3
theorem seqN {tt : TT} {tb u : TS} {D : Ends} {σ : L2.St} {H : Hp} (C : Bool → Hp → Prop) (h1 : ∀ Q : Bool → Hp → Prop, (∀ b H', C b H' → Q b H') → tt σ H Q) (h2 : ∀ H', C true H' → tb { D with nx := u D } σ H') (h3 : ∀ H', C false H' → u D σ H') : tSeq (tIfS tt tb tNext) u D σ H := ifJ C h1 h2 h3
theorem tNextI {D : Ends} {σ : L2.St} {H : Hp} (h : D.nx σ H) : tNext D σ H := h
theorem gNameI {i : Nat} {v : V} {σ : L2.St} {H : Hp} {Q : L2.St → Hp → Prop} (h : Q (σ.set i (some v)) H) : gName i v σ H Q := h
theorem NmL.sx {p g : Addr} {H H' : Hp} {names : List Str} (h : NmL H g names) (n : g ≠ p) (s : SX p H H') : NmL H' g names := ⟨s _ _ n h.at_, h.N, h.nd, h.l1, h.l4⟩
section
variable {P : Program} {w : World} {K : PySem.W.Frag} {mg : Str → Option Value} {base : Heap}
def sp_lexpr (K : PySem.W.Frag) : Sp := fun vs H Q _ => ∃ (p g : Addr) (names : List Str), vs = [.ref p, .ref g] ∧ PoolAt H p ∧ ApN K g p names ∧ NmE K H g names ∧ ∀ (v : V) (H' : Hp) (e : Ex), SX p H H' → PoolAt H' p → Dp K H' v e.D → e.Ok names → Q v H'
theorem ok__law_expression (T : LwF K mg) : FnOk P w K mg base CX0 4 T.f__law_expression T.fd__law_expression ["_law_stream_here", "_law_names"] (sp_lexpr K) := by
  refine T.D__law_expression.F.ok sc_l_expression (fun vs H Q E h => ?_) (fun cdv A outer s H vs Q E hr h => ?_)
  · obtain ⟨p, g, xs, rfl, _⟩ := h
    rfl
  · obtain ⟨p, g, names, rfl, hp, hgp, hg, q⟩ := h
    have nd := sc_l_expression.nd
    refine ⟨_, (pss_cons (ps_set (i := 2) nd rfl (.inl rfl) (pe_call ((ok__law_choose T).mono (by decide)) hr (by rfl) T.D__law_choose.g T.D__law_choose.kp T.D__law_choose.b .nil pass0 (pa_cons (pv 0) (pa_cons (pe_lst (pa_cons pe_str (pa_cons pe_str (pa_cons pe_str (pa_cons pe_str (pa_cons pe_str (pa_cons pe_str (pa_cons pe_str (pa_cons pe_str (pa_cons pe_str (pa_cons pe_str pa_nil))))))))))) pa_nil))))
      (pss_cons (ps_if (pt_cmpR op_eq (pv 2) pe_str (nomark _))
      (pss_one (ps_ret (pe_call ((ok__law_sum T).mono (by decide)) hr (by rfl) T.D__law_sum.g T.D__law_sum.kp T.D__law_sum.b .nil pass0 (pa_cons (pv 0) (pa_cons (pv 1) pa_nil)))))
      pss_nil)
      (pss_cons (ps_if (pt_cmpR op_eq (pv 2) pe_str (nomark _))
      (pss_one (ps_ret (pe_tup (pa_cons pe_str pa_nil))))
      pss_nil)
      (pss_one (ps_ret (pe_tup (pa_cons (pv 2) (pa_cons (pe_call ((ok__law_sum T).mono (by decide)) hr (by rfl) T.D__law_sum.g T.D__law_sum.kp T.D__law_sum.b .nil pass0 (pa_cons (pv 0) (pa_cons (pv 1) pa_nil))) (pa_cons (pe_call ((ok__law_sum T).mono (by decide)) hr (by rfl) T.D__law_sum.g T.D__law_sum.kp T.D__law_sum.b .nil pass0 (pa_cons (pv 0) (pa_cons (pv 1) pa_nil))) pa_nil))))))))), ?_⟩
    refine ⟨_, rfl, small (by show 10 ≤ 5000; decide), fun l nl => ?_⟩
    refine use_choose (E := E0) hp nl (by decide) (by decide) fun v H1 hv sx1 hp1 => ?_
    obtain ⟨x, hx, rfl⟩ : ∃ x : Str, (x = "sum" ∨ x = "read" ∨ x ∈ pairWords) ∧ v = .str x := by
      simp only [List.mem_cons, List.not_mem_nil, or_false] at hv
      rcases hv with rfl | rfl | rfl | rfl | rfl | rfl | rfl | rfl | rfl | rfl
      · exact ⟨"sum", .inl rfl, rfl⟩
      · exact ⟨"sum", .inl rfl, rfl⟩
      · exact ⟨"sum", .inl rfl, rfl⟩
      · exact ⟨"sum", .inl rfl, rfl⟩
      · exact ⟨"read", .inr (.inl rfl), rfl⟩
      · exact ⟨"product", .inr (.inr (by decide +kernel)), rfl⟩
      · exact ⟨"quotient", .inr (.inr (by decide +kernel)), rfl⟩
      · exact ⟨"remainder", .inr (.inr (by decide +kernel)), rfl⟩
      · exact ⟨"less", .inr (.inr (by decide +kernel)), rfl⟩
      · exact ⟨"same", .inr (.inr (by decide +kernel)), rfl⟩
    have hg1 := hg.sx hp hgp sx1
    rcases hx with rfl | rfl | hx
    · refine ⟨_, rfl, rfl, _, rfl, iteT ?_⟩
      exact ⟨_, rfl, _, rfl, p, g, names, rfl, hp1, hgp, hg1, fun v H2 s sx2 hp2 hd ok => q v H2 (.sum s) (sx1.trans sx2) hp2 hd ok⟩
    · refine ⟨_, rfl, rfl, _, rfl, iteF ⟨_, rfl, rfl, _, rfl, iteT ?_⟩⟩
      refine ⟨small (by show 1 ≤ 5000; decide), fun t nt => ?_⟩
      exact q _ _ .read (sx1.trans (Same.sx (same_new nt))) (hp1.new nt) (.tup (SqT.of upd_same) (.cons (.str _) .nil)) trivial
    · have n1 : ¬ V.str x = V.str "sum" := fun z => by
        rw [V.str.inj z] at hx
        exact absurd hx (by decide +kernel)
      have n2 : ¬ V.str x = V.str "read" := fun z => by
        rw [V.str.inj z] at hx
        exact absurd hx (by decide +kernel)
      refine ⟨_, rfl, rfl, _, rfl, ?_⟩
      rw [decide_eq_false n1]
      refine iteF ⟨_, rfl, rfl, _, rfl, ?_⟩
      rw [decide_eq_false n2]
      refine iteF ?_
      refine ⟨_, rfl, _, rfl, _, rfl, p, g, names, rfl, hp1, hgp, hg1, fun v1 H2 s1 sx2 hp2 hd1 ok1 => ?_⟩
      refine ⟨_, rfl, _, rfl, p, g, names, rfl, hp2, hgp, hg1.sx hp1 hgp sx2, fun v2 H3 s2 sx3 hp3 hd2 ok2 => ?_⟩
      refine ⟨small (by show 3 ≤ 5000; decide), fun t nt => ?_⟩
      have s4 := same_new (o := .tup [.str x, v1, v2]) nt
      exact q _ _ (.two x s1 s2) (((sx1.trans sx2).trans sx3).trans (Same.sx s4)) (hp3.new nt) (dp_t3 (SqT.of upd_same) (.str x) (dp_keep ((sx3.tk' hp2).trans (Same.tk s4)) hd1 (Sm.tup hg.N ok1)) (dp_keep (Same.tk s4) hd2 (Sm.tup hg.N ok2))) ⟨hx, ok1, ok2⟩
end
end Sp1

set_option Elab.async false
set_option linter.all false
set_option maxRecDepth 100000
set_option maxHeartbeats 8000000
namespace Pg
open PySem
def szB : Nat → Nat
  | 0 => 1
  | n + 1 => 3 + 6 * szB n
theorem szB_pos : ∀ n, 1 ≤ szB n
  | 0 => Nat.le_refl _
  | n + 1 => by simp only [szB]; omega
theorem mod_ne {a k m : Int} (h0 : 0 ≤ a) (h1 : a < m) (k1 : 1 ≤ k) (k2 : k < m) (h4 : m ≤ 4) : (a + k) % m ≠ a ∧ 0 ≤ (a + k) % m ∧ (a + k) % m < m := by
  have : m = 2 ∨ m = 3 ∨ m = 4 := by omega
  rcases this with rfl | rfl | rfl <;> omega
end Pg
namespace Sp1
open PySem PySem.Spec PyProof.Rows L2 Pg
/-- what the draws of blocks work on: the stream, the names, the procedures to be called -/
structure DrW (H : Hp) (p g c : Addr) (names called : List Str) : Prop where
  pp : PoolAt H p
  gp : g ≠ p
  gg : NmL H g names
  cp : c ≠ p
  cc : H c = some (.lst (called.map V.str))
  CN : Names called
  l2 : called.length ≤ 2
theorem DrW.sx {H H' : Hp} {p g c : Addr} {names called : List Str} (h : DrW H p g c names called) (s : SX p H H') (hp : PoolAt H' p) : DrW H' p g c names called := ⟨hp, h.gp, h.gg.sx h.gp s, h.cp, s _ _ h.cp h.cc, h.CN, h.l2⟩
theorem DrW.same {H H' : Hp} {p g c : Addr} {names called : List Str} (h : DrW H p g c names called) (s : Same H H') : DrW H' p g c names called := h.sx (Same.sx s) (h.pp.same s)
theorem DrW.new {H : Hp} {p g c q : Addr} {o : HO} {names called : List Str} (h : DrW H p g c names called) (n : H q = none) : DrW (upd H q o) p g c names called := h.same (same_new n)
section
variable {P : Program} {w : World} {K : PySem.W.Frag} {mg : Str → Option Value} {base : Heap}
def sp_lstat (K : PySem.W.Frag) (n : Nat) : Sp := fun vs H Q _ => ∃ (p g c : Addr) (d : Int) (names called : List Str), vs = [.ref p, .ref g, .ref c, .int d] ∧ d + n = 3 ∧ DrW H p g c names called ∧ ∀ (v : V) (H' : Hp) (s : Pg.St), SX p H H' → PoolAt H' p → Dp K H' v s.D → St.Ok names called n s → s.sz ≤ szB n → Q v H'
def sp_lblk (K : PySem.W.Frag) : Nat → Sp
  | 0 => fun _ _ _ _ => False
  | n + 1 => fun vs H Q _ => ∃ (p g c : Addr) (d : Int) (names called : List Str), vs = [.ref p, .ref g, .ref c, .int d] ∧ d + n = 3 ∧ DrW H p g c names called ∧ ∀ (v : V) (H' : Hp) (b : List Pg.St), SX p H H' → PoolAt H' p → Dp K H' v (bD b) → blOk names called n b → blSz b ≤ 3 * szB n → Q v H'
theorem ok__law_statement (T : LwF K mg) {n : Nat} (hB : FnOk P w K mg base CX0 (2 * n + 5) T.f__law_block T.fd__law_block ["_law_stream_here", "_law_names", "_law_called", "_law_depth"] (sp_lblk K n)) :
    FnOk P w K mg base CX0 (2 * n + 6) T.f__law_statement T.fd__law_statement ["_law_stream_here", "_law_names", "_law_called", "_law_depth"] (sp_lstat K n) := by
  refine T.D__law_statement.F.ok sc_l_statement (fun vs H Q E h => ?_) (fun cdv A outer s H vs Q E hr h => ?_)
  · obtain ⟨p, g, c, d, names, called, rfl, _⟩ := h
    rfl
  · obtain ⟨p, g, c, d, names, called, rfl, hdn, hw, q⟩ := h
    have nd := sc_l_statement.nd
    have n4 := hw.gg.l4
    have n1 := hw.gg.l1
    have hz := szB_pos n
    refine ⟨_, (pss_cons (ps_set (i := 4) nd rfl (.inl rfl) (pe_call ((ok__law_draw T).mono (by omega)) hr (by rfl) T.D__law_draw.g T.D__law_draw.kp T.D__law_draw.b .nil pass0 (pa_cons (pv 0) (pa_cons pe_int pa_nil))))
      (pss_cons (ps_if (PW.pt (pw_or (pt_cmpR op_lt (pv 4) pe_int (nomark _)) (pw_or1 (PW.pt (pw_and (pt_cmpR op_eq (pv 4) pe_int (nomark _)) (pw_and1 (pt_cmpR (op_eqD hr.units) (pv 2) (pe_lst pa_nil) (nomark _))))))))
      (pss_cons (ps_set (i := 5) nd rfl (.inl rfl) (pe_call ((ok__law_choose T).mono (by omega)) hr (by rfl) T.D__law_choose.g T.D__law_choose.kp T.D__law_choose.b .nil pass0 (pa_cons (pv 0) (pa_cons (pv 1) pa_nil))))
        (pss_cons (ps_if (pt_cmpR op_eq (pe_call ((ok__law_draw T).mono (by omega)) hr (by rfl) T.D__law_draw.g T.D__law_draw.kp T.D__law_draw.b .nil pass0 (pa_cons (pv 0) (pa_cons pe_int pa_nil))) pe_int (nomark _))
        (pss_one (ps_ret (pe_tup (pa_cons pe_str (pa_cons (pv 5) (pa_cons (pe_tup (pa_cons pe_str (pa_cons (pe_op op_sub (pe_call ((ok__law_draw T).mono (by omega)) hr (by rfl) T.D__law_draw.g T.D__law_draw.kp T.D__law_draw.b .nil pass0 (pa_cons (pv 0) (pa_cons pe_int pa_nil))) pe_int) (pa_cons (pe_tup (pa_cons (pe_tup (pa_cons (pe_call ((ok__law_choose T).mono (by omega)) hr (by rfl) T.D__law_choose.g T.D__law_choose.kp T.D__law_choose.b .nil pass0 (pa_cons (pv 0) (pa_cons (pe_lst (pa_cons pe_int (pa_cons (pe_un un_neg pe_int) pa_nil))) pa_nil))) (pa_cons (pv 5) pa_nil))) pa_nil)) (pa_cons pe_int pa_nil))))) pa_nil))))))
        pss_nil)
        (pss_one (ps_ret (pe_tup (pa_cons pe_str (pa_cons (pv 5) (pa_cons (pe_call ((ok__law_expression T).mono (by omega)) hr (by rfl) T.D__law_expression.g T.D__law_expression.kp T.D__law_expression.b .nil pass0 (pa_cons (pv 0) (pa_cons (pv 1) pa_nil))) pa_nil))))))))
      pss_nil)
      (pss_cons (ps_if (PW.pt (pw_and (pt_cmpR op_eq (pv 4) pe_int (nomark _)) (pw_and1 (pt_cmpR op_gt (pe_callB call_len_seq (by rfl) T.m_len PySem.boot_len (pa_cons (pv 1) pa_nil)) pe_int (nomark _)))))
      (pss_cons (ps_set (i := 6) nd rfl (.inl rfl) (pe_call ((ok__law_draw T).mono (by omega)) hr (by rfl) T.D__law_draw.g T.D__law_draw.kp T.D__law_draw.b .nil pass0 (pa_cons (pv 0) (pa_cons (pe_callB call_len_seq (by rfl) T.m_len PySem.boot_len (pa_cons (pv 1) pa_nil)) pa_nil))))
        (pss_one (ps_ret (pe_tup (pa_cons pe_str (pa_cons (pe_ix ix_list (pv 1) (pv 6) (fun _ _ => rfl)) (pa_cons (pe_ix ix_list (pv 1) (pe_op op_mod (pe_op op_add (pe_op op_add (pv 6) pe_int) (pe_call ((ok__law_draw T).mono (by omega)) hr (by rfl) T.D__law_draw.g T.D__law_draw.kp T.D__law_draw.b .nil pass0 (pa_cons (pv 0) (pa_cons (pe_op op_sub (pe_callB call_len_seq (by rfl) T.m_len PySem.boot_len (pa_cons (pv 1) pa_nil)) pe_int) pa_nil)))) (pe_callB call_len_seq (by rfl) T.m_len PySem.boot_len (pa_cons (pv 1) pa_nil))) (fun _ _ => rfl)) pa_nil)))))))
      pss_nil)
      (pss_cons (ps_if (pt_cmpR op_eq (pv 4) pe_int (nomark _))
      (pss_one (ps_ret (pe_tup (pa_cons pe_str (pa_cons (pe_call ((ok__law_choose T).mono (by omega)) hr (by rfl) T.D__law_choose.g T.D__law_choose.kp T.D__law_choose.b .nil pass0 (pa_cons (pv 0) (pa_cons (pv 2) pa_nil))) pa_nil)))))
      pss_nil)
      (pss_cons (ps_if (PW.pt (pw_or (pt_cmpR op_lt (pv 4) pe_int (nomark _)) (pw_or1 (pt_cmpR op_gt (pv 3) pe_int (nomark _)))))
      (pss_one (ps_ret (pe_tup (pa_cons pe_str (pa_cons (pe_call ((ok__law_expression T).mono (by omega)) hr (by rfl) T.D__law_expression.g T.D__law_expression.kp T.D__law_expression.b .nil pass0 (pa_cons (pv 0) (pa_cons (pv 1) pa_nil))) pa_nil)))))
      pss_nil)
      (pss_cons (ps_if (PW.pt (pw_or (pt_cmpR op_eq (pv 4) pe_int (nomark _)) (pw_or1 (pt_cmpR op_eq (pv 4) pe_int (nomark _)))))
      (pss_cons (ps_par (i := 7) (j := 8) rfl nd rfl rfl (by decide) rfl rfl (pa_cons (pe_call (hB.mono (by omega)) hr (by rfl) T.D__law_block.g T.D__law_block.kp T.D__law_block.b .nil pass0 (pa_cons (pv 0) (pa_cons (pv 1) (pa_cons (pv 2) (pa_cons (pe_op op_add (pv 3) pe_int) pa_nil))))) (pa_cons (pe_call (hB.mono (by omega)) hr (by rfl) T.D__law_block.g T.D__law_block.kp T.D__law_block.b .nil pass0 (pa_cons (pv 0) (pa_cons (pv 1) (pa_cons (pv 2) (pa_cons (pe_op op_add (pv 3) pe_int) pa_nil))))) pa_nil)) rfl)
        (pss_one (ps_ret (pe_tup (pa_cons pe_str (pa_cons (pe_call ((ok__law_expression T).mono (by omega)) hr (by rfl) T.D__law_expression.g T.D__law_expression.kp T.D__law_expression.b .nil pass0 (pa_cons (pv 0) (pa_cons (pv 1) pa_nil))) (pa_cons (pv 7) (pa_cons (pv 8) pa_nil))))))))
      pss_nil)
      (pss_cons (ps_if (pt_cmpR op_eq (pv 4) pe_int (nomark _))
      (pss_one (ps_ret (pe_tup (pa_cons pe_str (pa_cons (pe_tup (pa_cons pe_str (pa_cons (pe_call ((ok__law_sum T).mono (by omega)) hr (by rfl) T.D__law_sum.g T.D__law_sum.kp T.D__law_sum.b .nil pass0 (pa_cons (pv 0) (pa_cons (pv 1) pa_nil))) (pa_cons (pe_call ((ok__law_sum T).mono (by omega)) hr (by rfl) T.D__law_sum.g T.D__law_sum.kp T.D__law_sum.b .nil pass0 (pa_cons (pv 0) (pa_cons (pv 1) pa_nil))) pa_nil)))) (pa_cons (pe_call (hB.mono (by omega)) hr (by rfl) T.D__law_block.g T.D__law_block.kp T.D__law_block.b .nil pass0 (pa_cons (pv 0) (pa_cons (pv 1) (pa_cons (pv 2) (pa_cons (pe_op op_add (pv 3) pe_int) pa_nil))))) pa_nil))))))
      pss_nil)
      (pss_cons (ps_set (i := 9) nd rfl (.inl rfl) (pe_call ((ok__law_choose T).mono (by omega)) hr (by rfl) T.D__law_choose.g T.D__law_choose.kp T.D__law_choose.b .nil pass0 (pa_cons (pv 0) (pa_cons (pe_lst (pa_cons (pe_tup (pa_cons pe_str (pa_cons (pe_call ((ok__law_draw T).mono (by omega)) hr (by rfl) T.D__law_draw.g T.D__law_draw.kp T.D__law_draw.b .nil pass0 (pa_cons (pv 0) (pa_cons pe_int pa_nil))) (pa_cons (pe_tup pa_nil) (pa_cons pe_int pa_nil))))) (pa_cons (pe_call ((ok__law_expression T).mono (by omega)) hr (by rfl) T.D__law_expression.g T.D__law_expression.kp T.D__law_expression.b .nil pass0 (pa_cons (pv 0) (pa_cons (pv 1) pa_nil))) pa_nil))) pa_nil))))
      (pss_one (ps_ret (pe_tup (pa_cons pe_str (pa_cons (pv 9) (pa_cons (pe_call (hB.mono (by omega)) hr (by rfl) T.D__law_block.g T.D__law_block.kp T.D__law_block.b .nil pass0 (pa_cons (pv 0) (pa_cons (pv 1) (pa_cons (pv 2) (pa_cons (pe_op op_add (pv 3) pe_int) pa_nil))))) pa_nil)))))))))))))), ?_⟩
    refine ⟨_, rfl, p, 12, rfl, hw.pp, by decide, by decide, fun r H1 r0 r1 sx1 hp1 => ?_⟩
    have hw1 := hw.sx sx1 hp1
    have shc : SeqAt.shaped (.list (called.map sD)) = true := shaped_strs fun x hx => (hw.CN x hx).tup
    refine gNameI ?_
    dsimp only
    refine seqN (fun b H' => b = decide (r < 5 ∨ (r = 11 ∧ called = [])) ∧ Same H1 H') (fun Q q => ?_) (fun H2 hh => ?_) (fun H2 hh => ?_)
    · refine ⟨_, rfl, _, _, rfl, rfl, _, rfl, ite2 (fun e => ?_) (fun e => ?_)⟩
      · have e := of_decide_eq_true e
        exact q _ _ ⟨(decide_eq_true (.inl e)).symm, Same.refl _⟩
      · have e : ¬ r < 5 := fun z => e (decide_eq_true z)
        refine ⟨_, rfl, rfl, _, rfl, ite2 (fun e2 => ?_) (fun e2 => ?_)⟩
        · have e2 : r = 11 := V.int.inj (of_decide_eq_true e2)
          refine ⟨_, rfl, Nat.zero_le _, fun l nl => ?_⟩
          have s2 := same_new (o := .lst []) nl
          refine ⟨_, .list [], .lst (SqL.of (s2 _ _ hw1.cc)) (dpAll_strs called), .lst (SqL.of upd_same) .nil, shc, by decide +kernel, _, rfl, ?_⟩
          refine q _ _ ⟨?_, s2⟩
          rw [eqv_nilL]
          cases called with
          | nil => exact (decide_eq_true (.inr ⟨e2, rfl⟩)).symm
          | cons x y => exact (decide_eq_false (fun z => by rcases z with z | z; exact e z; exact absurd z.2 (by simp))).symm
        · have e2 : ¬ r = 11 := fun z => e2 (decide_eq_true (by rw [z]))
          exact q _ _ ⟨(decide_eq_false (fun z => by rcases z with z | z; exact e z; exact e2 z.1)).symm, Same.refl _⟩
    · obtain ⟨_, s2⟩ := hh
      have hw2 := hw1.same s2
      have sx2 := sx1.trans (Same.sx s2)
      refine ⟨_, rfl, _, rfl, p, g, _, rfl, hw2.pp, hw2.gp, hw2.gg.at_, by rw [List.length_map]; omega, by rw [List.length_map]; omega, fun v H3 hv sx3 hp3 => ?_⟩
      obtain ⟨x, hx, rfl⟩ := List.mem_map.mp hv
      have hw3 := hw2.sx sx3 hp3
      refine ⟨_, rfl, p, 2, rfl, hp3, by decide, by decide, fun r2 H4 _ _ sx4 hp4 => ⟨rfl, _, rfl, ite2 (fun e => ?_) (fun e => ?_)⟩⟩
      · refine ⟨_, rfl, _, rfl, p, 4, rfl, hp4, by decide, by decide, fun r3 H5 a0 a1 sx5 hp5 => ⟨_, _, rfl, rfl, ?_⟩⟩
        refine ⟨_, rfl, 1, rfl, small (by show 2 ≤ 5000; decide), fun l nl => use_choose (E := E0) hp5 nl (by decide) (by decide) fun v H6 hv sx6 hp6 => ?_⟩
        obtain ⟨f, hf, rfl⟩ : ∃ f : Int, (f = 1 ∨ f = -1) ∧ v = .int f := by
          simp only [List.mem_cons, List.not_mem_nil, or_false] at hv
          rcases hv with rfl | rfl
          · exact ⟨1, .inl rfl, rfl⟩
          · exact ⟨-1, .inr rfl, rfl⟩
        refine ⟨_, rfl, small (by show 2 ≤ 5000; decide), fun t1 nt1 => ?_⟩
        have s7 := same_new (o := .tup [.int f, .str x]) nt1
        have h71 : SqT K (upd H6 t1 (.tup [.int f, .str x])) t1 [.int f, .str x] := SqT.of upd_same
        generalize upd H6 t1 (.tup [.int f, .str x]) = H7 at s7 h71 ⊢
        refine ⟨small (by show 1 ≤ 5000; decide), fun t2 nt2 => ?_⟩
        have s8 := same_new (o := .tup [.ref t1]) nt2
        have h82 : SqT K (upd H7 t2 (.tup [.ref t1])) t2 [.ref t1] := SqT.of upd_same
        generalize upd H7 t2 (.tup [.ref t1]) = H8 at s8 h82 ⊢
        refine ⟨small (by show 4 ≤ 5000; decide), fun t3 nt3 => ?_⟩
        have s9 := same_new (o := .tup [.str "sum", .int (r3 - 1), .ref t2, .int 1]) nt3
        have h93 : SqT K (upd H8 t3 (.tup [.str "sum", .int (r3 - 1), .ref t2, .int 1])) t3 [.str "sum", .int (r3 - 1), .ref t2, .int 1] := SqT.of upd_same
        generalize upd H8 t3 (.tup [.str "sum", .int (r3 - 1), .ref t2, .int 1]) = H9 at s9 h93 ⊢
        refine ⟨small (by show 3 ≤ 5000; decide), fun t4 nt4 => ?_⟩
        have s10 := same_new (o := .tup [.str "set", .str x, .ref t3]) nt4
        have s7_ := ((s7.trans s8).trans s9).trans s10
        have ok : Sm.Ok names ⟨r3 - 1, [(f, x)], 1⟩ := by
          refine ⟨fun t ht => ?_, List.pairwise_singleton _ _, by show (1 : Int) ≤ 1; decide, by show 1 ≤ 60; decide, gcd_low (.inl rfl), fun y hy => ?_⟩
          · rw [List.mem_singleton.mp ht]
            exact ⟨by show f ≠ 0; omega, hx⟩
          · have big := great_big
            simp only [List.map_cons, List.map_nil, List.mem_cons, List.not_mem_nil, or_false] at hy
            omega
        refine q _ _ (.set x (.sum ⟨r3 - 1, [(f, x)], 1⟩)) ((((sx2.trans sx3).trans sx4).trans (sx5.trans sx6)).trans (Same.sx s7_)) (hp6.same s7_) ?_ ⟨hx, ok⟩ hz
        exact dp_t3 (SqT.of upd_same) (.str _) (.str x) (.tup (Same.sqt s10 h93) (.cons (.str _) (.cons (.int (r3 - 1)) (.cons (.tup (Same.sqt (s9.trans s10) h82) (.cons (dp_t2 (Same.sqt ((s8.trans s9).trans s10) h71) (.int f) (.str x)) .nil)) (.cons (.int 1) .nil)))))
      · refine ⟨_, rfl, _, rfl, _, rfl, p, g, names, rfl, hp4, .inl hw3.gp, (NmL.e (hw3.gg.sx hw3.gp sx4)), fun v H5 e sx5 hp5 hd ok => ?_⟩
        refine ⟨small (by show 3 ≤ 5000; decide), fun t nt => ?_⟩
        have s6 := same_new (o := .tup [.str "set", .str x, v]) nt
        exact q _ _ (.set x e) ((((sx2.trans sx3).trans sx4).trans sx5).trans (Same.sx s6)) (hp5.new nt) (dp_t3 (SqT.of upd_same) (.str _) (.str x) (dp_keep (Same.tk s6) hd (Ex.tup hw.gg.N ok))) ⟨hx, ok⟩ hz
    · obtain ⟨hc1, s2⟩ := hh
      have hc1 := of_decide_eq_false hc1.symm
      have hw2 := hw1.same s2
      have sx2 := sx1.trans (Same.sx s2)
      have nl_ : (names.map V.str).length = names.length := List.length_map _
      refine seqN (fun b H' => b = decide (r = 5 ∧ 1 < names.length) ∧ H2 = H') (fun Q q => ?_) (fun H3 hh => ?_) (fun H3 hh => ?_)
      · refine ⟨_, rfl, rfl, _, rfl, ite2 (fun e => ?_) (fun e => ?_)⟩
        · have e : r = 5 := V.int.inj (of_decide_eq_true e)
          refine ⟨_, rfl, g, _, rfl, .inl (SqL.of hw2.gg.at_), _, _, rfl, rfl, _, rfl, q _ _ ⟨?_, rfl⟩⟩
          rw [nl_]
          refine decide_eq_decide.mpr ⟨fun z => ⟨e, by omega⟩, fun z => ?_⟩
          have := z.2
          omega
        · have e : ¬ r = 5 := fun z => e (decide_eq_true (by rw [z]))
          exact q _ _ ⟨(decide_eq_false fun z => e z.1).symm, rfl⟩
      · obtain ⟨hc2, rfl⟩ := hh
        obtain ⟨hr5, hl1⟩ := of_decide_eq_true hc2.symm
        refine ⟨_, rfl, _, rfl, g, _, rfl, .inl (SqL.of hw2.gg.at_), p, _, rfl, hw2.pp, by rw [nl_]; omega, by rw [nl_]; omega, fun a H4 a0 a1 sx4 hp4 => ?_⟩
        rw [nl_] at a1
        have hw4 := hw2.sx sx4 hp4
        obtain ⟨i, rfl⟩ : ∃ i : Nat, a = (i : Int) := ⟨a.toNat, by omega⟩
        have hi : i < names.length := by omega
        have ati : (names.map V.str)[i]? = some (.str names[i]) := by rw [List.getElem?_map, List.getElem?_eq_getElem hi]; rfl
        refine ⟨_, rfl, _, rfl, g, _, _, _, rfl, rfl, SqL.of hw4.gg.at_, atI_nat ati, ?_⟩
        refine ⟨_, rfl, _, rfl, _, _, rfl, rfl, _, rfl, _, rfl, g, _, rfl, .inl (SqL.of hw4.gg.at_), _, _, rfl, rfl, p, _, rfl, hp4, by rw [nl_]; omega, by rw [nl_]; omega, fun b H5 b0 b1 sx5 hp5 => ?_⟩
        rw [nl_] at b1
        have hw5 := hw4.sx sx5 hp5
        refine ⟨_, _, rfl, rfl, _, rfl, g, _, rfl, .inl (SqL.of hw5.gg.at_), _, _, rfl, rfl, by rw [nl_]; omega, ?_⟩
        rw [nl_]
        have hm := mod_ne (a := (i : Int)) (k := 1 + b) (m := (names.length : Int)) (by omega) (by omega) (by omega) (by omega) (by omega)
        rw [← Int.add_assoc] at hm
        obtain ⟨hm1, hm2, hm3⟩ := hm
        obtain ⟨j, ej⟩ : ∃ j : Nat, ((i : Int) + 1 + b) % (names.length : Int) = (j : Int) := ⟨(((i : Int) + 1 + b) % (names.length : Int)).toNat, by omega⟩
        rw [ej] at hm1 hm2 hm3
        have hj : j < names.length := by omega
        have atj : (names.map V.str)[j]? = some (.str names[j]) := by rw [List.getElem?_map, List.getElem?_eq_getElem hj]; rfl
        have atj' := atI_nat atj
        rw [← ej] at atj'
        refine ⟨g, _, _, _, rfl, rfl, SqL.of hw5.gg.at_, atj', small (by show 3 ≤ 5000; decide), fun t nt => ?_⟩
        have s6 := same_new (o := .tup [.str "swap", .str names[i], .str names[j]]) nt
        refine q _ _ (.swap names[i] names[j]) (((sx2.trans sx4).trans sx5).trans (Same.sx s6)) (hp5.new nt) (dp_t3 (SqT.of upd_same) (.str _) (.str _) (.str _)) ⟨List.getElem_mem hi, List.getElem_mem hj, fun z => ?_⟩ hz
        have hnd := List.pairwise_iff_getElem.mp hw.gg.nd
        rcases Nat.lt_or_gt_of_ne (show i ≠ j from fun z => hm1 (by rw [z])) with h | h
        · exact hnd i j hi hj h z.symm
        · exact hnd j i hj hi h z
      · obtain ⟨hc2, rfl⟩ := hh
        have hc2 := of_decide_eq_false hc2.symm
        refine ⟨_, rfl, rfl, _, rfl, ite2 (fun e => ?_) (fun e => ?_)⟩
        · have e : r = 11 := V.int.inj (of_decide_eq_true e)
          have hne : called ≠ [] := fun z => hc1 (.inr ⟨e, z⟩)
          have h0 : 0 < called.length := List.length_pos_iff.mpr hne
          have hl2 := hw2.l2
          refine ⟨_, rfl, _, rfl, p, c, _, rfl, hw2.pp, hw2.cp, hw2.cc, by rw [List.length_map]; omega, by rw [List.length_map]; omega, fun v H4 hv sx4 hp4 => ?_⟩
          obtain ⟨x, hx, rfl⟩ := List.mem_map.mp hv
          refine ⟨small (by show 2 ≤ 5000; decide), fun t nt => ?_⟩
          exact q _ _ (.call x) ((sx2.trans sx4).trans (Same.sx (same_new nt))) (hp4.new nt) (dp_t2 (SqT.of upd_same) (.str _) (.str x)) hx hz
        · have e : ¬ r = 11 := fun z => e (decide_eq_true (by rw [z]))
          refine tNextI ?_
          dsimp only
          refine seqN (fun b H' => b = decide (r < 7 ∨ 2 < d) ∧ H2 = H') (fun Q q => ?_) (fun H3 hh => ?_) (fun H3 hh => ?_)
          · refine ⟨_, rfl, _, _, rfl, rfl, _, rfl, ite2 (fun e => ?_) (fun e => ?_)⟩
            · exact q _ _ ⟨(decide_eq_true (.inl (of_decide_eq_true e))).symm, rfl⟩
            · refine ⟨_, rfl, _, _, rfl, rfl, _, rfl, q _ _ ⟨decide_eq_decide.mpr ⟨fun z => .inr z, fun z => ?_⟩, rfl⟩⟩
              rcases z with z | z
              · exact absurd (decide_eq_true z) e
              · exact z
          · obtain ⟨_, rfl⟩ := hh
            refine ⟨_, rfl, _, rfl, p, g, names, rfl, hw2.pp, .inl hw2.gp, (NmL.e (hw2.gg)), fun v H4 e sx4 hp4 hd ok => ?_⟩
            refine ⟨small (by show 2 ≤ 5000; decide), fun t nt => ?_⟩
            have s5 := same_new (o := .tup [.str "print", v]) nt
            exact q _ _ (.print e) ((sx2.trans sx4).trans (Same.sx s5)) (hp4.new nt) (dp_t2 (SqT.of upd_same) (.str _) (dp_keep (Same.tk s5) hd (Ex.tup hw.gg.N ok))) ok hz
          · obtain ⟨hc3, rfl⟩ := hh
            have hc3 := of_decide_eq_false hc3.symm
            obtain ⟨m, rfl⟩ : ∃ m, n = m + 1 := ⟨n - 1, by omega⟩
            have hzm := szB_pos m
            have ez : szB (m + 1) = 3 + 6 * szB m := by simp only [szB]
            refine seqN (fun b H' => b = decide (r = 7 ∨ r = 8) ∧ H2 = H') (fun Q q => ?_) (fun H3 hh => ?_) (fun H3 hh => ?_)
            · refine ⟨_, rfl, rfl, _, rfl, ite2 (fun e => ?_) (fun e => ?_)⟩
              · exact q _ _ ⟨(decide_eq_true (.inl (V.int.inj (of_decide_eq_true e)))).symm, rfl⟩
              · refine ⟨_, rfl, rfl, _, rfl, q _ _ ⟨decide_eq_decide.mpr ⟨fun z => .inr (V.int.inj z), fun z => ?_⟩, rfl⟩⟩
                rcases z with z | z
                · exact absurd (decide_eq_true (by rw [z])) e
                · rw [z]
            · obtain ⟨_, rfl⟩ := hh
              refine ⟨_, rfl, _, rfl, _, rfl, _, rfl, _, _, rfl, rfl, p, g, c, d + 1, names, called, rfl, by omega, hw2, fun v1 H4 b1 sx4 hp4 hd1 ok1 z1 => ?_⟩
              refine ⟨_, rfl, _, rfl, _, rfl, _, rfl, _, _, rfl, rfl, p, g, c, d + 1, names, called, rfl, by omega, hw2.sx sx4 hp4, fun v2 H5 b2 sx5 hp5 hd2 ok2 z2 => ?_⟩
              refine ⟨_, _, rfl, ?_⟩
              refine ⟨_, rfl, _, rfl, p, g, names, rfl, hp5, .inl hw2.gp, (NmL.e ((hw2.gg.sx hw2.gp sx4).sx hw2.gp sx5)), fun v3 H6 e sx6 hp6 hd3 ok3 => ?_⟩
              refine ⟨_, rfl, _, rfl, small (by show 4 ≤ 5000; decide), fun t nt => ?_⟩
              have s7 := same_new (o := .tup [.str "if", v3, v1, v2]) nt
              have k1 := dp_keep ((sx5.tk' hp4).trans ((sx6.tk' hp5).trans (Same.tk s7))) hd1 (bD_tup hw.gg.N hw.CN ok1)
              have k2 := dp_keep ((sx6.tk' hp5).trans (Same.tk s7)) hd2 (bD_tup hw.gg.N hw.CN ok2)
              have k3 := dp_keep (Same.tk s7) hd3 (Ex.tup hw.gg.N ok3)
              refine q _ _ (.ite e b1 b2) ((((sx2.trans sx4).trans sx5).trans sx6).trans (Same.sx s7)) (hp6.new nt) ?_ ⟨ok3, m, rfl, ok1, ok2⟩ (by simp only [St.sz]; omega)
              simp only [St.D, blD_map]
              exact .tup (SqT.of upd_same) (.cons (.str _) (.cons k3 (.cons k1 (.cons k2 .nil))))
            · obtain ⟨_, rfl⟩ := hh
              refine ⟨_, rfl, rfl, _, rfl, ite2 (fun e => ?_) (fun e => ?_)⟩
              · refine ⟨_, rfl, _, rfl, p, g, names, rfl, hw2.pp, .inl hw2.gp, (NmL.e (hw2.gg)), fun v1 H4 a1 sx4 hp4 hd1 ok1 => ?_⟩
                refine ⟨_, rfl, _, rfl, p, g, names, rfl, hp4, .inl hw2.gp, (NmL.e (hw2.gg.sx hw2.gp sx4)), fun v2 H5 a2 sx5 hp5 hd2 ok2 => ?_⟩
                refine ⟨small (by show 3 ≤ 5000; decide), fun t nt => ?_⟩
                have s6 := same_new (o := .tup [.str "less", v1, v2]) nt
                have hw6 := ((hw2.sx sx4 hp4).sx sx5 hp5).same s6
                have e1 : Dp K (upd H5 t (.tup [.str "less", v1, v2])) (.ref t) (Ex.two "less" a1 a2).D := dp_t3 (SqT.of upd_same) (.str _) (dp_keep ((sx5.tk' hp4).trans (Same.tk s6)) hd1 (Sm.tup hw.gg.N ok1)) (dp_keep (Same.tk s6) hd2 (Sm.tup hw.gg.N ok2))
                have oke : (Ex.two "less" a1 a2).Ok names := ⟨by decide +kernel, ok1, ok2⟩
                generalize upd H5 t (.tup [.str "less", v1, v2]) = H6 at s6 hw6 e1 ⊢
                refine ⟨_, rfl, _, rfl, _, rfl, _, rfl, _, _, rfl, rfl, p, g, c, d + 1, names, called, rfl, by omega, hw6, fun v3 H7 b sx7 hp7 hd3 ok3 z3 => ?_⟩
                refine ⟨small (by show 3 ≤ 5000; decide), fun t2 nt2 => ?_⟩
                have s8 := same_new (o := .tup [.str "while", .ref t, v3]) nt2
                refine q _ _ (.whl (.two "less" a1 a2) b) (((((sx2.trans sx4).trans sx5).trans (Same.sx s6)).trans sx7).trans (Same.sx s8)) (hp7.new nt2) ?_ ⟨oke, m, rfl, ok3⟩ (by simp only [St.sz]; omega)
                simp only [St.D, blD_map]
                exact .tup (SqT.of upd_same) (.cons (.str _) (.cons (dp_keep ((sx7.tk' hw6.pp).trans (Same.tk s8)) e1 (Ex.tup hw.gg.N oke)) (.cons (dp_keep (Same.tk s8) hd3 (bD_tup hw.gg.N hw.CN ok3)) .nil)))
              · refine ⟨_, rfl, _, rfl, p, 4, rfl, hw2.pp, by decide, by decide, fun r3 H4 a0 a1 sx4 hp4 => ?_⟩
                refine ⟨small (by decide), fun t0 nt0 => ?_⟩
                have s5 := same_new (o := .tup []) nt0
                have h50 : SqT K (upd H4 t0 (.tup [])) t0 [] := SqT.of upd_same
                have hp5 := hp4.new (o := .tup []) nt0
                generalize upd H4 t0 (.tup []) = H5 at s5 h50 hp5 ⊢
                refine ⟨small (by show 4 ≤ 5000; decide), fun t1 nt1 => ?_⟩
                have s6 := same_new (o := .tup [.str "sum", .int r3, .ref t0, .int 1]) nt1
                have hp6 := hp5.new (o := .tup [.str "sum", .int r3, .ref t0, .int 1]) nt1
                have e1 : Dp K (upd H5 t1 (.tup [.str "sum", .int r3, .ref t0, .int 1])) (.ref t1) (Ex.sum ⟨r3, [], 1⟩).D := .tup (SqT.of upd_same) (.cons (.str _) (.cons (.int r3) (.cons (.tup (Same.sqt s6 h50) .nil) (.cons (.int 1) .nil))))
                generalize upd H5 t1 (.tup [.str "sum", .int r3, .ref t0, .int 1]) = H6 at s6 hp6 e1 ⊢
                have ok1 : (Ex.sum ⟨r3, [], 1⟩).Ok names := by
                  show Sm.Ok names ⟨r3, [], 1⟩
                  refine ⟨(fun t ht => by cases ht), List.Pairwise.nil, by show (1 : Int) ≤ 1; decide, by show 0 ≤ 60; decide, gcd_low (.inl rfl), fun y hy => ?_⟩
                  have big := great_big
                  simp only [List.map_nil, List.mem_cons, List.not_mem_nil, or_false] at hy
                  omega
                have sx26 := (sx2.trans sx4).trans (Same.sx (s5.trans s6))
                have hw6 : DrW H6 p g c names called := hw.sx sx26 hp6
                refine ⟨_, rfl, _, rfl, p, g, names, rfl, hp6, .inl hw6.gp, (NmL.e (hw6.gg)), fun v2 H7 e2 sx7 hp7 hd2 ok2 => ?_⟩
                refine ⟨small (by show 2 ≤ 5000; decide), fun l nl => use_choose (E := E0) hp7 nl (by show 0 < 2; decide) (by show 2 ≤ 1000; decide) fun v H8 hv sx8 hp8 => ?_⟩
                obtain ⟨e, oke, hde⟩ : ∃ e : Ex, e.Ok names ∧ Dp K H8 v e.D := by
                  simp only [List.mem_cons, List.not_mem_nil, or_false] at hv
                  rcases hv with rfl | rfl
                  · exact ⟨_, ok1, dp_keep ((sx7.tk' hp6).trans (sx8.tk' hp7)) e1 (Ex.tup hw.gg.N ok1)⟩
                  · exact ⟨e2, ok2, dp_keep (sx8.tk' hp7) hd2 (Ex.tup hw.gg.N ok2)⟩
                have sx28 := (sx26.trans sx7).trans sx8
                refine ⟨_, rfl, _, rfl, _, rfl, _, rfl, _, rfl, _, _, rfl, rfl, p, g, c, d + 1, names, called, rfl, by omega, hw.sx sx28 hp8, fun v3 H9 b sx9 hp9 hd3 ok3 z3 => ?_⟩
                refine ⟨small (by show 3 ≤ 5000; decide), fun t2 nt2 => ?_⟩
                have s10 := same_new (o := .tup [.str "repeat", v, v3]) nt2
                refine q _ _ (.rep e b) ((sx28.trans sx9).trans (Same.sx s10)) (hp9.new nt2) ?_ ⟨oke, m, rfl, ok3⟩ (by simp only [St.sz]; omega)
                simp only [St.D, blD_map]
                exact .tup (SqT.of upd_same) (.cons (.str _) (.cons (dp_keep ((sx9.tk' hp8).trans (Same.tk s10)) hde (Ex.tup hw.gg.N oke)) (.cons (dp_keep (Same.tk s10) hd3 (bD_tup hw.gg.N hw.CN ok3)) .nil)))
theorem ok__law_block (T : LwF K mg) {n : Nat} (hS : FnOk P w K mg base CX0 (2 * n + 6) T.f__law_statement T.fd__law_statement ["_law_stream_here", "_law_names", "_law_called", "_law_depth"] (sp_lstat K n)) :
    FnOk P w K mg base CX0 (2 * n + 7) T.f__law_block T.fd__law_block ["_law_stream_here", "_law_names", "_law_called", "_law_depth"] (sp_lblk K (n + 1)) := by
  refine T.D__law_block.F.ok sc_l_block (fun vs H Q E h => ?_) (fun cdv A outer s H vs Q E hr h => ?_)
  · obtain ⟨p, g, c, d, names, called, rfl, _⟩ := h
    rfl
  · obtain ⟨p, g, c, d, names, called, rfl, hdn, hw, q⟩ := h
    have nd := sc_l_block.nd
    refine ⟨_, (pss_one (ps_ret (pe_callTy call_tuple_of (by rfl) T.m_tuple (by decide +kernel) (pa_cons (pe_lc (own := [("_law_turn", 4)]) (g := (gName 4)) (tt := tYes) rfl nd (pi_range1 (by rfl) T.m_range (pa_cons (pe_call ((ok__law_draw T).mono (by omega)) hr (by rfl) T.D__law_draw.g T.D__law_draw.kp T.D__law_draw.b .nil pass0 (pa_cons (pv 0) (pa_cons pe_int pa_nil))) pa_nil)) (blkOk_by (N := N_l_block) (sc := defScope s_l_block) (by decide +kernel)) (fun _ _ _ _ _ => (pg_name (i := 4) nd rfl (.inl rfl))) (fun _ _ _ _ _ => pts_nil) (fun _ _ _ _ _ => (pe_call (hS.mono (by omega)) hr (by rfl) T.D__law_statement.g T.D__law_statement.kp T.D__law_statement.b .nil pass0 (pa_cons (pv 0) (pa_cons (pv 1) (pa_cons (pv 2) (pa_cons (pv 3) pa_nil))))))) pa_nil)))), ?_⟩
    refine ⟨_, rfl, p, 4, rfl, hw.pp, by decide, by decide, fun r H1 r0 r1 sx1 hp1 => ?_⟩
    obtain ⟨k, rfl⟩ : ∃ k : Nat, r = (k : Int) := ⟨r.toNat, by omega⟩
    refine ⟨k, rfl, by omega, by omega, fun D nD => ?_⟩
    have hDp := (hp1.ne nD).symm
    refine lc_range (lo := 0) (n := ((k : Int)).toNat) (fun i H' => SX p H1 H' ∧ PoolAt H' p ∧ ∃ vs b, H' D = some (.lst vs) ∧ DpAll K H' vs (b.map St.D) ∧ blOk names called n b ∧ blSz b ≤ i * szB n ∧ b.length = i)
      ⟨Same.sx (same_new nD), hp1.new nD, [], [], upd_same, .nil, trivial, by simp [blSz], rfl⟩ ?_ ?_
    · rintro i H2 hi ⟨sx2, hp2, vs, b, hD, hvs, okb, szb, hl⟩
      have hbt : tupAll (b.map St.D) = true := by rw [← blD_map]; exact blTup hw.gg.N hw.CN n b okb
      refine ⟨rfl, ?_⟩
      dsimp only [tYes]
      refine iteT ?_
      refine ⟨_, rfl, _, rfl, _, rfl, _, rfl, p, g, c, d, names, called, rfl, hdn, hw.sx (sx1.trans sx2) hp2, fun v H3 s sx3 hp3 hd ok hz => ?_⟩
      have hD3 := sx3 _ _ hDp hD
      refine ⟨vs, hD3, ?_, ?_⟩
      · rw [dpAll_len hvs, List.length_map, sizeLine_eq]
        omega
      · have tk : TK H3 (upd H3 D (.lst (vs ++ [v]))) := tk_lst hD3
        refine ⟨(sx2.trans sx3).new nD, hp3.put hDp.symm, vs ++ [v], b ++ [s], upd_same, ?_, ?_, ?_, ?_⟩
        · rw [List.map_append]
          exact dpAll_snoc (dpAll_keep ((sx3.tk' hp2).trans tk) hvs hbt) (dp_keep tk hd (St.tup hw.gg.N hw.CN n s ok))
        · exact blOk_iff.mpr fun t ht => by
            rcases List.mem_append.mp ht with ht | ht
            · exact blOk_iff.mp okb t ht
            · rw [List.mem_singleton.mp ht]
              exact ok
        · rw [blSz_app, Nat.succ_mul]
          simp only [blSz]
          omega
        · rw [List.length_append, hl]
          rfl
    · rintro H2 ⟨sx2, hp2, vs, b, hD, hvs, okb, szb, hl⟩
      have hbt : tupAll (b.map St.D) = true := by rw [← blD_map]; exact blTup hw.gg.N hw.CN n b okb
      refine ⟨D, _, rfl, .inl ⟨SqL.of hD, fun t nt => ?_⟩⟩
      have s3 := same_new (o := .tup vs) nt
      refine q _ _ b ((sx1.trans sx2).trans (Same.sx s3)) (hp2.new nt) (.tup (SqT.of upd_same) (dpAll_keep (Same.tk s3) hvs hbt)) okb (Nat.le_trans szb (Nat.mul_le_mul_right _ ?_))
      omega
/-- blocks and statements, by what is left of the depth -/
theorem ok_law_blocks (T : LwF K mg) : ∀ n : Nat, FnOk P w K mg base CX0 (2 * n + 5) T.f__law_block T.fd__law_block ["_law_stream_here", "_law_names", "_law_called", "_law_depth"] (sp_lblk K n) ∧
    FnOk P w K mg base CX0 (2 * n + 6) T.f__law_statement T.fd__law_statement ["_law_stream_here", "_law_names", "_law_called", "_law_depth"] (sp_lstat K n)
  | 0 => ⟨FnOk.none, ok__law_statement T FnOk.none⟩
  | n + 1 => by
    have h := ok__law_block T (ok_law_blocks T n).2
    exact ⟨h, ok__law_statement T h⟩
end
end Sp1

set_option Elab.async false
set_option linter.all false
set_option maxRecDepth 100000
set_option maxHeartbeats 8000000
namespace Pg
open PySem
mutual
theorem st_mono {names procs : List Str} : ∀ (n m : Nat) (s : St), n ≤ m → St.Ok names procs n s → St.Ok names procs m s
  | n, m, .set x e, _, h => h
  | n, m, .swap x e, _, h => h
  | n, m, .print e, _, h => h
  | n, m, .call x, _, h => h
  | n, m, .ite e a b, hl, h => by
    obtain ⟨h1, k, rfl, h2, h3⟩ := h
    exact ⟨h1, m - 1, by omega, bl_mono k (m - 1) a (by omega) h2, bl_mono k (m - 1) b (by omega) h3⟩
  | n, m, .whl e b, hl, h => by
    obtain ⟨h1, k, rfl, h3⟩ := h
    exact ⟨h1, m - 1, by omega, bl_mono k (m - 1) b (by omega) h3⟩
  | n, m, .rep e b, hl, h => by
    obtain ⟨h1, k, rfl, h3⟩ := h
    exact ⟨h1, m - 1, by omega, bl_mono k (m - 1) b (by omega) h3⟩
theorem bl_mono {names procs : List Str} : ∀ (n m : Nat) (b : List St), n ≤ m → blOk names procs n b → blOk names procs m b
  | n, m, [], _, _ => trivial
  | n, m, s :: r, hl, h => ⟨st_mono n m s hl h.1, bl_mono n m r hl h.2⟩
end
def baseNames : List Str := ["b", "count", "a", "zz", "x", "total"]
def baseProcs : List Str := ["p", "x"]
theorem nm_of {x : Str} (h : (1 ≤ x.length ∧ x.length ≤ 8 ∧ (∀ c ∈ x.cps.toList, 97 ≤ c ∧ c ≤ 122) ∧ x ∉ words)) : Nm x := ⟨h.1, h.2.1, h.2.2.1, h.2.2.2⟩
theorem baseN : Names baseNames := by
  intro x hx
  simp only [baseNames, List.mem_cons, List.not_mem_nil, or_false] at hx
  rcases hx with rfl | rfl | rfl | rfl | rfl | rfl <;> exact nm_of (by decide +kernel)
theorem baseNd : baseNames.Nodup := by decide +kernel
theorem baseP : Names baseProcs := by
  intro x hx
  simp only [baseProcs, List.mem_cons, List.not_mem_nil, or_false] at hx
  rcases hx with rfl | rfl <;> exact nm_of (by decide +kernel)
theorem basePd : baseProcs.Nodup := by decide +kernel
/-- its procedures have the names the law gives -/
structure Pt.Src (p : Pt) : Prop where
  procs : ∀ x ∈ p.ps.map (·.1), x ∈ baseProcs
  names : ∀ x ∈ p.given ++ p.vars, x ∈ baseNames
def Pt.D (p : Pt) : PyData := .tuple [strsD p.given, strsD p.vars, prsD p.ps, bD p.m]
end Pg
namespace Sp1
open PySem PySem.Spec PyProof.Rows L2 Pg
theorem er_map {α β : Type} (f : α → β) (xs : List α) (j : Nat) : (xs.map f).eraseIdx j = (xs.eraseIdx j).map f := by
  rw [List.eraseIdx_eq_take_drop_succ, List.eraseIdx_eq_take_drop_succ, List.map_append, List.map_take, List.map_drop]
theorem er_perm {α : Type} (xs : List α) (j : Nat) (h : j < xs.length) : (xs[j] :: xs.eraseIdx j).Perm xs := by
  rw [List.eraseIdx_eq_take_drop_succ]
  have : xs = xs.take j ++ xs[j] :: xs.drop (j + 1) := by rw [List.getElem_cons_drop, List.take_append_drop]
  refine List.Perm.trans ?_ (List.Perm.of_eq this.symm)
  exact List.perm_middle.symm
theorem cut_take (xs : List V) (k : Nat) (h : k ≤ xs.length) : cutV xs none (some (k : Int)) = xs.take k := by
  show (xs.drop 0).take (HT.sIx xs.length xs.length (some (k : Int)) - 0) = _
  rw [HT.sIx_nat, List.drop_zero, Nat.min_eq_left h]
  rfl
theorem cut_drop (xs : List V) (k : Nat) (h : k ≤ xs.length) : cutV xs (some (k : Int)) none = xs.drop k := by
  show (xs.drop (HT.sIx xs.length 0 (some (k : Int)))).take (xs.length - HT.sIx xs.length 0 (some (k : Int))) = _
  rw [HT.sIx_nat, Nat.min_eq_left h]
  exact List.take_of_length_le (by rw [List.length_drop]; omega)
section
variable {P : Program} {w : World} {K : PySem.W.Frag} {mg : Str → Option Value} {base : Heap}
def sp_lparts (K : PySem.W.Frag) : Sp := fun vs H Q _ => ∃ (p : Addr), vs = [.ref p] ∧ PoolAt H p ∧ ∀ (v : V) (H' : Hp) (pt : Pt), SX p H H' → PoolAt H' p → Dp K H' v pt.D → pt.Fine → pt.Src → Q v H'
theorem ok__law_parts (T : LwF K mg) : FnOk P w K mg base CX0 13 T.f__law_parts T.fd__law_parts ["_law_stream_here"] (sp_lparts K) := by
  refine T.D__law_parts.F.ok sc_l_parts (fun vs H Q E h => ?_) (fun cdv A outer s H vs Q E hr h => ?_)
  · obtain ⟨p, rfl, _⟩ := h
    rfl
  · obtain ⟨p, rfl, hp, q⟩ := h
    have nd := sc_l_parts.nd
    refine ⟨_, (pss_cons (ps_asg (pe_tup (pa_cons (pe_lst pa_nil) (pa_cons (pe_lst (pa_cons pe_str (pa_cons pe_str (pa_cons pe_str (pa_cons pe_str (pa_cons pe_str (pa_cons pe_str pa_nil))))))) pa_nil))) (pg_tup rfl (pgs_cons (pg_name (i := 1) nd rfl (.inr rfl)) (pgs_cons (pg_name (i := 2) nd rfl (.inl rfl)) pgs_nil))))
      (pss_cons (ps_for PassesOwn.never rfl (pi_range1 (by rfl) T.m_range (pa_cons (pe_op op_add pe_int (pe_call ((ok__law_draw T).mono (by decide)) hr (by rfl) T.D__law_draw.g T.D__law_draw.kp T.D__law_draw.b .nil pass0 (pa_cons (pv 0) (pa_cons pe_int pa_nil)))) pa_nil)) (pg_name (i := 3) nd rfl (.inl rfl))
      (pss_one (ps_expr (pe_bm PySem.F.plainAttrs_list PySem.F.slot_list_append PySem.F.type_list_append mt_append (pv 1) (pa_cons (pe_bm PySem.F.plainAttrs_list PySem.F.slot_list_pop PySem.F.type_list_pop mt_popAt (pv 2) (pa_cons (pe_call ((ok__law_draw T).mono (by decide)) hr (by rfl) T.D__law_draw.g T.D__law_draw.kp T.D__law_draw.b .nil pass0 (pa_cons (pv 0) (pa_cons (pe_callB call_len_seq (by rfl) T.m_len PySem.boot_len (pa_cons (pv 2) pa_nil)) pa_nil))) pa_nil)) pa_nil)))))
      (pss_cons (ps_asg (pe_tup (pa_cons (pe_call ((ok__law_draw T).mono (by decide)) hr (by rfl) T.D__law_draw.g T.D__law_draw.kp T.D__law_draw.b .nil pass0 (pa_cons (pv 0) (pa_cons (pe_op op_add (pe_callB call_len_seq (by rfl) T.m_len PySem.boot_len (pa_cons (pv 1) pa_nil)) pe_int) pa_nil))) (pa_cons (pe_slice sl_list (pe_lst (pa_cons pe_str (pa_cons pe_str pa_nil))) po_none (po_some (pe_call ((ok__law_draw T).mono (by decide)) hr (by rfl) T.D__law_draw.g T.D__law_draw.kp T.D__law_draw.b .nil pass0 (pa_cons (pv 0) (pa_cons pe_int pa_nil))))) pa_nil))) (pg_tup rfl (pgs_cons (pg_name (i := 4) nd rfl (.inl rfl)) (pgs_cons (pg_name (i := 5) nd rfl (.inr rfl)) pgs_nil))))
      (pss_cons (ps_set (i := 6) nd rfl (.inl rfl) (pe_callTy call_tuple_of (by rfl) T.m_tuple (by decide +kernel) (pa_cons (pe_lc (own := [("_law_name", 8)]) (g := (gName 8)) (tt := tYes) rfl nd (pi_list (pv 5)) (blkOk_by (N := N_l_parts) (sc := defScope s_l_parts) (by decide +kernel)) (fun _ _ _ _ _ => (pg_name (i := 8) nd rfl (.inl rfl))) (fun _ _ _ _ _ => pts_nil) (fun _ _ _ _ _ => (pe_tup (pa_cons (pv 8) (pa_cons (pe_call ((ok_law_blocks T 3).1.mono (by decide)) hr (by rfl) T.D__law_block.g T.D__law_block.kp T.D__law_block.b .nil pass0 (pa_cons (pv 0) (pa_cons (pv 1) (pa_cons (pv 5) (pa_cons pe_int pa_nil))))) pa_nil))))) pa_nil)))
      (pss_cons (ps_set (i := 7) nd rfl (.inl rfl) (pe_callTy call_tuple_of (by rfl) T.m_tuple (by decide +kernel) (pa_cons (pe_lc (own := [("_law_turn", 3)]) (g := (gName 3)) (tt := tYes) rfl nd (pi_range1 (by rfl) T.m_range (pa_cons (pe_op op_add pe_int (pe_call ((ok__law_draw T).mono (by decide)) hr (by rfl) T.D__law_draw.g T.D__law_draw.kp T.D__law_draw.b .nil pass0 (pa_cons (pv 0) (pa_cons pe_int pa_nil)))) pa_nil)) (blkOk_by (N := N_l_parts) (sc := defScope s_l_parts) (by decide +kernel)) (fun _ _ _ _ _ => (pg_name (i := 3) nd rfl (.inl rfl))) (fun _ _ _ _ _ => pts_nil) (fun _ _ _ _ _ => (pe_call ((ok_law_blocks T 2).2.mono (by decide)) hr (by rfl) T.D__law_statement.g T.D__law_statement.kp T.D__law_statement.b .nil pass0 (pa_cons (pv 0) (pa_cons (pv 1) (pa_cons (pv 5) (pa_cons pe_int pa_nil))))))) pa_nil)))
      (pss_one (ps_ret (pe_tup (pa_cons (pe_callTy call_tuple_of (by rfl) T.m_tuple (by decide +kernel) (pa_cons (pe_slice sl_list (pv 1) po_none (po_some (pv 4))) pa_nil)) (pa_cons (pe_callTy call_tuple_of (by rfl) T.m_tuple (by decide +kernel) (pa_cons (pe_slice sl_list (pv 1) (po_some (pv 4)) po_none) pa_nil)) (pa_cons (pv 6) (pa_cons (pv 7) pa_nil)))))))))))), ?_⟩
    refine ⟨small (by decide), fun g ng => ?_⟩
    have hgp := (hp.ne ng).symm
    have s1 := same_new (o := .lst []) ng
    have hp1 := hp.new (o := .lst []) ng
    have hg1 : (upd H g (.lst [])) g = some (.lst []) := upd_same
    generalize upd H g (.lst []) = H1 at s1 hp1 hg1 ⊢
    refine ⟨small (by show 6 ≤ 5000; decide), fun o no => ?_⟩
    have hop := (hp1.ne no).symm
    have hog : o ≠ g := (ne_of_none hg1 no).symm
    have s2 := same_new (o := .lst [.str "b", .str "count", .str "a", .str "zz", .str "x", .str "total"]) no
    have hp2 := hp1.new (o := .lst [.str "b", .str "count", .str "a", .str "zz", .str "x", .str "total"]) no
    have ho2 : (upd H1 o (.lst [.str "b", .str "count", .str "a", .str "zz", .str "x", .str "total"])) o = some (.lst (baseNames.map V.str)) := upd_same
    have hg2 := s2 _ _ hg1
    have noH : H o = none := s1.free no
    generalize upd H1 o (.lst [.str "b", .str "count", .str "a", .str "zz", .str "x", .str "total"]) = H2 at s2 hp2 ho2 hg2 ⊢
    refine ⟨small (by show 2 ≤ 5000; decide), fun tt ntt => ?_⟩
    have s3 := same_new (o := .tup [.ref g, .ref o]) ntt
    have hp3 := hp2.new (o := .tup [.ref g, .ref o]) ntt
    have ht3 : SqT K (upd H2 tt (.tup [.ref g, .ref o])) tt [.ref g, .ref o] := SqT.of upd_same
    have ho3 := s3 _ _ ho2
    have hg3 := s3 _ _ hg2
    generalize upd H2 tt (.tup [.ref g, .ref o]) = H3 at s3 hp3 ht3 ho3 hg3 ⊢
    have s03 : Same H H3 := (s1.trans s2).trans s3
    refine ⟨tt, _, rfl, ht3, rfl, _, _, rfl, _, _, rfl, rfl, ?_⟩
    refine ⟨_, rfl, p, 4, rfl, hp3, by decide, by decide, fun r H4 r0 r1 sx4 hp4 => ⟨_, _, rfl, rfl, ?_⟩⟩
    obtain ⟨k, rfl⟩ : ∃ k : Nat, r = (k : Int) := ⟨r.toNat, by omega⟩
    refine ⟨1 + (k : Int), rfl, by omega, by omega, for_range (lo := 0) (n := (1 + (k : Int)).toNat)
      (fun i σ H' => SX p H H' ∧ PoolAt H' p ∧ ∃ dn rs y, σ = [some (.ref p), some (.ref g), some (.ref o), y, none, none, none, none, none] ∧ H' g = some (.lst (dn.map V.str)) ∧ H' o = some (.lst (rs.map V.str)) ∧ (dn ++ rs).Perm baseNames ∧ dn.length = i)
      ⟨(Same.sx s03).trans sx4, hp4, [], baseNames, none, rfl, sx4 _ _ hgp hg3, sx4 _ _ hop ho3, List.Perm.refl _, rfl⟩ ?_ ?_⟩
    · rintro i σ H5 hi ⟨sx5, hp5, dn, rs, y, rfl, hg5, ho5, hperm, hl⟩
      have hlen := hperm.length_eq
      rw [List.length_append] at hlen
      have h6 : baseNames.length = 6 := rfl
      refine ⟨_, rfl, .inl ⟨rfl, _, SqL.of hg5⟩, ?_⟩
      refine ⟨_, rfl, .inl ⟨rfl, _, SqL.of ho5⟩, ?_⟩
      refine ⟨_, rfl, _, rfl, o, _, rfl, .inl (SqL.of ho5), p, _, rfl, hp5, by rw [List.length_map]; omega, by rw [List.length_map]; omega, fun z H6 z0 z1 sx6 hp6 => ?_⟩
      rw [List.length_map] at z1
      obtain ⟨j, rfl⟩ : ∃ j : Nat, z = (j : Int) := ⟨z.toNat, by omega⟩
      have hj : j < rs.length := by omega
      have ho6 := sx6 _ _ hop ho5
      have hg6 := sx6 _ _ hgp hg5
      refine ⟨o, rs.map V.str, (j : Int), j, .str rs[j], rfl, rfl, ho6, by omega, by omega, ?_, by rw [List.getElem?_map, List.getElem?_eq_getElem hj]; rfl, ?_⟩
      · rw [seqIndex_of (by omega) (by rw [List.length_map]; omega), Int.toNat_natCast]
      have hg7 : (upd H6 o (.lst ((rs.map V.str).eraseIdx j))) g = some (.lst (dn.map V.str)) := by rw [upd_ne hog.symm]; exact hg6
      refine ⟨g, _, _, rfl, rfl, hg7, by rw [List.length_map, sizeLine_eq]; omega, ?_⟩
      refine ⟨((sx5.trans sx6).new noH).new ng, (hp6.put hop.symm).put hgp.symm, dn ++ [rs[j]], rs.eraseIdx j, _, rfl, ?_, ?_, ?_, ?_⟩
      · rw [upd_same, List.map_append]
        rfl
      · rw [upd_ne hog, upd_same, er_map]
      · refine List.Perm.trans ?_ hperm
        rw [List.append_assoc]
        refine List.Perm.append_left dn ?_
        exact er_perm rs j hj
      · rw [List.length_append, hl]
        rfl
    · rintro σ H5 ⟨sx5, hp5, names, rs, y, rfl, hg5, ho5, hperm, hl⟩
      have hNn : NmL H5 g names := by
        refine ⟨hg5, fun x hx => baseN x (hperm.mem_iff.mp (List.mem_append_left _ hx)), ?_, by omega, by omega⟩
        exact (List.nodup_append.mp (hperm.nodup_iff.mpr baseNd)).1
      have l1 := hNn.l1
      have l4 := hNn.l4
      refine ⟨_, rfl, _, rfl, g, _, rfl, .inl (SqL.of hg5), _, _, rfl, rfl, p, _, rfl, hp5, by rw [List.length_map]; omega, by rw [List.length_map]; omega, fun z H6 z0 z1 sx6 hp6 => ?_⟩
      rw [List.length_map] at z1
      obtain ⟨cut, rfl⟩ : ∃ cut : Nat, z = (cut : Int) := ⟨z.toNat, by omega⟩
      have hcut : cut ≤ names.length := by omega
      refine ⟨small (by show 2 ≤ 5000; decide), fun l nl => ?_⟩
      have s7 := same_new (o := .lst [.str "p", .str "x"]) nl
      have hp7 := hp6.new (o := .lst [.str "p", .str "x"]) nl
      have hl7 : (upd H6 l (.lst [.str "p", .str "x"])) l = some (.lst (baseProcs.map V.str)) := upd_same
      have hlp := (hp6.ne nl).symm
      generalize upd H6 l (.lst [.str "p", .str "x"]) = H7 at s7 hp7 hl7 ⊢
      refine ⟨_, rfl, p, 3, rfl, hp7, by decide, by decide, fun z H8 z0 z1 sx8 hp8 => ?_⟩
      obtain ⟨kc, rfl⟩ : ∃ kc : Nat, z = (kc : Int) := ⟨z.toNat, by omega⟩
      have hkc : kc ≤ 2 := by omega
      have bl2 : (baseProcs.map V.str).length = 2 := rfl
      refine ⟨_, rfl, l, _, rfl, SqL.of (sx8 _ _ hlp hl7), fun c nc => ?_⟩
      rw [cut_take _ _ (by rw [bl2]; exact hkc), ← List.map_take]
      have hcp := (hp8.ne nc).symm
      have s9 := same_new (o := .lst ((baseProcs.take kc).map V.str)) nc
      have hp9 := hp8.new (o := .lst ((baseProcs.take kc).map V.str)) nc
      have hc9 : (upd H8 c (.lst ((baseProcs.take kc).map V.str))) c = some (.lst ((baseProcs.take kc).map V.str)) := upd_same
      generalize upd H8 c (.lst ((baseProcs.take kc).map V.str)) = H9 at s9 hp9 hc9 ⊢
      have cN : Names (baseProcs.take kc) := fun x hx => baseP x (List.mem_of_mem_take hx)
      have cnd : (baseProcs.take kc).Nodup := basePd.sublist (List.take_sublist _ _)
      have cl : (baseProcs.take kc).length ≤ 2 := by rw [List.length_take]; omega
      generalize hcalled : baseProcs.take kc = called at hc9 cN cnd cl ⊢
      refine ⟨small (by show 2 ≤ 5000; decide), fun t nt => ?_⟩
      have s10 := same_new (o := .tup [.int (cut : Int), .ref c]) nt
      have hp10 := hp9.new (o := .tup [.int (cut : Int), .ref c]) nt
      have ht10 : SqT K (upd H9 t (.tup [.int (cut : Int), .ref c])) t [.int (cut : Int), .ref c] := SqT.of upd_same
      have hc10 := s10 _ _ hc9
      generalize upd H9 t (.tup [.int (cut : Int), .ref c]) = H10 at s10 hp10 ht10 hc10 ⊢
      have sx510 : SX p H5 H10 := (sx6.trans ((Same.sx s7).trans sx8)).trans (Same.sx (s9.trans s10))
      have sx10 := sx5.trans sx510
      have hw : DrW H10 p g c names called := ⟨hp10, hgp, hNn.sx hgp sx510, hcp, hc10, cN, cl⟩
      refine ⟨t, _, rfl, ht10, rfl, _, _, rfl, _, _, rfl, rfl, ?_⟩
      -- procedures
      refine ⟨_, rfl, c, rfl, ⟨_, SqL.of hc10⟩, fun D nD => ?_⟩
      have hDp := (hp10.ne nD).symm
      refine lc_it (walk_list (K := K) (a := c) (xs := called.map V.str)) (fun i H' => SX p H10 H' ∧ PoolAt H' p ∧ ∃ vs ps, H' D = some (.lst vs) ∧ DpAll K H' vs (ps.map prD) ∧ ps.map (·.1) = called.take i ∧ ∀ q ∈ ps, blOk names called 2 q.2 ∧ blSz q.2 ≤ 1000)
        ⟨Same.sx (same_new nD), hp10.new nD, [], [], upd_same, .nil, rfl, fun q hq => by cases hq⟩ (fun i H' _ h => SqL.of (h.1 _ _ hcp hc10)) ?_ ?_
      · rintro i v H11 H12 hi ⟨sx11, hp11, vs, ps, hD11, hvs, hps, hall⟩ ⟨rfl, hv⟩
        rw [List.getElem?_map] at hv
        obtain ⟨x, hx, rfl⟩ := Option.map_eq_some_iff.mp hv
        have htk : called.take (i + 1) = called.take i ++ [x] := by rw [List.take_add_one, hx]; rfl
        have pl : ps.length ≤ 2 := by
          have := congrArg List.length hps
          rw [List.length_map, List.length_take] at this
          omega
        have xN : Nm x := cN x (List.mem_of_getElem? hx)
        have tps : tupAll (ps.map prD) = true := tupAll_iff.mpr fun d hd => by
          obtain ⟨q, hq, rfl⟩ := List.mem_map.mp hd
          have h1 : Nm q.1 := cN q.1 (List.mem_of_mem_take (by rw [← hps]; exact List.mem_map.mpr ⟨q, hq, rfl⟩))
          unfold prD
          rw [tupD_tuple, tupAll, tupAll, tupAll, h1.tup, bD_tup hNn.N cN (hall q hq).1]
          rfl
        refine ⟨rfl, ?_⟩
        dsimp only [tYes]
        refine iteT ?_
        refine ⟨_, rfl, _, rfl, _, rfl, _, rfl, p, g, c, 1, names, called, rfl, by decide, hw.sx sx11 hp11, fun v H13 b sx13 hp13 hd okb szb => ?_⟩
        refine ⟨small (by show 2 ≤ 5000; decide), fun tq ntq => ?_⟩
        have s14 := same_new (o := .tup [.str x, v]) ntq
        have hp14 := hp13.new (o := .tup [.str x, v]) ntq
        have e14 : Dp K (upd H13 tq (.tup [.str x, v])) (.ref tq) (prD (x, b)) := dp_t2 (SqT.of upd_same) (.str x) (dp_keep (Same.tk s14) hd (bD_tup hNn.N cN okb))
        generalize upd H13 tq (.tup [.str x, v]) = H14 at s14 hp14 e14 ⊢
        have hD14 := s14 _ _ (sx13 _ _ hDp hD11)
        have sx1114 := sx13.trans (Same.sx s14)
        have tk : TK H14 (upd H14 D (.lst (vs ++ [.ref tq]))) := tk_lst hD14
        refine ⟨vs, hD14, by rw [dpAll_len hvs, List.length_map, sizeLine_eq]; omega, (sx11.trans sx1114).new nD, hp14.put hDp.symm, vs ++ [.ref tq], ps ++ [(x, b)], upd_same, ?_, ?_, ?_⟩
        · rw [List.map_append]
          have te : tupD (prD (x, b)) = true := by
            unfold prD
            rw [tupD_tuple, tupAll, tupAll, tupAll, xN.tup, bD_tup hNn.N cN okb]
            rfl
          exact dpAll_snoc (dpAll_keep ((sx1114.tk' hp11).trans tk) hvs tps) (dp_keep tk e14 te)
        · rw [List.map_append, hps, htk]
          rfl
        · intro q hq
          rcases List.mem_append.mp hq with hq | hq
          · exact hall q hq
          · rw [List.mem_singleton.mp hq]
            have e2 : szB 2 = 57 := by decide
            have szb' : blSz b ≤ 3 * szB 2 := szb
            exact ⟨okb, by show blSz b ≤ 1000; omega⟩
      · rintro H11 ⟨sx11, hp11, vs, ps, hD11, hvs, hps, hall⟩
        rw [List.length_map, List.take_length] at hps
        have prs : PrsOk names ps := by
          refine ⟨by rw [hps]; exact cN, by rw [hps]; exact cnd, ?_, fun q hq => ?_⟩
          · have := congrArg List.length hps
            rw [List.length_map] at this
            omega
          · rw [hps]
            exact ⟨bl_mono 2 7 _ (by decide) (hall q hq).1, (hall q hq).2⟩
        have tps : tupD (prsD ps) = true := prsD_tup hNn.N prs
        refine ⟨D, _, rfl, .inl ⟨SqL.of hD11, fun tq ntq => ?_⟩⟩
        have s12 := same_new (o := .tup vs) ntq
        have hp12 := hp11.new (o := .tup vs) ntq
        have e12 : Dp K (upd H11 tq (.tup vs)) (.ref tq) (prsD ps) := .tup (SqT.of upd_same) (dpAll_keep (Same.tk s12) hvs (by rw [prsD, tupD_tuple] at tps; exact tps))
        generalize upd H11 tq (.tup vs) = H12 at s12 hp12 e12 ⊢
        have sx12 : SX p H10 H12 := sx11.trans (Same.sx s12)
        have hw12 := hw.sx sx12 hp12
        -- main
        refine ⟨_, rfl, p, 5, rfl, hp12, by decide, by decide, fun z H13 z0 z1 sx13 hp13 => ⟨_, _, rfl, rfl, ?_⟩⟩
        obtain ⟨km, rfl⟩ : ∃ km : Nat, z = (km : Int) := ⟨z.toNat, by omega⟩
        refine ⟨1 + (km : Int), rfl, by omega, by omega, fun D2 nD2 => ?_⟩
        have hD2p := (hp13.ne nD2).symm
        refine lc_range (lo := 0) (n := (1 + (km : Int)).toNat) (fun i H' => SX p H13 H' ∧ PoolAt H' p ∧ ∃ vs b, H' D2 = some (.lst vs) ∧ DpAll K H' vs (b.map St.D) ∧ blOk names called 2 b ∧ blSz b ≤ i * szB 2 ∧ b.length = i)
          ⟨Same.sx (same_new nD2), hp13.new nD2, [], [], upd_same, .nil, trivial, by simp [blSz], rfl⟩ ?_ ?_
        · rintro i H14 hi ⟨sx14, hp14, vs, b, hD, hvs, okb, szb, hl⟩
          have hbt : tupAll (b.map St.D) = true := by rw [← blD_map]; exact blTup hNn.N cN 2 b okb
          refine ⟨rfl, ?_⟩
          dsimp only [tYes]
          refine iteT ?_
          refine ⟨_, rfl, _, rfl, _, rfl, p, g, c, 1, names, called, rfl, by decide, hw12.sx (sx13.trans sx14) hp14, fun v H15 s sx15 hp15 hd ok hz => ?_⟩
          have hD15 := sx15 _ _ hD2p hD
          refine ⟨vs, hD15, ?_, ?_⟩
          · rw [dpAll_len hvs, List.length_map, sizeLine_eq]
            omega
          · have tk : TK H15 (upd H15 D2 (.lst (vs ++ [v]))) := tk_lst hD15
            refine ⟨(sx14.trans sx15).new nD2, hp15.put hD2p.symm, vs ++ [v], b ++ [s], upd_same, ?_, ?_, ?_, ?_⟩
            · rw [List.map_append]
              exact dpAll_snoc (dpAll_keep ((sx15.tk' hp14).trans tk) hvs hbt) (dp_keep tk hd (St.tup hNn.N cN 2 s ok))
            · exact blOk_iff.mpr fun t ht => by
                rcases List.mem_append.mp ht with ht | ht
                · exact blOk_iff.mp okb t ht
                · rw [List.mem_singleton.mp ht]
                  exact ok
            · rw [blSz_app, Nat.succ_mul]
              simp only [blSz]
              omega
            · rw [List.length_append, hl]
              rfl
        · rintro H14 ⟨sx14, hp14, vs2, b, hD, hvs2, okb, szb, hl⟩
          have hbt : tupAll (b.map St.D) = true := by rw [← blD_map]; exact blTup hNn.N cN 2 b okb
          refine ⟨D2, _, rfl, .inl ⟨SqL.of hD, fun tm ntm => ?_⟩⟩
          have s15 := same_new (o := .tup vs2) ntm
          have hp15 := hp14.new (o := .tup vs2) ntm
          have e15 : Dp K (upd H14 tm (.tup vs2)) (.ref tm) (bD b) := .tup (SqT.of upd_same) (dpAll_keep (Same.tk s15) hvs2 hbt)
          generalize upd H14 tm (.tup vs2) = H15 at s15 hp15 e15 ⊢
          have sx1215 : SX p H12 H15 := (sx13.trans sx14).trans (Same.sx s15)
          have hg15 := (hw12.sx sx1215 hp15).gg.at_
          have e12' := dp_keep (sx1215.tk' hp12) e12 tps
          -- the parts
          refine ⟨_, rfl, ⟨_, rfl, _, rfl, g, _, rfl, SqL.of hg15, fun l1 nl1 => ?_⟩⟩
          rw [cut_take _ _ (by rw [List.length_map]; exact hcut), ← List.map_take]
          have s16 := same_new (o := .lst ((names.take cut).map V.str)) nl1
          have h16 : (upd H15 l1 (.lst ((names.take cut).map V.str))) l1 = some (.lst ((names.take cut).map V.str)) := upd_same
          generalize upd H15 l1 (.lst ((names.take cut).map V.str)) = H16 at s16 h16 ⊢
          refine ⟨l1, _, rfl, .inl ⟨SqL.of h16, fun t1 nt1 => ?_⟩⟩
          have s17 := same_new (o := .tup ((names.take cut).map V.str)) nt1
          have h17 : SqT K (upd H16 t1 (.tup ((names.take cut).map V.str))) t1 ((names.take cut).map V.str) := SqT.of upd_same
          generalize upd H16 t1 (.tup ((names.take cut).map V.str)) = H17 at s17 h17 ⊢
          refine ⟨_, rfl, ⟨_, rfl, _, rfl, g, _, rfl, SqL.of (s17 _ _ (s16 _ _ hg15)), fun l2 nl2 => ?_⟩⟩
          rw [cut_drop _ _ (by rw [List.length_map]; exact hcut), ← List.map_drop]
          have s18 := same_new (o := .lst ((names.drop cut).map V.str)) nl2
          have h18 : (upd H17 l2 (.lst ((names.drop cut).map V.str))) l2 = some (.lst ((names.drop cut).map V.str)) := upd_same
          generalize upd H17 l2 (.lst ((names.drop cut).map V.str)) = H18 at s18 h18 ⊢
          refine ⟨l2, _, rfl, .inl ⟨SqL.of h18, fun t2 nt2 => ?_⟩⟩
          have s19 := same_new (o := .tup ((names.drop cut).map V.str)) nt2
          have h19 : SqT K (upd H18 t2 (.tup ((names.drop cut).map V.str))) t2 ((names.drop cut).map V.str) := SqT.of upd_same
          generalize upd H18 t2 (.tup ((names.drop cut).map V.str)) = H19 at s19 h19 ⊢
          refine ⟨_, rfl, _, rfl, small (by show 4 ≤ 5000; decide), fun t3 nt3 => ?_⟩
          have s20 := same_new (o := .tup [.ref t1, .ref t2, .ref tq, .ref tm]) nt3
          have s1520 := (((s16.trans s17).trans s18).trans s19).trans s20
          have e2 : szB 2 = 57 := by decide
          have fine : Pt.Fine ⟨names.take cut, names.drop cut, ps, b⟩ := by
            have en : names.take cut ++ names.drop cut = names := List.take_append_drop _ _
            refine ⟨?_, ?_, ?_, ?_, ?_, ?_, ?_⟩
            · show Names (names.take cut ++ names.drop cut)
              rw [en]
              exact hNn.N
            · show (names.take cut ++ names.drop cut).Nodup
              rw [en]
              exact hNn.nd
            · show 1 ≤ (names.take cut).length + (names.drop cut).length
              rw [List.length_take, List.length_drop]
              omega
            · show (names.take cut).length + (names.drop cut).length ≤ 4
              rw [List.length_take, List.length_drop]
              omega
            · show PrsOk (names.take cut ++ names.drop cut) ps
              rw [en]
              exact prs
            · show blOk (names.take cut ++ names.drop cut) (ps.map (·.1)) 7 b
              rw [en, hps]
              exact bl_mono 2 7 _ (by decide) okb
            · show blSz b ≤ 1000
              have : (1 + (km : Int)).toNat ≤ 5 := by omega
              have := Nat.mul_le_mul_right (szB 2) this
              omega
          refine q _ _ ⟨names.take cut, names.drop cut, ps, b⟩ ((((sx10.trans sx12).trans sx1215)).trans (Same.sx s1520)) (hp15.same s1520) ?_ fine ⟨fun x hx => by
            have hx : x ∈ ps.map (·.1) := hx
            rw [hps, ← hcalled] at hx
            exact List.mem_of_mem_take hx, fun x hx => by
            have hx : x ∈ names.take cut ++ names.drop cut := hx
            rw [List.take_append_drop] at hx
            exact hperm.mem_iff.mp (List.mem_append_left _ hx)⟩
          refine .tup (SqT.of upd_same) (.cons ?_ (.cons ?_ (.cons (dp_keep (Same.tk s1520) e12' tps) (.cons (dp_keep (Same.tk s1520) e15 (bD_tup hNn.N cN okb)) .nil))))
          · exact .tup (Same.sqt ((s18.trans s19).trans s20) h17) (dpAll_strs _)
          · exact .tup (Same.sqt s20 h19) (dpAll_strs _)
end
end Sp1

set_option Elab.async false
set_option linter.all false
set_option maxRecDepth 100000
set_option maxHeartbeats 8000000
namespace Sp1
open PySem PySem.Spec PyProof.Rows L2 Pg
theorem dpi {K : PySem.W.Frag} {H : Hp} {i j : Int} (h : i = j) : Dp K H (.int i) (.int j) := by
  rw [h]
  exact .int j
section
variable {P : Program} {w : World} {K : PySem.W.Frag} {mg : Str → Option Value} {base : Heap}
theorem ok__law_code_of (T : LwF K mg) {n : Nat} (hC : FnOk P w K mg base CX0 (n + 1) T.f__law_code_of T.fd__law_code_of ["_law_block_here", "_law_start"] (sp_block_code K n)) :
    FnOk P w K mg base CX0 (n + 2) T.f__law_code_of T.fd__law_code_of ["_law_block_here", "_law_start"] (sp_block_code K (n + 1)) := by
  refine T.D__law_code_of.F.ok sc_l_code_of (fun vs H Q E h => ?_) (fun cdv A outer s H vs Q E hr h => ?_)
  · obtain ⟨v, k, b, names, procs, rfl, _⟩ := h
    rfl
  · obtain ⟨v, k, b, names, procs, rfl, hd, hN, hP, ok, hsz, q⟩ := h
    have nd := sc_l_code_of.nd
    have hl := blSz_len b
    obtain ⟨a, ys, rfl, hS1, hA⟩ := dp_tup hd
    have yl : ys.length = b.length := by rw [dpAll_len hA, List.length_map]
    refine ⟨_, (pss_cons (ps_set (i := 2) nd rfl (.inl rfl) (pe_lst pa_nil))
      (pss_cons (ps_for PassesOwn.never rfl (pi_tup (pv 0)) (pg_name (i := 3) nd rfl (.inl rfl))
      (pss_cons (ps_par (i := 4) (j := 5) rfl nd rfl rfl (by decide) rfl rfl (pa_cons (pe_op op_add (pv 1) (pe_callB call_len_seq (by rfl) T.m_len PySem.boot_len (pa_cons (pv 2) pa_nil))) (pa_cons (pe_ix (r := rIxT K) ix_tup (pv 3) pe_int (fun _ _ => rfl)) pa_nil)) rfl)
        (pss_one (ps_if (pt_cmpR op_eq (pv 5) pe_str (nomark _))
        (pss_cons (ps_set (i := 6) nd rfl (.inl rfl) (pe_call (hC.mono (by omega)) hr (by rfl) T.D__law_code_of.g T.D__law_code_of.kp T.D__law_code_of.b .nil pass0 (pa_cons (pe_ix (r := rIxT K) ix_tup (pv 3) pe_int (fun _ _ => rfl)) (pa_cons (pe_op op_add (pv 4) pe_int) pa_nil))))
          (pss_cons (ps_set (i := 7) nd rfl (.inl rfl) (pe_op op_add (pe_op op_add (pv 4) (pe_callB call_len_seq (by rfl) T.m_len PySem.boot_len (pa_cons (pv 6) pa_nil))) pe_int))
          (pss_cons (ps_set (i := 8) nd rfl (.inl rfl) (pe_call (hC.mono (by omega)) hr (by rfl) T.D__law_code_of.g T.D__law_code_of.kp T.D__law_code_of.b .nil pass0 (pa_cons (pe_ix (r := rIxT K) ix_tup (pv 3) pe_int (fun _ _ => rfl)) (pa_cons (pv 7) pa_nil))))
          (pss_cons (ps_set (i := 9) nd rfl (.inl rfl) (pe_op op_add (pe_op op_add (pv 7) (pe_callB call_len_seq (by rfl) T.m_len PySem.boot_len (pa_cons (pv 8) pa_nil))) pe_int))
          (pss_one (ps_set (i := 2) nd rfl (.inl rfl) (pe_op op_cat (pe_op op_cat (pe_op op_cat (pe_op op_cat (pe_op op_cat (pv 2) (pe_lst (pa_cons (pe_tup (pa_cons pe_str (pa_cons (pe_ix (r := rIxT K) ix_tup (pv 3) pe_int (fun _ _ => rfl)) (pa_cons (pv 7) pa_nil)))) pa_nil))) (pv 6)) (pe_lst (pa_cons (pe_tup (pa_cons pe_str (pa_cons (pv 9) (pa_cons pe_int pa_nil)))) pa_nil))) (pv 8)) (pe_lst (pa_cons (pe_tup (pa_cons pe_str (pa_cons (pv 9) (pa_cons pe_int pa_nil)))) pa_nil)))))))))
        (pss_one (ps_if (pt_cmpR op_eq (pv 5) pe_str (nomark _))
          (pss_cons (ps_set (i := 10) nd rfl (.inl rfl) (pe_call (hC.mono (by omega)) hr (by rfl) T.D__law_code_of.g T.D__law_code_of.kp T.D__law_code_of.b .nil pass0 (pa_cons (pe_ix (r := rIxT K) ix_tup (pv 3) pe_int (fun _ _ => rfl)) (pa_cons (pe_op op_add (pv 4) pe_int) pa_nil))))
            (pss_one (ps_set (i := 2) nd rfl (.inl rfl) (pe_op op_cat (pe_op op_cat (pe_op op_cat (pv 2) (pe_lst (pa_cons (pe_tup (pa_cons pe_str (pa_cons (pe_op op_add (pv 4) pe_int) (pa_cons pe_int pa_nil)))) (pa_cons (pe_tup (pa_cons pe_str (pa_cons (pe_ix (r := rIxT K) ix_tup (pv 3) pe_int (fun _ _ => rfl)) (pa_cons (pe_op op_add (pe_op op_add (pv 4) (pe_callB call_len_seq (by rfl) T.m_len PySem.boot_len (pa_cons (pv 10) pa_nil))) pe_int) pa_nil)))) pa_nil)))) (pv 10)) (pe_lst (pa_cons (pe_tup (pa_cons pe_str (pa_cons (pe_op op_add (pv 4) pe_int) (pa_cons pe_int pa_nil)))) pa_nil))))))
          (pss_one (ps_if (pt_cmpR op_eq (pv 5) pe_str (nomark _))
            (pss_cons (ps_set (i := 10) nd rfl (.inl rfl) (pe_call (hC.mono (by omega)) hr (by rfl) T.D__law_code_of.g T.D__law_code_of.kp T.D__law_code_of.b .nil pass0 (pa_cons (pe_ix (r := rIxT K) ix_tup (pv 3) pe_int (fun _ _ => rfl)) (pa_cons (pe_op op_add (pv 4) pe_int) pa_nil))))
              (pss_one (ps_set (i := 2) nd rfl (.inl rfl) (pe_op op_cat (pe_op op_cat (pe_op op_cat (pv 2) (pe_lst (pa_cons (pe_tup (pa_cons pe_str (pa_cons (pe_ix (r := rIxT K) ix_tup (pv 3) pe_int (fun _ _ => rfl)) pa_nil))) (pa_cons (pe_tup (pa_cons pe_str (pa_cons (pe_op op_add (pe_op op_add (pv 4) (pe_callB call_len_seq (by rfl) T.m_len PySem.boot_len (pa_cons (pv 10) pa_nil))) pe_int) pa_nil))) pa_nil)))) (pv 10)) (pe_lst (pa_cons (pe_tup (pa_cons pe_str (pa_cons (pe_op op_add (pv 4) pe_int) pa_nil))) pa_nil))))))
            (pss_one (ps_expr (pe_bm PySem.F.plainAttrs_list PySem.F.slot_list_append PySem.F.type_list_append mt_append (pv 2) (pa_cons (pv 3) pa_nil))))))))))))
      (pss_one (ps_ret (pv 2))))), ?_⟩
    refine ⟨Nat.zero_le _, fun c0 nc0 => ?_⟩
    have s0 := same_new (o := HO.lst []) nc0
    have hc0 : (upd H c0 (HO.lst [])) c0 = some (HO.lst []) := upd_same
    generalize upd H c0 (HO.lst []) = H0 at s0 hc0 ⊢
    refine ⟨_, rfl, a, rfl, ⟨_, Same.sqt s0 hS1⟩, for_tup (K := K) (a := a) (xs := ys)
      (fun i σ H' => Same H H' ∧ ∃ c xs y3 y4 y5 y6 y7 y8 y9 y10, σ = [some (.ref a), some (.int k), some (.ref c), y3, y4, y5, y6, y7, y8, y9, y10] ∧ H c = none ∧ H' c = some (.lst xs) ∧ DpAll K H' xs (blCode (b.take i) k))
      ⟨s0, c0, [], none, none, none, none, none, none, none, none, rfl, nc0, hc0, .nil⟩ (fun i σ H' _ h => Same.sqt h.1 hS1) ?_ ?_⟩
    · rintro i x σ H1 hx ⟨s1, c, xs, y3, y4, y5, y6, y7, y8, y9, y10, rfl, nc, hc, hxs⟩
      obtain ⟨d', hd', hdp⟩ := dpAll_at hA hx
      rw [List.getElem?_map] at hd'
      obtain ⟨s, hs, rfl⟩ := Option.map_eq_some_iff.mp hd'
      have hm := List.mem_of_getElem? hs
      have oks := blOk_iff.mp ok s hm
      have := blSz_mem hm
      have htk : b.take (i + 1) = b.take i ++ [s] := by rw [List.take_add_one, hs]; rfl
      have hsz1 := blSz_take b (i + 1)
      rw [htk, blSz_app] at hsz1
      simp only [blSz] at hsz1
      have xl := dpAll_len hxs
      rw [blCode_len] at xl
      have okt : blOk names procs n (b.take i) := blOk_iff.mpr fun t ht => blOk_iff.mp ok t (List.mem_of_mem_take ht)
      have ts := St.tup hN hP n s oks
      have tb := blCode_tup hN hP n _ k okt
      have hd1 := dp_keep (Same.tk s1) hdp ts
      obtain ⟨wd, ds, hD⟩ : ∃ (wd : Str) (ds : List PyData), s.D = .tuple (.str wd :: ds) := by cases s <;> exact ⟨_, _, by simp only [St.D]; rfl⟩
      rw [hD] at hd1
      obtain ⟨t, zs, rfl, hS2, hA2⟩ := dp_tup hd1
      obtain ⟨zs, rfl, hzs⟩ : ∃ r, zs = .str wd :: r ∧ DpAll K H1 r ds := by
        cases hA2 with
        | cons x y =>
          obtain rfl := dp_str x
          exact ⟨_, rfl, y⟩
      refine ⟨_, rfl, _, rfl, c, _, rfl, .inl (SqL.of hc), _, _, rfl, rfl, ?_⟩
      refine ⟨_, rfl, t, _, _, _, rfl, rfl, hS2, atI_nat (j := 0) rfl, ?_⟩
      refine ⟨_, _, rfl, ?_⟩
      have fin : ∀ (H' : Hp) (c' : Addr) (ws : List V) (y6 y7 y8 y9 y10 : Option V), Same H H' → H c' = none → H' c' = some (.lst ws) → DpAll K H' ws (blCode (b.take i) k ++ s.code (k + (xs.length : Int))) →
          (Same H H' ∧ ∃ c xs_1 y3 y4 y5 y6_1 y7_1 y8_1 y9_1 y10_1, [some (V.ref a), some (.int k), some (.ref c'), some (.ref t), some (.int (k + (xs.length : Int))), some (.str wd), y6, y7, y8, y9, y10] = [some (.ref a), some (.int k), some (.ref c), y3, y4, y5, y6_1, y7_1, y8_1, y9_1, y10_1] ∧ H c = none ∧ H' c = some (.lst xs_1) ∧ DpAll K H' xs_1 (blCode (b.take (i + 1)) k)) := by
        intro H' c' ws y6 y7 y8 y9 y10 s' nc' hc' hws
        refine ⟨s', c', ws, _, _, _, y6, y7, y8, y9, y10, rfl, nc', hc', ?_⟩
        rw [htk, blCode_snoc, blCode_len, ← xl]
        exact hws
      have simple : s.code (k + (xs.length : Int)) = [s.D] → Same H (upd H1 c (.lst (xs ++ [.ref t]))) ∧ (upd H1 c (.lst (xs ++ [.ref t]))) c = some (.lst (xs ++ [.ref t])) ∧ DpAll K (upd H1 c (.lst (xs ++ [.ref t]))) (xs ++ [.ref t]) (blCode (b.take i) k ++ s.code (k + (xs.length : Int))) := fun e => by
        have tk : TK H1 (upd H1 c (.lst (xs ++ [.ref t]))) := tk_lst hc
        refine ⟨same_at nc s1, upd_same, ?_⟩
        rw [e]
        exact dpAll_snoc (dpAll_keep tk hxs tb) (dp_keep tk (dp_keep (Same.tk s1) hdp ts) ts)
      have l1 : xs.length < sizeLine := by rw [sizeLine_eq]; omega
      cases s with
      | set x e =>
        simp only [St.D, PyData.tuple.injEq, List.cons.injEq, PyData.str.injEq] at hD
        obtain ⟨rfl, rfl⟩ := hD
        obtain ⟨h1, h2, h3⟩ := simple rfl
        refine ⟨_, rfl, rfl, _, rfl, iteF ⟨_, rfl, rfl, _, rfl, iteF ⟨_, rfl, rfl, _, rfl, iteF ?_⟩⟩⟩
        exact ⟨_, rfl, .inl ⟨rfl, _, SqL.of hc⟩, _, rfl, c, xs, _, rfl, rfl, hc, l1, fin _ _ _ _ _ _ _ _ h1 nc h2 h3⟩
      | swap x y =>
        simp only [St.D, PyData.tuple.injEq, List.cons.injEq, PyData.str.injEq] at hD
        obtain ⟨rfl, rfl⟩ := hD
        obtain ⟨h1, h2, h3⟩ := simple rfl
        refine ⟨_, rfl, rfl, _, rfl, iteF ⟨_, rfl, rfl, _, rfl, iteF ⟨_, rfl, rfl, _, rfl, iteF ?_⟩⟩⟩
        exact ⟨_, rfl, .inl ⟨rfl, _, SqL.of hc⟩, _, rfl, c, xs, _, rfl, rfl, hc, l1, fin _ _ _ _ _ _ _ _ h1 nc h2 h3⟩
      | print e =>
        simp only [St.D, PyData.tuple.injEq, List.cons.injEq, PyData.str.injEq] at hD
        obtain ⟨rfl, rfl⟩ := hD
        obtain ⟨h1, h2, h3⟩ := simple rfl
        refine ⟨_, rfl, rfl, _, rfl, iteF ⟨_, rfl, rfl, _, rfl, iteF ⟨_, rfl, rfl, _, rfl, iteF ?_⟩⟩⟩
        exact ⟨_, rfl, .inl ⟨rfl, _, SqL.of hc⟩, _, rfl, c, xs, _, rfl, rfl, hc, l1, fin _ _ _ _ _ _ _ _ h1 nc h2 h3⟩
      | call x =>
        simp only [St.D, PyData.tuple.injEq, List.cons.injEq, PyData.str.injEq] at hD
        obtain ⟨rfl, rfl⟩ := hD
        obtain ⟨h1, h2, h3⟩ := simple rfl
        refine ⟨_, rfl, rfl, _, rfl, iteF ⟨_, rfl, rfl, _, rfl, iteF ⟨_, rfl, rfl, _, rfl, iteF ?_⟩⟩⟩
        exact ⟨_, rfl, .inl ⟨rfl, _, SqL.of hc⟩, _, rfl, c, xs, _, rfl, rfl, hc, l1, fin _ _ _ _ _ _ _ _ h1 nc h2 h3⟩
      | ite e x y =>
        simp only [St.D, PyData.tuple.injEq, List.cons.injEq, PyData.str.injEq] at hD
        obtain ⟨rfl, rfl⟩ := hD
        obtain ⟨he, m, rfl, hx, hy⟩ := oks
        simp only [St.sz] at this hsz1
        obtain ⟨ve, va, vb, rfl, hve, hva, hvb⟩ : ∃ ve va vb, zs = [ve, va, vb] ∧ Dp K H1 ve e.D ∧ Dp K H1 va (bD x) ∧ Dp K H1 vb (bD y) := by
          rw [blD_map, blD_map] at hzs
          cases hzs with
          | cons a1 z => cases z with
            | cons a2 z => cases z with
              | cons a3 z => cases z; exact ⟨_, _, _, rfl, a1, a2, a3⟩
        have te := Ex.tup hN he
        have tx := bD_tup hN hP hx
        have ty := bD_tup hN hP hy
        refine ⟨_, rfl, rfl, _, rfl, iteT ?_⟩
        refine ⟨_, rfl, t, _, _, _, rfl, rfl, hS2, atI_nat (j := 2) rfl, _, rfl, _, _, rfl, rfl, va, _, x, names, procs, rfl, hva, hN, hP, hx, by omega, fun H2 p1 xs1 s2 np1 hp1 hx1 => ?_⟩
        have z1 := dpAll_len hx1
        rw [blCode_len] at z1
        refine ⟨_, rfl, _, rfl, p1, _, rfl, .inl (SqL.of hp1), _, _, rfl, rfl, _, _, rfl, rfl, ?_⟩
        refine ⟨_, rfl, t, _, _, _, rfl, rfl, Same.sqt s2 hS2, atI_nat (j := 3) rfl, _, rfl, vb, _, y, names, procs, rfl, dp_keep (Same.tk s2) hvb ty, hN, hP, hy, by omega, fun H3 p2 xs2 s3 np2 hp2 hx2 => ?_⟩
        have z2 := dpAll_len hx2
        rw [blCode_len] at z2
        refine ⟨_, rfl, _, rfl, p2, _, rfl, .inl (SqL.of hp2), _, _, rfl, rfl, _, _, rfl, rfl, ?_⟩
        have s13 := s2.trans s3
        -- code + [test]
        refine ⟨_, rfl, _, rfl, t, _, _, _, rfl, rfl, Same.sqt s13 hS2, atI_nat (j := 1) rfl, _, rfl, small (by show 3 ≤ 5000; decide), fun t1 nt1 => ?_⟩
        have s4 := same_new (o := HO.tup [.str "test", ve, .int (k + (xs.length : Int) + (xs1.length : Int) + 2)]) nt1
        have h4 : (upd H3 t1 (HO.tup [.str "test", ve, .int (k + (xs.length : Int) + (xs1.length : Int) + 2)])) t1 = some (HO.tup [.str "test", ve, .int (k + (xs.length : Int) + (xs1.length : Int) + 2)]) := upd_same
        generalize upd H3 t1 (HO.tup [.str "test", ve, .int (k + (xs.length : Int) + (xs1.length : Int) + 2)]) = H4 at s4 h4 ⊢
        refine ⟨small (by show 1 ≤ 5000; decide), fun l1 nl1 => ?_⟩
        have s5 := same_new (o := HO.lst [.ref t1]) nl1
        have h5 : (upd H4 l1 (HO.lst [.ref t1])) l1 = some (HO.lst [.ref t1]) := upd_same
        generalize upd H4 l1 (HO.lst [.ref t1]) = H5 at s5 h5 ⊢
        have s15 := s13.trans (s4.trans s5)
        refine ⟨c, l1, xs, _, rfl, rfl, s15 _ _ hc, h5, small (by show xs.length + 1 ≤ 5000; omega), fun c1 nc1 => ?_⟩
        have s6 := same_new (o := HO.lst (xs ++ [.ref t1])) nc1
        have h6 : (upd H5 c1 (HO.lst (xs ++ [.ref t1]))) c1 = some (HO.lst (xs ++ [.ref t1])) := upd_same
        generalize upd H5 c1 (HO.lst (xs ++ [.ref t1])) = H6 at s6 h6 ⊢
        have s16 := s15.trans s6
        have hp16 := s6 _ _ (s5 _ _ (s4 _ _ (s3 _ _ hp1)))
        refine ⟨_, rfl, c1, p1, _, _, rfl, rfl, h6, hp16, small (by rw [List.length_append]; show xs.length + 1 + xs1.length ≤ 5000; omega), fun c2 nc2 => ?_⟩
        have s7 := same_new (o := HO.lst (xs ++ [.ref t1] ++ xs1)) nc2
        have h7 : (upd H6 c2 (HO.lst (xs ++ [.ref t1] ++ xs1))) c2 = some (HO.lst (xs ++ [.ref t1] ++ xs1)) := upd_same
        generalize upd H6 c2 (HO.lst (xs ++ [.ref t1] ++ xs1)) = H7 at s7 h7 ⊢
        refine ⟨_, rfl, small (by show 3 ≤ 5000; decide), fun t2 nt2 => ?_⟩
        have s8 := same_new (o := HO.tup [.str "go", .int (k + (xs.length : Int) + (xs1.length : Int) + 2 + (xs2.length : Int) + 1), .int 1]) nt2
        have h8 : (upd H7 t2 (HO.tup [.str "go", .int (k + (xs.length : Int) + (xs1.length : Int) + 2 + (xs2.length : Int) + 1), .int 1])) t2 = some (HO.tup [.str "go", .int (k + (xs.length : Int) + (xs1.length : Int) + 2 + (xs2.length : Int) + 1), .int 1]) := upd_same
        generalize upd H7 t2 (HO.tup [.str "go", .int (k + (xs.length : Int) + (xs1.length : Int) + 2 + (xs2.length : Int) + 1), .int 1]) = H8 at s8 h8 ⊢
        refine ⟨small (by show 1 ≤ 5000; decide), fun l2 nl2 => ?_⟩
        have s9 := same_new (o := HO.lst [.ref t2]) nl2
        have h9 : (upd H8 l2 (HO.lst [.ref t2])) l2 = some (HO.lst [.ref t2]) := upd_same
        generalize upd H8 l2 (HO.lst [.ref t2]) = H9 at s9 h9 ⊢
        refine ⟨c2, l2, _, _, rfl, rfl, s9 _ _ (s8 _ _ h7), h9, small (by rw [List.length_append, List.length_append]; show xs.length + 1 + xs1.length + 1 ≤ 5000; omega), fun c3 nc3 => ?_⟩
        have s10 := same_new (o := HO.lst (xs ++ [.ref t1] ++ xs1 ++ [.ref t2])) nc3
        have h10 : (upd H9 c3 (HO.lst (xs ++ [.ref t1] ++ xs1 ++ [.ref t2]))) c3 = some (HO.lst (xs ++ [.ref t1] ++ xs1 ++ [.ref t2])) := upd_same
        generalize upd H9 c3 (HO.lst (xs ++ [.ref t1] ++ xs1 ++ [.ref t2])) = H10 at s10 h10 ⊢
        have s610 := ((s7.trans s8).trans s9).trans s10
        have hp210 := s610 _ _ (s6 _ _ (s5 _ _ (s4 _ _ hp2)))
        refine ⟨_, rfl, c3, p2, _, _, rfl, rfl, h10, hp210, small (by rw [List.length_append, List.length_append, List.length_append]; show xs.length + 1 + xs1.length + 1 + xs2.length ≤ 5000; omega), fun c4 nc4 => ?_⟩
        have s11 := same_new (o := HO.lst (xs ++ [.ref t1] ++ xs1 ++ [.ref t2] ++ xs2)) nc4
        have h11 : (upd H10 c4 (HO.lst (xs ++ [.ref t1] ++ xs1 ++ [.ref t2] ++ xs2))) c4 = some (HO.lst (xs ++ [.ref t1] ++ xs1 ++ [.ref t2] ++ xs2)) := upd_same
        generalize upd H10 c4 (HO.lst (xs ++ [.ref t1] ++ xs1 ++ [.ref t2] ++ xs2)) = H11 at s11 h11 ⊢
        refine ⟨_, rfl, small (by show 3 ≤ 5000; decide), fun t3 nt3 => ?_⟩
        have s12 := same_new (o := HO.tup [.str "go", .int (k + (xs.length : Int) + (xs1.length : Int) + 2 + (xs2.length : Int) + 1), .int 0]) nt3
        have h12 : (upd H11 t3 (HO.tup [.str "go", .int (k + (xs.length : Int) + (xs1.length : Int) + 2 + (xs2.length : Int) + 1), .int 0])) t3 = some (HO.tup [.str "go", .int (k + (xs.length : Int) + (xs1.length : Int) + 2 + (xs2.length : Int) + 1), .int 0]) := upd_same
        generalize upd H11 t3 (HO.tup [.str "go", .int (k + (xs.length : Int) + (xs1.length : Int) + 2 + (xs2.length : Int) + 1), .int 0]) = H12 at s12 h12 ⊢
        refine ⟨small (by show 1 ≤ 5000; decide), fun l3 nl3 => ?_⟩
        have s13_ := same_new (o := HO.lst [.ref t3]) nl3
        have h13 : (upd H12 l3 (HO.lst [.ref t3])) l3 = some (HO.lst [.ref t3]) := upd_same
        generalize upd H12 l3 (HO.lst [.ref t3]) = H13 at s13_ h13 ⊢
        refine ⟨c4, l3, _, _, rfl, rfl, s13_ _ _ (s12 _ _ h11), h13, small (by rw [List.length_append, List.length_append, List.length_append, List.length_append]; show xs.length + 1 + xs1.length + 1 + xs2.length + 1 ≤ 5000; omega), fun c5 nc5 => ?_⟩
        have s14 := same_new (o := HO.lst (xs ++ [.ref t1] ++ xs1 ++ [.ref t2] ++ xs2 ++ [.ref t3])) nc5
        have h14 : (upd H13 c5 (HO.lst (xs ++ [.ref t1] ++ xs1 ++ [.ref t2] ++ xs2 ++ [.ref t3]))) c5 = some (HO.lst (xs ++ [.ref t1] ++ xs1 ++ [.ref t2] ++ xs2 ++ [.ref t3])) := upd_same
        generalize upd H13 c5 (HO.lst (xs ++ [.ref t1] ++ xs1 ++ [.ref t2] ++ xs2 ++ [.ref t3])) = H14 at s14 h14 ⊢
        have sA : Same H1 H13 := ((s16.trans s610).trans s11).trans (s12.trans s13_)
        have sB : Same H H13 := s1.trans sA
        refine fin _ _ _ _ _ _ _ _ (sB.trans s14) (sB.free nc5) h14 ?_
        have k1 := dpAll_keep (Same.tk (sA.trans s14)) hxs tb
        have e4 : Same H4 H14 := (((s5.trans s6).trans s610).trans s11).trans ((s12.trans s13_).trans s14)
        have e8 : Same H8 H14 := ((s9.trans s10).trans s11).trans ((s12.trans s13_).trans s14)
        have e12 : Same H12 H14 := s13_.trans s14
        have a1 := dp_t3 (SqT.of (e4 _ _ h4)) (.str _) (dp_keep (Same.tk (sA.trans s14)) hve te) (dpi (j := k + (xs.length : Int) + 1 + ((blCode x (k + (xs.length : Int) + 1)).length : Int) + 1) (by rw [blCode_len]; omega))
        have hi : (k + (xs.length : Int) + (xs1.length : Int) + 2 + (xs2.length : Int) + 1) = k + (xs.length : Int) + 1 + ((blCode x (k + (xs.length : Int) + 1)).length : Int) + 1 + ((blCode y (k + (xs.length : Int) + 1 + ((blCode x (k + (xs.length : Int) + 1)).length : Int) + 1)).length : Int) + 1 := by
          rw [blCode_len, blCode_len]
          omega
        have a2 := dp_t3 (K := K) (SqT.of (e8 _ _ h8)) (.str _) (dpi hi) (.int 1)
        have a3 := dp_t3 (K := K) (SqT.of (e12 _ _ h12)) (.str _) (dpi hi) (.int 0)
        have k2 := dpAll_keep (Same.tk (s3.trans (s4.trans e4))) hx1 (blCode_tup hN hP m x _ hx)
        have k3 := dpAll_keep (Same.tk (s4.trans e4)) hx2 (blCode_tup hN hP m y _ hy)
        have ei : k + (xs.length : Int) + (xs1.length : Int) + 2 = k + (xs.length : Int) + 1 + ((blCode x (k + (xs.length : Int) + 1)).length : Int) + 1 := by
          rw [blCode_len]
          omega
        rw [ei] at k3
        simp only [St.code]
        simp only [List.append_assoc, List.singleton_append]
        exact dpAll_app k1 (.cons a1 (dpAll_app k2 (.cons a2 (dpAll_app k3 (.cons a3 .nil)))))
      | whl e x =>
        simp only [St.D, PyData.tuple.injEq, List.cons.injEq, PyData.str.injEq] at hD
        obtain ⟨rfl, rfl⟩ := hD
        obtain ⟨he, m, rfl, hx⟩ := oks
        simp only [St.sz] at this hsz1
        obtain ⟨ve, va, rfl, hve, hva⟩ : ∃ ve va, zs = [ve, va] ∧ Dp K H1 ve e.D ∧ Dp K H1 va (bD x) := by
          rw [blD_map] at hzs
          cases hzs with
          | cons a1 z => cases z with
            | cons a2 z => cases z; exact ⟨_, _, rfl, a1, a2⟩
        have te := Ex.tup hN he
        have tx := bD_tup hN hP hx
        refine ⟨_, rfl, rfl, _, rfl, iteF ⟨_, rfl, rfl, _, rfl, iteT ?_⟩⟩
        refine ⟨_, rfl, t, _, _, _, rfl, rfl, hS2, atI_nat (j := 2) rfl, _, rfl, _, _, rfl, rfl, va, _, x, names, procs, rfl, hva, hN, hP, hx, by omega, fun H2 p1 xs1 s2 np1 hp1 hx1 => ?_⟩
        have z1 := dpAll_len hx1
        rw [blCode_len] at z1
        refine ⟨_, rfl, _, rfl, _, _, rfl, rfl, small (by show 3 ≤ 5000; decide), fun t1 nt1 => ?_⟩
        have s3 := same_new (o := HO.tup [.str "go", .int (k + (xs.length : Int) + 1), .int 0]) nt1
        have h3 : (upd H2 t1 (HO.tup [.str "go", .int (k + (xs.length : Int) + 1), .int 0])) t1 = some (HO.tup [.str "go", .int (k + (xs.length : Int) + 1), .int 0]) := upd_same
        generalize upd H2 t1 (HO.tup [.str "go", .int (k + (xs.length : Int) + 1), .int 0]) = H3 at s3 h3 ⊢
        refine ⟨_, rfl, t, _, _, _, rfl, rfl, Same.sqt (s2.trans s3) hS2, atI_nat (j := 1) rfl, _, rfl, _, rfl, p1, _, rfl, .inl (SqL.of (s3 _ _ hp1)), _, _, rfl, rfl, _, _, rfl, rfl, small (by show 3 ≤ 5000; decide), fun t2 nt2 => ?_⟩
        have s4 := same_new (o := HO.tup [.str "test", ve, .int (k + (xs.length : Int) + (xs1.length : Int) + 3)]) nt2
        have h4 : (upd H3 t2 (HO.tup [.str "test", ve, .int (k + (xs.length : Int) + (xs1.length : Int) + 3)])) t2 = some (HO.tup [.str "test", ve, .int (k + (xs.length : Int) + (xs1.length : Int) + 3)]) := upd_same
        generalize upd H3 t2 (HO.tup [.str "test", ve, .int (k + (xs.length : Int) + (xs1.length : Int) + 3)]) = H4 at s4 h4 ⊢
        refine ⟨small (by show 2 ≤ 5000; decide), fun l1 nl1 => ?_⟩
        have s5 := same_new (o := HO.lst [.ref t1, .ref t2]) nl1
        have h5 : (upd H4 l1 (HO.lst [.ref t1, .ref t2])) l1 = some (HO.lst [.ref t1, .ref t2]) := upd_same
        generalize upd H4 l1 (HO.lst [.ref t1, .ref t2]) = H5 at s5 h5 ⊢
        have s15 := s2.trans (s3.trans (s4.trans s5))
        refine ⟨c, l1, xs, _, rfl, rfl, s15 _ _ hc, h5, small (by show xs.length + 2 ≤ 5000; omega), fun c1 nc1 => ?_⟩
        have s6 := same_new (o := HO.lst (xs ++ [.ref t1, .ref t2])) nc1
        have h6 : (upd H5 c1 (HO.lst (xs ++ [.ref t1, .ref t2]))) c1 = some (HO.lst (xs ++ [.ref t1, .ref t2])) := upd_same
        generalize upd H5 c1 (HO.lst (xs ++ [.ref t1, .ref t2])) = H6 at s6 h6 ⊢
        have hp16 := s6 _ _ (s5 _ _ (s4 _ _ (s3 _ _ hp1)))
        refine ⟨_, rfl, c1, p1, _, _, rfl, rfl, h6, hp16, small (by rw [List.length_append]; show xs.length + 2 + xs1.length ≤ 5000; omega), fun c2 nc2 => ?_⟩
        have s7 := same_new (o := HO.lst (xs ++ [.ref t1, .ref t2] ++ xs1)) nc2
        have h7 : (upd H6 c2 (HO.lst (xs ++ [.ref t1, .ref t2] ++ xs1))) c2 = some (HO.lst (xs ++ [.ref t1, .ref t2] ++ xs1)) := upd_same
        generalize upd H6 c2 (HO.lst (xs ++ [.ref t1, .ref t2] ++ xs1)) = H7 at s7 h7 ⊢
        refine ⟨_, rfl, _, _, rfl, rfl, small (by show 3 ≤ 5000; decide), fun t3 nt3 => ?_⟩
        have s8 := same_new (o := HO.tup [.str "go", .int (k + (xs.length : Int) + 1), .int 1]) nt3
        have h8 : (upd H7 t3 (HO.tup [.str "go", .int (k + (xs.length : Int) + 1), .int 1])) t3 = some (HO.tup [.str "go", .int (k + (xs.length : Int) + 1), .int 1]) := upd_same
        generalize upd H7 t3 (HO.tup [.str "go", .int (k + (xs.length : Int) + 1), .int 1]) = H8 at s8 h8 ⊢
        refine ⟨small (by show 1 ≤ 5000; decide), fun l2 nl2 => ?_⟩
        have s9 := same_new (o := HO.lst [.ref t3]) nl2
        have h9 : (upd H8 l2 (HO.lst [.ref t3])) l2 = some (HO.lst [.ref t3]) := upd_same
        generalize upd H8 l2 (HO.lst [.ref t3]) = H9 at s9 h9 ⊢
        refine ⟨c2, l2, _, _, rfl, rfl, s9 _ _ (s8 _ _ h7), h9, small (by rw [List.length_append, List.length_append]; show xs.length + 2 + xs1.length + 1 ≤ 5000; omega), fun c3 nc3 => ?_⟩
        have s10 := same_new (o := HO.lst (xs ++ [.ref t1, .ref t2] ++ xs1 ++ [.ref t3])) nc3
        have h10 : (upd H9 c3 (HO.lst (xs ++ [.ref t1, .ref t2] ++ xs1 ++ [.ref t3]))) c3 = some (HO.lst (xs ++ [.ref t1, .ref t2] ++ xs1 ++ [.ref t3])) := upd_same
        generalize upd H9 c3 (HO.lst (xs ++ [.ref t1, .ref t2] ++ xs1 ++ [.ref t3])) = H10 at s10 h10 ⊢
        have sA : Same H1 H9 := (s15.trans s6).trans ((s7.trans s8).trans s9)
        have sB : Same H H9 := s1.trans sA
        refine fin _ _ _ _ _ _ _ _ (sB.trans s10) (sB.free nc3) h10 ?_
        have k1 := dpAll_keep (Same.tk (sA.trans s10)) hxs tb
        have e8 : Same H8 H10 := s9.trans s10
        have e4 : Same H4 H10 := (s5.trans s6).trans ((s7.trans s8).trans e8)
        have e3 : Same H3 H10 := s4.trans e4
        have a1 := dp_t3 (K := K) (SqT.of (e3 _ _ h3)) (.str _) (.int (k + (xs.length : Int) + 1)) (.int 0)
        have a2 := dp_t3 (K := K) (SqT.of (e4 _ _ h4)) (.str _) (dp_keep (Same.tk (sA.trans s10)) hve te) (dpi (j := k + (xs.length : Int) + 1 + 1 + ((blCode x (k + (xs.length : Int) + 1 + 1)).length : Int) + 1) (by rw [blCode_len]; omega))
        have a3 := dp_t3 (K := K) (SqT.of (e8 _ _ h8)) (.str _) (.int (k + (xs.length : Int) + 1)) (.int 1)
        have k2 := dpAll_keep (Same.tk (s3.trans e3)) hx1 (blCode_tup hN hP m x _ hx)
        have ei : k + (xs.length : Int) + 2 = k + (xs.length : Int) + 1 + 1 := by omega
        rw [ei] at k2
        simp only [St.code]
        simp only [List.append_assoc, List.cons_append, List.nil_append]
        exact dpAll_app k1 (.cons a1 (.cons a2 (dpAll_app k2 (.cons a3 .nil))))
      | rep e x =>
        simp only [St.D, PyData.tuple.injEq, List.cons.injEq, PyData.str.injEq] at hD
        obtain ⟨rfl, rfl⟩ := hD
        obtain ⟨he, m, rfl, hx⟩ := oks
        simp only [St.sz] at this hsz1
        obtain ⟨ve, va, rfl, hve, hva⟩ : ∃ ve va, zs = [ve, va] ∧ Dp K H1 ve e.D ∧ Dp K H1 va (bD x) := by
          rw [blD_map] at hzs
          cases hzs with
          | cons a1 z => cases z with
            | cons a2 z => cases z; exact ⟨_, _, rfl, a1, a2⟩
        have te := Ex.tup hN he
        have tx := bD_tup hN hP hx
        refine ⟨_, rfl, rfl, _, rfl, iteF ⟨_, rfl, rfl, _, rfl, iteF ⟨_, rfl, rfl, _, rfl, iteT ?_⟩⟩⟩
        refine ⟨_, rfl, t, _, _, _, rfl, rfl, hS2, atI_nat (j := 2) rfl, _, rfl, _, _, rfl, rfl, va, _, x, names, procs, rfl, hva, hN, hP, hx, by omega, fun H2 p1 xs1 s2 np1 hp1 hx1 => ?_⟩
        have z1 := dpAll_len hx1
        rw [blCode_len] at z1
        refine ⟨_, rfl, _, rfl, t, _, _, _, rfl, rfl, Same.sqt s2 hS2, atI_nat (j := 1) rfl, small (by show 2 ≤ 5000; decide), fun t1 nt1 => ?_⟩
        have s3 := same_new (o := HO.tup [.str "begin", ve]) nt1
        have h3 : (upd H2 t1 (HO.tup [.str "begin", ve])) t1 = some (HO.tup [.str "begin", ve]) := upd_same
        generalize upd H2 t1 (HO.tup [.str "begin", ve]) = H3 at s3 h3 ⊢
        refine ⟨_, rfl, _, rfl, p1, _, rfl, .inl (SqL.of (s3 _ _ hp1)), _, _, rfl, rfl, _, _, rfl, rfl, small (by show 2 ≤ 5000; decide), fun t2 nt2 => ?_⟩
        have s4 := same_new (o := HO.tup [.str "turn", .int (k + (xs.length : Int) + (xs1.length : Int) + 3)]) nt2
        have h4 : (upd H3 t2 (HO.tup [.str "turn", .int (k + (xs.length : Int) + (xs1.length : Int) + 3)])) t2 = some (HO.tup [.str "turn", .int (k + (xs.length : Int) + (xs1.length : Int) + 3)]) := upd_same
        generalize upd H3 t2 (HO.tup [.str "turn", .int (k + (xs.length : Int) + (xs1.length : Int) + 3)]) = H4 at s4 h4 ⊢
        refine ⟨small (by show 2 ≤ 5000; decide), fun l1 nl1 => ?_⟩
        have s5 := same_new (o := HO.lst [.ref t1, .ref t2]) nl1
        have h5 : (upd H4 l1 (HO.lst [.ref t1, .ref t2])) l1 = some (HO.lst [.ref t1, .ref t2]) := upd_same
        generalize upd H4 l1 (HO.lst [.ref t1, .ref t2]) = H5 at s5 h5 ⊢
        have s15 := s2.trans (s3.trans (s4.trans s5))
        refine ⟨c, l1, xs, _, rfl, rfl, s15 _ _ hc, h5, small (by show xs.length + 2 ≤ 5000; omega), fun c1 nc1 => ?_⟩
        have s6 := same_new (o := HO.lst (xs ++ [.ref t1, .ref t2])) nc1
        have h6 : (upd H5 c1 (HO.lst (xs ++ [.ref t1, .ref t2]))) c1 = some (HO.lst (xs ++ [.ref t1, .ref t2])) := upd_same
        generalize upd H5 c1 (HO.lst (xs ++ [.ref t1, .ref t2])) = H6 at s6 h6 ⊢
        have hp16 := s6 _ _ (s5 _ _ (s4 _ _ (s3 _ _ hp1)))
        refine ⟨_, rfl, c1, p1, _, _, rfl, rfl, h6, hp16, small (by rw [List.length_append]; show xs.length + 2 + xs1.length ≤ 5000; omega), fun c2 nc2 => ?_⟩
        have s7 := same_new (o := HO.lst (xs ++ [.ref t1, .ref t2] ++ xs1)) nc2
        have h7 : (upd H6 c2 (HO.lst (xs ++ [.ref t1, .ref t2] ++ xs1))) c2 = some (HO.lst (xs ++ [.ref t1, .ref t2] ++ xs1)) := upd_same
        generalize upd H6 c2 (HO.lst (xs ++ [.ref t1, .ref t2] ++ xs1)) = H7 at s7 h7 ⊢
        refine ⟨_, rfl, _, _, rfl, rfl, small (by show 2 ≤ 5000; decide), fun t3 nt3 => ?_⟩
        have s8 := same_new (o := HO.tup [.str "again", .int (k + (xs.length : Int) + 1)]) nt3
        have h8 : (upd H7 t3 (HO.tup [.str "again", .int (k + (xs.length : Int) + 1)])) t3 = some (HO.tup [.str "again", .int (k + (xs.length : Int) + 1)]) := upd_same
        generalize upd H7 t3 (HO.tup [.str "again", .int (k + (xs.length : Int) + 1)]) = H8 at s8 h8 ⊢
        refine ⟨small (by show 1 ≤ 5000; decide), fun l2 nl2 => ?_⟩
        have s9 := same_new (o := HO.lst [.ref t3]) nl2
        have h9 : (upd H8 l2 (HO.lst [.ref t3])) l2 = some (HO.lst [.ref t3]) := upd_same
        generalize upd H8 l2 (HO.lst [.ref t3]) = H9 at s9 h9 ⊢
        refine ⟨c2, l2, _, _, rfl, rfl, s9 _ _ (s8 _ _ h7), h9, small (by rw [List.length_append, List.length_append]; show xs.length + 2 + xs1.length + 1 ≤ 5000; omega), fun c3 nc3 => ?_⟩
        have s10 := same_new (o := HO.lst (xs ++ [.ref t1, .ref t2] ++ xs1 ++ [.ref t3])) nc3
        have h10 : (upd H9 c3 (HO.lst (xs ++ [.ref t1, .ref t2] ++ xs1 ++ [.ref t3]))) c3 = some (HO.lst (xs ++ [.ref t1, .ref t2] ++ xs1 ++ [.ref t3])) := upd_same
        generalize upd H9 c3 (HO.lst (xs ++ [.ref t1, .ref t2] ++ xs1 ++ [.ref t3])) = H10 at s10 h10 ⊢
        have sA : Same H1 H9 := (s15.trans s6).trans ((s7.trans s8).trans s9)
        have sB : Same H H9 := s1.trans sA
        refine fin _ _ _ _ _ _ _ _ (sB.trans s10) (sB.free nc3) h10 ?_
        have k1 := dpAll_keep (Same.tk (sA.trans s10)) hxs tb
        have e8 : Same H8 H10 := s9.trans s10
        have e4 : Same H4 H10 := (s5.trans s6).trans ((s7.trans s8).trans e8)
        have e3 : Same H3 H10 := s4.trans e4
        have a1 := dp_t2 (K := K) (SqT.of (e3 _ _ h3)) (.str _) (dp_keep (Same.tk (sA.trans s10)) hve te)
        have a2 := dp_t2 (K := K) (SqT.of (e4 _ _ h4)) (.str _) (dpi (j := k + (xs.length : Int) + 1 + 1 + ((blCode x (k + (xs.length : Int) + 1 + 1)).length : Int) + 1) (by rw [blCode_len]; omega))
        have a3 := dp_t2 (K := K) (SqT.of (e8 _ _ h8)) (.str _) (.int (k + (xs.length : Int) + 1))
        have k2 := dpAll_keep (Same.tk (s3.trans e3)) hx1 (blCode_tup hN hP m x _ hx)
        have ei : k + (xs.length : Int) + 2 = k + (xs.length : Int) + 1 + 1 := by omega
        rw [ei] at k2
        simp only [St.code]
        simp only [List.append_assoc, List.cons_append, List.nil_append]
        exact dpAll_app k1 (.cons a1 (.cons a2 (dpAll_app k2 (.cons a3 .nil))))
    · rintro σ H1 ⟨s1, c, xs, y3, y4, y5, y6, y7, y8, y9, y10, rfl, nc, hc, hxs⟩
      rw [yl, List.take_length] at hxs
      exact ⟨_, rfl, q _ c xs s1 nc hc hxs⟩
theorem ok_law_codes (T : LwF K mg) : ∀ n : Nat, FnOk P w K mg base CX0 (n + 1) T.f__law_code_of T.fd__law_code_of ["_law_block_here", "_law_start"] (sp_block_code K n)
  | 0 => FnOk.none
  | n + 1 => ok__law_code_of T (ok_law_codes T n)
end
end Sp1

set_option Elab.async false
set_option linter.all false
set_option maxRecDepth 100000
set_option maxHeartbeats 8000000
namespace Pg
open PySem
def Pt.small (p : Pt) : Bool := decide (p.code.length ≤ 120) && decide ((p.code.filter isCall).length ≤ 8)
theorem Pt.small_iff {p : Pt} : p.small = true ↔ p.Small := by
  unfold Pt.small
  rw [Bool.and_eq_true, decide_eq_true_eq, decide_eq_true_eq]
  exact ⟨fun h => ⟨h.1, h.2⟩, fun h => ⟨h.1, h.2⟩⟩
theorem Pt.Fine.tup {p : Pt} (f : p.Fine) : tupD p.D = true := by
  have h1 := strsD_tup (xs := p.given) fun x hx => f.N x (List.mem_append_left _ hx)
  have h2 := strsD_tup (xs := p.vars) fun x hx => f.N x (List.mem_append_right _ hx)
  unfold Pt.D
  rw [tupD_tuple, tupAll, tupAll, tupAll, tupAll, tupAll, strsD, strsD, h1, h2, prsD_tup f.N f.prs, bD_tup f.N f.prs.N f.mn]
  rfl
theorem Pt.Fine.len {p : Pt} (f : p.Fine) : p.code.length ≤ 1001 + 6 * 1001 := by
  have h1 := f.msz
  have h2 : prsSz p.ps ≤ 6 * 1001 := Nat.le_trans (prsSz_le fun q hq => (f.prs.bl q hq).2) (Nat.mul_le_mul_right _ f.prs.len)
  unfold Pt.code
  rw [pgCode_len]
  omega
/-- without the last statement of main -/
def Pt.cut (p : Pt) : Pt := { p with m := p.m.take (p.m.length - 1) }
theorem Pt.Fine.cut {p : Pt} (f : p.Fine) : p.cut.Fine :=
  ⟨f.N, f.nd, f.l1, f.l4, f.prs, blOk_iff.mpr fun t ht => blOk_iff.mp f.mn t (List.mem_of_mem_take ht), Nat.le_trans (blSz_take _ _) f.msz⟩
/-- with nothing to do -/
def Pt.bare (p : Pt) : Pt := { p with ps := [], m := [] }
theorem Pt.Fine.bare {p : Pt} (f : p.Fine) : p.bare.Fine :=
  ⟨f.N, f.nd, f.l1, f.l4, ⟨(fun x hx => by cases hx), List.Pairwise.nil, Nat.zero_le _, (fun q hq => by cases hq)⟩, trivial, Nat.zero_le _⟩
theorem Pt.bare_small (p : Pt) : p.bare.Small := by
  have : p.bare.code = [stopD] := rfl
  refine ⟨by rw [this]; decide, ?_⟩
  rw [this]
  have : [stopD].filter isCall = [] := by decide +kernel
  rw [this]
  decide
end Pg
namespace Sp1
open PySem PySem.Spec PyProof.Rows L2 Pg
theorem putK_len (kvs : List (Key × V)) (k : Key) (v : V) : (putK kvs k v).length ≤ kvs.length + 1 := by
  unfold putK
  split
  · rw [List.length_map]
    omega
  · rw [List.length_append]
    exact Nat.le_refl _
section
variable {P : Program} {w : World} {K : PySem.W.Frag} {mg : Str → Option Value} {base : Heap}
theorem dp_pt {H : Hp} {v : V} {p : Pt} (h : Dp K H v p.D) : ∃ a g vv q m, v = .ref a ∧ SqT K H a [g, vv, q, m] ∧ PvAt K H g vv q m p := by
  obtain ⟨a, x1, x2, x3, x4, rfl, hS, h1, h2, h3, h4⟩ := dp_tup4 h
  exact ⟨a, x1, x2, x3, x4, rfl, hS, ⟨ts_of_dp h1, ts_of_dp h2, h3, h4⟩⟩
theorem pt_dp {H : Hp} {a : Addr} {g vv q m : V} {p : Pt} (hS : SqT K H a [g, vv, q, m]) (h : PvAt K H g vv q m p) : Dp K H (.ref a) p.D := .tup hS (.cons h.g.dp (.cons h.v.dp (.cons h.q (.cons h.m .nil))))
def sp_lcompiled (K : PySem.W.Frag) : Sp := fun vs H Q _ => ∃ (v : V) (p : Pt), vs = [v] ∧ Dp K H v p.D ∧ p.Fine ∧ ∀ H' t c d xs, Same H H' → SqT K H' t [.ref c, .ref d] → H' c = some (.lst xs) → DpAll K H' xs p.code → H d = none → H' d = some (.dK (p.ent.map entD)) → Q (.ref t) H'
theorem ok__law_compiled (T : LwF K mg) : FnOk P w K mg base CX0 10 T.f__law_compiled T.fd__law_compiled ["_law_parts_here"] (sp_lcompiled K) := by
  refine T.D__law_compiled.F.ok sc_l_compiled (fun vs H Q E h => ?_) (fun cdv A outer s H vs Q E hr h => ?_)
  · obtain ⟨v, p, rfl, _⟩ := h
    rfl
  · obtain ⟨v, p, rfl, hd, f, q⟩ := h
    have nd := sc_l_compiled.nd
    obtain ⟨a, gv, vv, qv, mv, rfl, hS, hP⟩ := dp_pt hd
    have hmsz := f.msz
    have hN := f.N
    have ok := f.prs
    have okm := f.mn
    have h6 := ok.len
    obtain ⟨b, ys, rfl, hS1, hA⟩ := dp_tup hP.q
    have yl : ys.length = p.ps.length := by rw [dpAll_len hA, List.length_map]
    have hps : prsSz p.ps ≤ 6 * 1001 := Nat.le_trans (prsSz_le fun p hp => (ok.bl p hp).2) (Nat.mul_le_mul_right _ h6)
    refine ⟨_, (pss_cons (ps_par (i := 1) (j := 2) rfl nd rfl rfl (by decide) rfl rfl (pa_cons (pe_op op_cat (pe_call ((ok_law_codes T 8).mono (by decide)) hr (by rfl) T.D__law_code_of.g T.D__law_code_of.kp T.D__law_code_of.b .nil pass0 (pa_cons (pe_ix (r := rIxT K) ix_tup (pv 0) pe_int (fun _ _ => rfl)) (pa_cons pe_int pa_nil))) (pe_lst (pa_cons (pe_tup (pa_cons pe_str pa_nil)) pa_nil))) (pa_cons pe_dnewK pa_nil)) rfl)
      (pss_cons (ps_for PassesOwn.never rfl (pi_tup (pe_ix (r := rIxT K) ix_tup (pv 0) pe_int (fun _ _ => rfl))) (pg_tup rfl (pgs_cons (pg_name (i := 3) nd rfl (.inl rfl)) (pgs_cons (pg_name (i := 4) nd rfl (.inl rfl)) pgs_nil)))
      (pss_cons (ps_dput (hu_of hr) (pv 2) (pv 3) (pe_callB call_len_seq (by rfl) T.m_len PySem.boot_len (pa_cons (pv 1) pa_nil)) rfl)
        (pss_one (ps_set (i := 1) nd rfl (.inl rfl) (pe_op op_cat (pe_op op_cat (pv 1) (pe_call ((ok_law_codes T 8).mono (by decide)) hr (by rfl) T.D__law_code_of.g T.D__law_code_of.kp T.D__law_code_of.b .nil pass0 (pa_cons (pv 4) (pa_cons (pe_callB call_len_seq (by rfl) T.m_len PySem.boot_len (pa_cons (pv 1) pa_nil)) pa_nil)))) (pe_lst (pa_cons (pe_tup (pa_cons pe_str pa_nil)) pa_nil)))))))
      (pss_one (ps_ret (pe_tup (pa_cons (pv 1) (pa_cons (pv 2) pa_nil))))))), ?_⟩
    refine ⟨_, rfl, a, _, _, _, rfl, rfl, hS, atI_nat (j := 3) rfl, mv, 0, p.m, p.names, p.ps.map (·.1), rfl, hP.m, hN, ok.N, okm, hmsz, fun H1 c0 xs0 s1 nc0 hc0 hx0 => ?_⟩
    have l0 := dpAll_len hx0
    rw [blCode_len] at l0
    refine ⟨small (by show 1 ≤ 5000; decide), fun ta nta => ?_⟩
    have s2 := same_new (o := HO.tup [.str "stop"]) nta
    have h2 : (upd H1 ta (HO.tup [.str "stop"])) ta = some (HO.tup [.str "stop"]) := upd_same
    generalize upd H1 ta (HO.tup [.str "stop"]) = H2 at s2 h2 ⊢
    refine ⟨small (by show 1 ≤ 5000; decide), fun la nla => ?_⟩
    have s3 := same_new (o := HO.lst [.ref ta]) nla
    have h3 : (upd H2 la (HO.lst [.ref ta])) la = some (HO.lst [.ref ta]) := upd_same
    generalize upd H2 la (HO.lst [.ref ta]) = H3 at s3 h3 ⊢
    have hc3 := s3 _ _ (s2 _ _ hc0)
    refine ⟨c0, la, _, _, rfl, rfl, hc3, h3, small (by show xs0.length + 1 ≤ 5000; omega), fun c nc => ?_⟩
    have s4 := same_new (o := HO.lst (xs0 ++ [.ref ta])) nc
    have h4 : (upd H3 c (HO.lst (xs0 ++ [.ref ta]))) c = some (HO.lst (xs0 ++ [.ref ta])) := upd_same
    generalize upd H3 c (HO.lst (xs0 ++ [.ref ta])) = H4 at s4 h4 ⊢
    have s14 := ((s1.trans s2).trans s3).trans s4
    refine fun d nd' => ?_
    have s5 := same_new (o := .dK []) nd'
    have hd5 : (upd H4 d (.dK [])) d = some (.dK []) := upd_same
    have s05 := s14.trans s5
    have ndH : H d = none := s14.free nd'
    have hcd : c ≠ d := ne_of_none h4 nd'
    have hc5 := s5 _ _ h4
    have hx5 : DpAll K (upd H4 d (.dK [])) (xs0 ++ [.ref ta]) (pgCode p.m []) := by
      have k1 := dpAll_keep (Same.tk (((s2.trans s3).trans s4).trans s5)) hx0 (blCode_tup hN ok.N 7 p.m 0 okm)
      exact dpAll_app k1 (.cons (.tup (SqT.of (((s3.trans s4).trans s5) _ _ h2)) (.cons (.str _) .nil)) .nil)
    generalize upd H4 d (.dK []) = H5 at s05 hd5 hc5 hx5 ⊢
    refine ⟨_, _, rfl, ?_⟩
    refine ⟨_, rfl, a, _, _, _, rfl, rfl, Same.sqt s05 hS, atI_nat (j := 2) rfl, b, rfl, ⟨_, Same.sqt s05 hS1⟩, for_tup (K := K) (a := b) (xs := ys)
      (fun i σ H' => Same H H' ∧ ∃ c xs y3 y4, σ = [some (.ref a), some (.ref c), some (.ref d), y3, y4] ∧ c ≠ d ∧ H' c = some (.lst xs) ∧ DpAll K H' xs (pgCode p.m (p.ps.take i)) ∧ H' d = some (.dK ((pgEnt p.m (p.ps.take i)).map entD)))
      ⟨s05, c, _, none, none, rfl, hcd, hc5, hx5, hd5⟩ (fun i σ H' _ h => Same.sqt h.1 hS1) ?_ ?_⟩
    · rintro i x σ H6 hx ⟨s6, c, xs, y3, y4, rfl, hcd, hc6, hx6, hd6⟩
      obtain ⟨d', hd', hdp⟩ := dpAll_at hA hx
      rw [List.getElem?_map] at hd'
      obtain ⟨pr, hp, rfl⟩ := Option.map_eq_some_iff.mp hd'
      have hi := (List.getElem?_eq_some_iff.mp hp).1
      have hpm := List.mem_of_getElem? hp
      have htk : p.ps.take (i + 1) = p.ps.take i ++ [pr] := by rw [List.take_add_one, hp]; rfl
      have xl := dpAll_len hx6
      rw [pgCode_len] at xl
      have okt : ∀ q ∈ p.ps.take i, blOk p.names (p.ps.map (·.1)) 7 q.2 := fun q hq => (ok.bl q (List.mem_of_mem_take hq)).1
      have hti : prsSz (p.ps.take i) ≤ 6 * 1001 := Nat.le_trans (prsSz_le fun q hq => (ok.bl q (List.mem_of_mem_take hq)).2) (Nat.mul_le_mul_right _ (by rw [List.length_take]; omega))
      have hb1000 := (ok.bl pr hpm).2
      have tp : tupAll (pgCode p.m (p.ps.take i)) = true := by
        simp only [pgCode, tupAll_app, tupAll, stop_tup, blCode_tup hN ok.N 7 p.m 0 okm, prsCode_tup hN ok.N _ _ okt]
        rfl
      obtain ⟨e, y, rfl, he, hy⟩ := dp_prD (dp_keep (Same.tk s6) hdp (prD_tup hN ok hpm))
      refine ⟨e, _, rfl, he, rfl, _, _, rfl, _, _, rfl, rfl, ?_⟩
      refine ⟨_, rfl, c, xs, rfl, .inl (SqL.of hc6), _, rfl, _, rfl, d, _, rfl, DPut.k (k := Sum.inr pr.1) hd6 (by rw [List.length_map, sizeLine_eq, pgEnt, ← List.length_map (f := (·.1)), prsEnt_names, List.length_map, List.length_take]; omega), ?_⟩
      have fresh : pr.1 ∉ (pgEnt p.m (p.ps.take i)).map (·.1) := by
        rw [pgEnt, prsEnt_names]
        intro z
        obtain ⟨j, hj, e⟩ := List.mem_iff_getElem.mp z
        rw [List.length_map, List.length_take] at hj
        rw [List.getElem_map, List.getElem_take] at e
        obtain ⟨hi', e2⟩ := List.getElem?_eq_some_iff.mp hp
        have := List.pairwise_iff_getElem.mp ok.nd j i (by rw [List.length_map]; omega) (by rw [List.length_map]; omega) (by omega)
        rw [List.getElem_map, List.getElem_map, e, e2] at this
        exact this rfl
      rw [ent_put fresh]
      have tk7 : TK H6 (upd H6 d (.dK ((pgEnt p.m (p.ps.take i) ++ [(pr.1, (xs.length : Int))]).map entD))) := tk_dk hd6
      have s7 : Same H (upd H6 d (.dK ((pgEnt p.m (p.ps.take i) ++ [(pr.1, (xs.length : Int))]).map entD))) := same_at ndH s6
      have hc7 : (upd H6 d (.dK ((pgEnt p.m (p.ps.take i) ++ [(pr.1, (xs.length : Int))]).map entD))) c = some (.lst xs) := by rw [upd_ne hcd]; exact hc6
      have hd7 : (upd H6 d (.dK ((pgEnt p.m (p.ps.take i) ++ [(pr.1, (xs.length : Int))]).map entD))) d = some (.dK ((pgEnt p.m (p.ps.take i) ++ [(pr.1, (xs.length : Int))]).map entD)) := upd_same
      generalize upd H6 d (.dK ((pgEnt p.m (p.ps.take i) ++ [(pr.1, (xs.length : Int))]).map entD)) = H7 at tk7 s7 hc7 hd7 ⊢
      refine ⟨_, rfl, _, rfl, _, rfl, c, xs, rfl, .inl (SqL.of hc7), y, (xs.length : Int), pr.2, p.names, p.ps.map (·.1), rfl, dp_keep tk7 hy (bD_tup hN ok.N (ok.bl pr hpm).1), hN, ok.N, (ok.bl pr hpm).1, hb1000, fun H8 c1 zs s8 nc1 hc1 hz => ?_⟩
      have zl := dpAll_len hz
      rw [blCode_len] at zl
      refine ⟨c, c1, _, _, rfl, rfl, s8 _ _ hc7, hc1, by rw [sizeLine_eq]; omega, fun c2 nc2 => ?_⟩
      have s9 := same_new (o := HO.lst (xs ++ zs)) nc2
      have h9 : (upd H8 c2 (HO.lst (xs ++ zs))) c2 = some (HO.lst (xs ++ zs)) := upd_same
      generalize upd H8 c2 (HO.lst (xs ++ zs)) = H9 at s9 h9 ⊢
      refine ⟨small (by show 1 ≤ 5000; decide), fun tb ntb => ?_⟩
      have s10 := same_new (o := HO.tup [.str "return"]) ntb
      have h10 : (upd H9 tb (HO.tup [.str "return"])) tb = some (HO.tup [.str "return"]) := upd_same
      generalize upd H9 tb (HO.tup [.str "return"]) = H10 at s10 h10 ⊢
      refine ⟨small (by show 1 ≤ 5000; decide), fun lb nlb => ?_⟩
      have s11 := same_new (o := HO.lst [.ref tb]) nlb
      have h11 : (upd H10 lb (HO.lst [.ref tb])) lb = some (HO.lst [.ref tb]) := upd_same
      generalize upd H10 lb (HO.lst [.ref tb]) = H11 at s11 h11 ⊢
      refine ⟨c2, lb, _, _, rfl, rfl, s11 _ _ (s10 _ _ h9), h11, by rw [List.length_append, sizeLine_eq]; show _ + 1 ≤ _; omega, fun c3 nc3 => ?_⟩
      have s12 := same_new (o := HO.lst (xs ++ zs ++ [.ref tb])) nc3
      have h12 : (upd H11 c3 (HO.lst (xs ++ zs ++ [.ref tb]))) c3 = some (HO.lst (xs ++ zs ++ [.ref tb])) := upd_same
      generalize upd H11 c3 (HO.lst (xs ++ zs ++ [.ref tb])) = H12 at s12 h12 ⊢
      have s812 := (((s9.trans s10).trans s11).trans s12)
      have hd11 := s11 _ _ (s10 _ _ (s9 _ _ (s8 _ _ hd7)))
      have hcd3 : c3 ≠ d := (ne_of_none hd11 nc3).symm
      have e1 : (xs.length : Int) = (blSz p.m : Int) + 1 + (prsSz (p.ps.take i) : Int) := by rw [xl]; push_cast; omega
      refine ⟨(s7.trans s8).trans s812, c3, _, _, _, rfl, hcd3, h12, ?_, ?_⟩
      rotate_left
      · have e2 : pgEnt p.m (p.ps.take (i + 1)) = pgEnt p.m (p.ps.take i) ++ [(pr.1, (xs.length : Int))] := by
          rw [htk, e1]
          simp only [pgEnt, prsEnt_snoc]
        rw [e2]
        exact s12 _ _ hd11
      have k1 := dpAll_keep (tk7.trans (Same.tk (s8.trans s812))) hx6 tp
      have k2 := dpAll_keep (Same.tk s812) hz (blCode_tup hN ok.N 7 pr.2 _ (ok.bl pr hpm).1)
      have k3 : Dp K H12 (.ref tb) retD := .tup (SqT.of ((s11.trans s12) _ _ h10)) (.cons (.str _) .nil)
      have e2 : pgCode p.m (p.ps.take (i + 1)) = pgCode p.m (p.ps.take i) ++ blCode pr.2 (xs.length : Int) ++ [retD] := by
        rw [htk, e1]
        simp only [pgCode, prsCode_snoc, List.append_assoc, List.cons_append]
      rw [e2]
      exact dpAll_snoc (dpAll_app k1 k2) k3
    · rintro σ H6 ⟨s6, c, xs, y3, y4, rfl, hcd, hc6, hx6, hd6⟩
      rw [yl, List.take_length] at hx6 hd6
      refine ⟨_, rfl, _, rfl, small (by show 2 ≤ 5000; decide), fun t nt => ?_⟩
      have s7 := same_new (o := .tup [.ref c, .ref d]) nt
      exact q _ t c d xs (s6.trans s7) (SqT.of upd_same) (s7 _ _ hc6) (dpAll_keep (Same.tk s7) hx6 (pgCode_tup hN ok okm)) ndH (s7 _ _ hd6)
end
end Sp1

set_option Elab.async false
set_option linter.all false
set_option maxRecDepth 100000
set_option maxHeartbeats 8000000
namespace Sp1
open PySem PySem.Spec PyProof.Rows L2 Pg
section
variable {P : Program} {w : World} {K : PySem.W.Frag} {mg : Str → Option Value} {base : Heap}
theorem dpAll_take {H : Hp} : ∀ {vs : List V} {ds : List PyData}, DpAll K H vs ds → ∀ n : Nat, DpAll K H (vs.take n) (ds.take n)
  | _, _, .nil, n => by rw [List.take_nil, List.take_nil]; exact .nil
  | _, _, .cons h1 h2, 0 => .nil
  | _, _, .cons h1 h2, n + 1 => .cons h1 (dpAll_take h2 n)
def sp_lsmall (K : PySem.W.Frag) : Sp := fun vs H Q _ => ∃ (v : V) (p : Pt), vs = [v] ∧ Dp K H v p.D ∧ p.Fine ∧ ∀ H', Same H H' → Q (.bl p.small) H'
theorem ok__law_is_small (T : LwF K mg) : FnOk P w K mg base CX0 11 T.f__law_is_small T.fd__law_is_small ["_law_parts_here"] (sp_lsmall K) := by
  refine T.D__law_is_small.F.ok sc_l_is_small (fun vs H Q E h => ?_) (fun cdv A outer s H vs Q E hr h => ?_)
  · obtain ⟨v, p, rfl, _⟩ := h
    rfl
  · obtain ⟨v, p, rfl, hd, f, q⟩ := h
    have nd := sc_l_is_small.nd
    have hlen := f.len
    refine ⟨_, (pss_cons (ps_set (i := 1) nd rfl (.inl rfl) (pe_ix (r := rIxT K) ix_tup (pe_call ((ok__law_compiled T).mono (by decide)) hr (by rfl) T.D__law_compiled.g T.D__law_compiled.kp T.D__law_compiled.b .nil pass0 (pa_cons (pv 0) pa_nil)) pe_int (fun _ _ => rfl)))
      (pss_one (ps_ret (pe_and (pe_cmpR op_le (pe_callB call_len_seq (by rfl) T.m_len PySem.boot_len (pa_cons (pv 1) pa_nil)) pe_int (nomark _)) (pe_one (pe_cmpR op_le (pe_callB call_len_seq (by rfl) T.m_len PySem.boot_len (pa_cons (pe_lc (own := [("_law_one", 2)]) (g := (gName 2)) rfl nd (pi_list (pv 1)) (blkOk_by (N := N_l_is_small) (sc := defScope s_l_is_small) (by decide +kernel)) (fun _ _ _ _ _ => (pg_name (i := 2) nd rfl (.inl rfl))) (fun _ _ _ _ _ => (pts_one (pt_cmpR op_eq (pe_ix (r := rIxT K) ix_tup (pv 2) pe_int (fun _ _ => rfl)) pe_str (nomark _)))) (fun _ _ _ _ _ => (pv 2))) pa_nil)) pe_int (nomark _))))))), ?_⟩
    refine ⟨_, rfl, v, p, rfl, hd, f, fun H1 t c d xs s1 ht hc hxs _ _ => ?_⟩
    have xl := dpAll_len hxs
    refine ⟨t, _, _, _, rfl, rfl, ht, atI_nat (j := 0) rfl, ?_⟩
    unfold Pt.small at q
    refine ⟨_, rfl, c, _, rfl, .inl (SqL.of hc), _, _, rfl, rfl, _, rfl, ite2 (fun e => ?_) (fun e => ?_)⟩
    · have e := of_decide_eq_true e
      have h120 : p.code.length ≤ 120 := by omega
      rw [decide_eq_true h120, Bool.true_and] at q
      refine ⟨_, rfl, c, rfl, ⟨_, SqL.of hc⟩, fun D nD => ?_⟩
      refine lc_it (walk_list (K := K) (a := c) (xs := xs)) (fun i H' => Same H1 H' ∧ ∃ acc, H' D = some (.lst acc) ∧ acc.length = ((p.code.take i).filter isCall).length) ⟨same_new nD, [], upd_same, rfl⟩ (fun i H' _ h' => SqL.of (h'.1 _ _ hc)) ?_ ?_
      · rintro i v H3 H4 hi ⟨s3, acc, hacc, hl⟩ ⟨rfl, hv⟩
        obtain ⟨d', hd', hdp⟩ := dpAll_at hxs hv
        have hm := List.mem_of_getElem? hd'
        obtain ⟨x, r, rfl⟩ := pgCode_instr p.m p.ps _ hm
        obtain ⟨b, zs, rfl, hb, hz⟩ := dp_tup (dp_keep (Same.tk s3) hdp (tupAll_iff.mp (code_tupD f) _ hm))
        obtain ⟨zs, rfl⟩ : ∃ r, zs = .str x :: r := by
          cases hz with
          | cons h1 h2 =>
            obtain rfl := dp_str h1
            exact ⟨_, rfl⟩
        have htk : p.code.take (i + 1) = p.code.take i ++ [.tuple (.str x :: r)] := by rw [List.take_add_one, hd']; rfl
        have hle : ((p.code.take i).filter isCall).length ≤ 120 := Nat.le_trans (List.length_filter_le _ _) (by rw [List.length_take]; omega)
        refine ⟨rfl, ?_⟩
        refine ⟨_, rfl, b, _, _, _, rfl, rfl, hb, atI_nat (j := 0) rfl, rfl, _, rfl, ?_⟩
        have hw : decide (V.str x = V.str "call") = decide (x = "call") := decide_eq_decide.mpr ⟨fun z => V.str.inj z, fun z => by rw [z]⟩
        rw [htk, List.filter_append, List.length_append]
        refine ite2 (fun e => ?_) (fun e => ?_)
        · rw [hw] at e
          refine ⟨_, rfl, acc, hacc, by rw [sizeLine_eq]; omega, same_at nD s3, _, upd_same, ?_⟩
          have : ([PyData.tuple (.str x :: r)].filter isCall).length = 1 := by
            simp [List.filter, isCall, e]
          rw [this, List.length_append, hl]
          rfl
        · rw [hw] at e
          refine ⟨s3, acc, hacc, ?_⟩
          have : ([PyData.tuple (.str x :: r)].filter isCall).length = 0 := by
            simp [List.filter, isCall, e]
          rw [this, hl]
          rfl
      · rintro H3 ⟨s3, acc, hacc, hl⟩
        rw [xl, List.take_length] at hl
        refine ⟨D, _, rfl, .inl (SqL.of hacc), _, _, rfl, rfl, ?_⟩
        have e2 : decide ((acc.length : Int) ≤ 8) = decide ((p.code.filter isCall).length ≤ 8) := decide_eq_decide.mpr (by rw [hl]; omega)
        show Q (V.bl (decide ((acc.length : Int) ≤ 8))) H3
        rw [e2]
        exact q _ (s1.trans s3)
    · have e : ¬ ((xs.length : Int) ≤ 120) := fun z => e (decide_eq_true z)
      have h120 : ¬ p.code.length ≤ 120 := by
        have xl' : xs.length = p.code.length := xl
        omega
      rw [decide_eq_false h120, Bool.false_and] at q
      exact q _ s1
def sp_ldrawn (K : PySem.W.Frag) : Sp := fun vs H Q _ => ∃ (p : Addr), vs = [.ref p] ∧ PoolAt H p ∧ ∀ (v : V) (H' : Hp) (pt : Pt), SX p H H' → PoolAt H' p → Dp K H' v pt.D → pt.Fine → pt.Small → pt.Src → Q v H'
theorem cut_last (xs : List V) : cutV xs none (some (-1)) = xs.take (xs.length - 1) := by
  show (xs.drop 0).take (HT.sIx xs.length xs.length (some (-1)) - 0) = _
  have : HT.sIx xs.length xs.length (some (-1)) = xs.length - 1 := by
    show (if (-1 : Int) < 0 then ((-1 : Int) + (xs.length : Int)).toNat else min (-1 : Int).toNat xs.length) = _
    rw [if_pos (by decide)]
    omega
  rw [this, List.drop_zero]
  rfl
theorem ok__law_drawn (T : LwF K mg) : FnOk P w K mg base CX0 14 T.f__law_drawn T.fd__law_drawn ["_law_stream_here"] (sp_ldrawn K) := by
  refine T.D__law_drawn.F.ok sc_l_drawn (fun vs H Q E h => ?_) (fun cdv A outer s H vs Q E hr h => ?_)
  · obtain ⟨p, rfl, _⟩ := h
    rfl
  · obtain ⟨p, rfl, hp, q⟩ := h
    have nd := sc_l_drawn.nd
    refine ⟨_, (pss_cons (ps_set (i := 1) nd rfl (.inl rfl) (pe_call ((ok__law_parts T).mono (by decide)) hr (by rfl) T.D__law_parts.g T.D__law_parts.kp T.D__law_parts.b .nil pass0 (pa_cons (pv 0) pa_nil)))
      (pss_cons (ps_for PassesOwn.never rfl (pi_range1 (by rfl) T.m_range (pa_cons pe_int pa_nil)) (pg_name (i := 2) nd rfl (.inl rfl))
      (pss_cons (ps_if (pt_val (pe_call ((ok__law_is_small T).mono (by decide)) hr (by rfl) T.D__law_is_small.g T.D__law_is_small.kp T.D__law_is_small.b .nil pass0 (pa_cons (pv 1) pa_nil)))
        (pss_one (ps_ret (pv 1)))
        pss_nil)
        (pss_one (ps_set (i := 1) nd rfl (.inl rfl) (pe_tup (pa_cons (pe_ix (r := rIxT K) ix_tup (pv 1) pe_int (fun _ _ => rfl)) (pa_cons (pe_ix (r := rIxT K) ix_tup (pv 1) pe_int (fun _ _ => rfl)) (pa_cons (pe_ix (r := rIxT K) ix_tup (pv 1) pe_int (fun _ _ => rfl)) (pa_cons (pe_slice sl_tupA (pe_ix (r := rIxT K) ix_tup (pv 1) pe_int (fun _ _ => rfl)) po_none (po_some (pe_un un_neg pe_int))) pa_nil)))))))))
      (pss_one (ps_ret (pe_tup (pa_cons (pe_ix (r := rIxT K) ix_tup (pv 1) pe_int (fun _ _ => rfl)) (pa_cons (pe_ix (r := rIxT K) ix_tup (pv 1) pe_int (fun _ _ => rfl)) (pa_cons (pe_tup pa_nil) (pa_cons (pe_tup pa_nil) pa_nil))))))))), ?_⟩
    refine ⟨_, rfl, p, rfl, hp, fun v H1 pt sx1 hp1 hd1 f1 r1 => ?_⟩
    refine ⟨9, rfl, by decide, by decide, for_range (lo := 0) (n := 9) (fun i σ H' => Same H1 H' ∧ ∃ v pt y, σ = [some (.ref p), some v, y] ∧ Dp K H' v pt.D ∧ pt.Fine ∧ pt.Src) ⟨Same.refl _, v, pt, none, rfl, hd1, f1, r1⟩ ?_ ?_⟩
    · rintro i σ H2 hi ⟨s2, v, pt, y, rfl, hd2, f2, r2⟩
      refine ⟨_, rfl, v, pt, rfl, hd2, f2, fun H3 s3 => ?_⟩
      have hd3 := dp_keep (Same.tk s3) hd2 f2.tup
      have s23 := s2.trans s3
      refine ⟨pt.small, rfl, ite2 (fun e => ?_) (fun e => ?_)⟩
      · exact ⟨_, rfl, q v H3 pt (sx1.trans (Same.sx s23)) (hp1.same s23) hd3 f2 (Pt.small_iff.mp e) r2⟩
      · obtain ⟨a, gv, vv, qv, mv, rfl, hS, hP⟩ := dp_pt hd3
        obtain ⟨ma, ys, rfl, hSm, hAm⟩ := dp_tup hP.m
        have yl : ys.length = pt.m.length := by rw [dpAll_len hAm, List.length_map]
        refine ⟨_, rfl, a, _, _, _, rfl, rfl, hS, atI_nat (j := 0) rfl, ?_⟩
        refine ⟨_, rfl, a, _, _, _, rfl, rfl, hS, atI_nat (j := 1) rfl, ?_⟩
        refine ⟨_, rfl, a, _, _, _, rfl, rfl, hS, atI_nat (j := 2) rfl, ?_⟩
        refine ⟨_, rfl, a, _, _, _, rfl, rfl, hS, atI_nat (j := 3) rfl, ?_⟩
        have fin : ∀ (H4 : Hp) (x : V), Same H3 H4 → Dp K H4 x (bD pt.cut.m) → ([gv, vv, qv, x].length ≤ sizeLine ∧ ∀ t, H4 t = none → (Same H1 (upd H4 t (.tup [gv, vv, qv, x])) ∧ ∃ (v : V) (pt : Pt) (y : Option V), [some (V.ref p), some (V.ref t), some (V.int (0 + (i : Int)))] = [some (.ref p), some v, y] ∧ Dp K (upd H4 t (.tup [gv, vv, qv, x])) v pt.D ∧ pt.Fine ∧ pt.Src)) := by
          intro H4 x s4 hx
          refine ⟨small (by show 4 ≤ 5000; decide), fun t nt => ?_⟩
          have s5 := same_new (o := .tup [gv, vv, qv, x]) nt
          refine ⟨(s23.trans s4).trans s5, _, pt.cut, _, rfl, pt_dp (SqT.of upd_same) ⟨hP.g.tk (Same.tk (s4.trans s5)), hP.v.tk (Same.tk (s4.trans s5)), ?_, ?_⟩, f2.cut, ⟨r2.procs, r2.names⟩⟩
          · exact dp_keep (Same.tk (s4.trans s5)) hP.q (prsD_tup f2.N f2.prs)
          · exact dp_keep (Same.tk s5) hx (bD_tup f2.cut.N f2.cut.prs.N f2.cut.mn)
        refine ⟨1, rfl, _, rfl, ma, ys, rfl, hSm, fun hw => ?_, fun hw t nt => ?_⟩
        · have hl : pt.m.length = 0 := by
            have h2 : HT.sIx ys.length ys.length (some (-1)) = ys.length := hw.2
            have h3 : HT.sIx ys.length ys.length (some (-1)) = ((-1 : Int) + (ys.length : Int)).toNat := by
              show (if (-1 : Int) < 0 then ((-1 : Int) + (ys.length : Int)).toNat else min (-1 : Int).toNat ys.length) = _
              rw [if_pos (by decide)]
            omega
          have hm0 : pt.cut.m = pt.m := by
            have : pt.m = [] := List.length_eq_zero_iff.mp hl
            show pt.m.take _ = pt.m
            rw [this]
            rfl
          refine fin H3 _ (Same.refl _) ?_
          rw [hm0]
          exact .tup hSm hAm
        · rw [show cutV ys none (some (-1)) = ys.take (ys.length - 1) from cut_last ys]
          have s4 := same_new (o := .tup (ys.take (ys.length - 1))) nt
          refine fin _ _ s4 (.tup (SqT.of upd_same) ?_)
          have h1 : DpAll K H3 (ys.take (ys.length - 1)) (pt.cut.m.map St.D) := by
            rw [yl]
            show DpAll K H3 _ ((pt.m.take (pt.m.length - 1)).map St.D)
            rw [List.map_take]
            exact dpAll_take hAm _
          exact dpAll_keep (Same.tk s4) h1 (by have := bD_tup f2.cut.N f2.cut.prs.N f2.cut.mn; unfold bD at this; rw [tupD_tuple] at this; exact this)
    · rintro σ H2 ⟨s2, v, pt, y, rfl, hd2, f2, r2⟩
      obtain ⟨a, gv, vv, qv, mv, rfl, hS, hP⟩ := dp_pt hd2
      refine ⟨_, rfl, a, _, _, _, rfl, rfl, hS, atI_nat (j := 0) rfl, ?_⟩
      refine ⟨_, rfl, a, _, _, _, rfl, rfl, hS, atI_nat (j := 1) rfl, ?_⟩
      refine ⟨small (Nat.zero_le _), fun t1 nt1 => ?_⟩
      have s3 := same_new (o := HO.tup []) nt1
      have h3 : (upd H2 t1 (HO.tup [])) t1 = some (HO.tup []) := upd_same
      generalize upd H2 t1 (HO.tup []) = H3 at s3 h3 ⊢
      refine ⟨small (Nat.zero_le _), fun t2 nt2 => ?_⟩
      have s4 := same_new (o := HO.tup []) nt2
      have h4 : (upd H3 t2 (HO.tup [])) t2 = some (HO.tup []) := upd_same
      generalize upd H3 t2 (HO.tup []) = H4 at s4 h4 ⊢
      refine ⟨small (by show 4 ≤ 5000; decide), fun t nt => ?_⟩
      have s5 := same_new (o := .tup [gv, vv, .ref t1, .ref t2]) nt
      have s35 := (s3.trans s4).trans s5
      refine q _ _ pt.bare (sx1.trans (Same.sx (s2.trans s35))) (hp1.same (s2.trans s35)) (pt_dp (SqT.of upd_same) ⟨hP.g.tk (Same.tk s35), hP.v.tk (Same.tk s35), ?_, ?_⟩) f2.bare pt.bare_small ⟨(fun x hx => by cases hx), r2.names⟩
      · exact .tup (SqT.of ((s4.trans s5) _ _ h3)) .nil
      · exact .tup (SqT.of (s5 _ _ h4)) .nil
end
end Sp1

set_option Elab.async false
set_option linter.all false
set_option maxRecDepth 100000
set_option maxHeartbeats 1000000
namespace Pg
open PySem PySem.Spec PyProof.Rows L2
/-- data of lists and tuples: its lengths, its ints, its depth -/
structure Bd (L B D : Nat) (d : PyData) : Prop where
  cl : d.canLay0 = true
  sm : smlD L B d = true
  dp : d.depth ≤ D
theorem Bd.gd {L B D : Nat} {d : PyData} (h : Bd L B D d) (hL : L ≤ 500) (hB : B ≤ 1900) (hD : D ≤ 64) : Gd d := ⟨Bool.and_eq_true_iff.mpr ⟨h.cl, decide_eq_true (Nat.le_trans h.dp hD)⟩, sml_mono hL hB d h.sm⟩
theorem Bd.mono {L B D L' B' D' : Nat} {d : PyData} (h : Bd L B D d) (hL : L ≤ L') (hB : B ≤ B') (hD : D ≤ D') : Bd L' B' D' d := ⟨h.cl, sml_mono hL hB d h.sm, Nat.le_trans h.dp hD⟩
theorem layAll_iff {ds : List PyData} : PyData.canLayAll0 ds = true ↔ ∀ d ∈ ds, d.canLay0 = true := by
  induction ds with
  | nil => simp [PyData.canLayAll0]
  | cons d r ih => simp [PyData.canLayAll0, ih]
theorem Bd.tup {L B D : Nat} {ds : List PyData} (l : ds.length ≤ L) (h : ∀ d ∈ ds, Bd L B D d) : Bd L B (D + 1) (.tuple ds) :=
  ⟨by simp only [PyData.canLay0]; exact layAll_iff.mpr fun d hd => (h d hd).cl, by simp only [smlD, Bool.and_eq_true, decide_eq_true_eq]; exact ⟨l, smlAll_iff.mpr fun d hd => (h d hd).sm⟩, by
    have := depthAll_le fun d hd => (h d hd).dp
    rw [depth_tup]
    omega⟩
theorem Bd.lst {L B D : Nat} {ds : List PyData} (l : ds.length ≤ L) (h : ∀ d ∈ ds, Bd L B D d) : Bd L B (D + 1) (.list ds) :=
  ⟨by simp only [PyData.canLay0]; exact layAll_iff.mpr fun d hd => (h d hd).cl, by simp only [smlD, Bool.and_eq_true, decide_eq_true_eq]; exact ⟨l, smlAll_iff.mpr fun d hd => (h d hd).sm⟩, by
    have := depthAll_le fun d hd => (h d hd).dp
    simp only [PyData.depth]
    omega⟩
theorem le_depthAll : ∀ {ds : List PyData} {d : PyData}, d ∈ ds → d.depth ≤ PyData.depthAll ds
  | e :: r, d, h => by
    simp only [PyData.depthAll]
    rcases List.mem_cons.mp h with rfl | h
    · exact Nat.le_max_left _ _
    · exact Nat.le_trans (le_depthAll h) (Nat.le_max_right _ _)
theorem Bd.inv {L B D : Nat} {ds : List PyData} (h : Bd L B (D + 1) (.tuple ds)) : ds.length ≤ L ∧ ∀ d ∈ ds, Bd L B D d := by
  obtain ⟨h1, h2, h3⟩ := h
  simp only [PyData.canLay0] at h1
  simp only [smlD, Bool.and_eq_true, decide_eq_true_eq] at h2
  rw [depth_tup] at h3
  refine ⟨h2.1, fun d hd => ⟨layAll_iff.mp h1 d hd, smlAll_iff.mp h2.2 d hd, ?_⟩⟩
  have := le_depthAll hd
  omega
theorem Bd.int {L B D : Nat} {i : Int} (h : i.natAbs < 2 ^ B) : Bd L B D (.int i) := ⟨rfl, by simp only [smlD, decide_eq_true_eq]; exact h, Nat.zero_le _⟩
theorem Bd.str {L B D : Nat} {x : Str} (h : x.length ≤ 500) (t : tupD (.str x) = true) : Bd L B D (.str x) := ⟨tupD_lay _ t, by simp only [smlD, decide_eq_true_eq]; exact h, Nat.zero_le _⟩
theorem Bd.name {L B D : Nat} {x : Str} (h : Nm x) : Bd L B D (.str x) := .str (by have := h.l8; omega) h.tup
theorem great_lt : great.natAbs < 2 ^ 1000 := by decide +kernel
theorem great_nines : (10 : Int) ^ 60 * 10 ^ 60 * 10 ^ 60 * 10 ^ 60 * 10 ^ 60 - 1 = great - 1 := by decide +kernel
theorem great_pos : 1 < great := by decide +kernel
/-- a sum's data, its parts not too large -/
theorem bd_sum {c d : Int} {ts : List PyData} (hc : c.natAbs < 2 ^ 1000) (hd : d.natAbs < 2 ^ 1000) (l : ts.length ≤ 64) (h : ∀ t ∈ ts, Bd 64 1000 1 t) : Bd 64 1000 3 (.tuple [.str "sum", .int c, .tuple ts, .int d]) := by
  refine .tup (by show 4 ≤ 64; decide) fun e he => ?_
  simp only [List.mem_cons, List.not_mem_nil, or_false] at he
  rcases he with rfl | rfl | rfl | rfl
  · exact .str (by decide +kernel) (by decide +kernel)
  · exact .int hc
  · exact .tup l h
  · exact .int hd
theorem bd_term {c : Int} {x : Str} (hc : c.natAbs < 2 ^ 1000) (hx : Nm x) : Bd 64 1000 1 (.tuple [.int c, .str x]) := by
  refine .tup (by show 2 ≤ 64; decide) fun e he => ?_
  simp only [List.mem_cons, List.not_mem_nil, or_false] at he
  rcases he with rfl | rfl
  · exact .int hc
  · exact .name hx
theorem small_int {x : Int} (h : -great < x ∧ x < great) : x.natAbs < 2 ^ 1000 := by
  have h1 := great_lt
  have h2 := great_pos
  generalize great = g at h h1 h2
  exact Nat.lt_of_le_of_lt (by omega) h1
theorem bd_sm {names : List Str} (N : Names names) {s : Sm} (h : s.Ok names) : Bd 64 1000 3 s.D := by
  refine bd_sum (small_int (h.sh _ (by simp))) (small_int (h.sh _ (by simp))) (by rw [List.length_map]; exact Nat.le_trans h.len (by decide)) fun t ht => ?_
  obtain ⟨u, hu, rfl⟩ := List.mem_map.mp ht
  exact bd_term (small_int (h.sh _ (by
    refine List.mem_cons_of_mem _ (List.mem_cons_of_mem _ (List.mem_map.mpr ⟨u, hu, rfl⟩))))) (N _ (h.nz u hu).2)
theorem words_str : ∀ w ∈ pairWords, w.length ≤ 500 ∧ tupD (.str w) = true := by decide +kernel
theorem bd_ex {names : List Str} (N : Names names) {e : Ex} (h : e.Ok names) : Bd 64 1000 4 e.D := by
  cases e with
  | sum s => exact (bd_sm N h).mono (Nat.le_refl _) (Nat.le_refl _) (by decide)
  | read =>
    exact (Bd.tup (D := 3) (by show 1 ≤ 64; decide) (fun e h => by
      rw [List.mem_singleton.mp h]
      exact .str (by decide +kernel) (by decide +kernel)))
  | two w a b =>
    obtain ⟨hw, ha, hb⟩ := h
    refine Bd.tup (D := 3) (by show 3 ≤ 64; decide) fun e he => ?_
    simp only [List.mem_cons, List.not_mem_nil, or_false] at he
    rcases he with rfl | rfl | rfl
    · exact .str (words_str _ hw).1 (words_str _ hw).2
    · exact bd_sm N ha
    · exact bd_sm N hb
theorem name_gd {x : Str} (h : Nm x) : Gd (.str x) := ⟨shaped_of h.tup (by show 0 ≤ 64; decide), by simp only [smlD, decide_eq_true_eq]; have := h.l8; omega⟩

theorem VarsOk.given {gs vs : List Str} (h : VarsOk gs vs) : Names gs ∧ gs.Nodup := ⟨fun x hx => h.N x (List.mem_append_left _ hx), (List.nodup_append.mp h.nd).1⟩
theorem strs_tup {xs ys : List Str} (h : PyData.tuple (xs.map sD) = .tuple (ys.map sD)) : xs = ys := sDs_inj (PyData.tuple.inj h)
theorem Ex.D_inj {e f : Ex} (h : e.D = f.D) : e = f := by
  cases e with
  | sum s =>
    cases f with
    | sum t => rw [Sm.D_inj h]
    | read => simp [Ex.D, Sm.D] at h
    | two w a b => simp [Ex.D, Sm.D] at h
  | read =>
    cases f with
    | sum t => simp [Ex.D, Sm.D] at h
    | read => rfl
    | two w a b => simp [Ex.D] at h
  | two w a b =>
    cases f with
    | sum t => simp [Ex.D, Sm.D] at h
    | read => simp [Ex.D] at h
    | two w' a' b' =>
      simp only [Ex.D, PyData.tuple.injEq, List.cons.injEq, PyData.str.injEq, and_true] at h
      rw [h.1, Sm.D_inj h.2.1, Sm.D_inj h.2.2]
mutual
theorem St.D_inj : ∀ (s t : St), s.D = t.D → s = t
  | .set x e, t, h => by
    cases t
    case set y f =>
      simp only [St.D, PyData.tuple.injEq, List.cons.injEq, PyData.str.injEq, and_true, true_and] at h
      rw [h.1, Ex.D_inj h.2]
    all_goals (simp only [St.D, PyData.tuple.injEq, List.cons.injEq, PyData.str.injEq] at h; exact absurd h.1 (by decide +kernel))
  | .swap x z, t, h => by
    cases t
    case swap y f =>
      simp only [St.D, PyData.tuple.injEq, List.cons.injEq, PyData.str.injEq, and_true, true_and] at h
      rw [h.1, h.2]
    all_goals (simp only [St.D, PyData.tuple.injEq, List.cons.injEq, PyData.str.injEq] at h; exact absurd h.1 (by decide +kernel))
  | .print e, t, h => by
    cases t
    case print f =>
      simp only [St.D, PyData.tuple.injEq, List.cons.injEq, PyData.str.injEq, and_true, true_and] at h
      rw [Ex.D_inj h]
    all_goals (simp only [St.D, PyData.tuple.injEq, List.cons.injEq, PyData.str.injEq] at h; exact absurd h.1 (by decide +kernel))
  | .call x, t, h => by
    cases t
    case call f =>
      simp only [St.D, PyData.tuple.injEq, List.cons.injEq, PyData.str.injEq, and_true, true_and] at h
      rw [h]
    all_goals (simp only [St.D, PyData.tuple.injEq, List.cons.injEq, PyData.str.injEq] at h; exact absurd h.1 (by decide +kernel))
  | .ite e a b, t, h => by
    cases t
    case ite f c d =>
      simp only [St.D, PyData.tuple.injEq, List.cons.injEq, PyData.str.injEq, and_true, true_and] at h
      rw [Ex.D_inj h.1, blD_inj a c h.2.1, blD_inj b d h.2.2]
    all_goals (simp only [St.D, PyData.tuple.injEq, List.cons.injEq, PyData.str.injEq] at h; exact absurd h.1 (by decide +kernel))
  | .whl e a, t, h => by
    cases t
    case whl f c =>
      simp only [St.D, PyData.tuple.injEq, List.cons.injEq, PyData.str.injEq, and_true, true_and] at h
      rw [Ex.D_inj h.1, blD_inj a c h.2]
    all_goals (simp only [St.D, PyData.tuple.injEq, List.cons.injEq, PyData.str.injEq] at h; exact absurd h.1 (by decide +kernel))
  | .rep e a, t, h => by
    cases t
    case rep f c =>
      simp only [St.D, PyData.tuple.injEq, List.cons.injEq, PyData.str.injEq, and_true, true_and] at h
      rw [Ex.D_inj h.1, blD_inj a c h.2]
    all_goals (simp only [St.D, PyData.tuple.injEq, List.cons.injEq, PyData.str.injEq] at h; exact absurd h.1 (by decide +kernel))
theorem blD_inj : ∀ (a b : List St), blD a = blD b → a = b
  | [], [], _ => rfl
  | [], t :: r, h => by simp [blD] at h
  | s :: r, [], h => by simp [blD] at h
  | s :: r, t :: q, h => by
    simp only [blD, List.cons.injEq] at h
    rw [St.D_inj s t h.1, blD_inj r q h.2]
end
theorem bD_inj {a b : List St} (h : bD a = bD b) : a = b := blD_inj a b (by
  rw [blD_map, blD_map]
  exact PyData.tuple.inj h)
theorem prs_inj : ∀ {ps qs : List Pr}, ps.map prD = qs.map prD → ps = qs
  | [], [], _ => rfl
  | [], _ :: _, h => by cases h
  | _ :: _, [], h => by cases h
  | p :: r, q :: t, h => by
    simp only [List.map_cons, List.cons.injEq] at h
    have h1 := PyData.tuple.inj h.1
    simp only [List.cons.injEq, and_true, PyData.str.injEq] at h1
    rw [show p = q from Prod.ext h1.1 (bD_inj h1.2), prs_inj h.2]
theorem prsD_inj {ps qs : List Pr} (h : prsD ps = prsD qs) : ps = qs := prs_inj (PyData.tuple.inj h)
theorem Pt.inj {p q : Pt} (h1 : strsD p.given = strsD q.given) (h2 : strsD p.vars = strsD q.vars) (h3 : prsD p.ps = prsD q.ps) (h4 : bD p.m = bD q.m) : p = q := by
  obtain ⟨g, v, ps, m⟩ := p
  obtain ⟨g', v', ps', m'⟩ := q
  have e1 : g = g' := strs_tup h1
  have e2 : v = v' := strs_tup h2
  have e3 : ps = ps' := prsD_inj h3
  have e4 : m = m' := bD_inj h4
  rw [e1, e2, e3, e4]
section
variable {dg dv dq dm : PyData} {er : Str → Prop} {ok : Pt → Prop}
theorem init_given (h : ¬ NamesP dg) (e : er "given") : InitX dg dv dq dm er ok :=
  have no : ∀ {gs vs : List Str}, dg = .tuple (gs.map sD) → VarsOk gs vs → False := fun e vo => h ⟨_, e, vo.given.1, vo.given.2⟩
  ⟨fun _ => e, fun gs e1 h1 h2 _ => absurd ⟨gs, e1, h1, h2⟩ h, fun gs vs e1 _ vo => (no e1 vo).elim, fun gs vs ps e1 _ vo _ _ _ => (no e1 vo).elim, fun p e1 _ vo _ _ _ _ => (no e1 vo).elim⟩
theorem init_vars {gs : List Str} (N : Names gs) (nd : gs.Nodup) (h : ¬ VarsP gs dv) (e : er "variables") : InitX (.tuple (gs.map sD)) dv dq dm er ok :=
  have no : ∀ {gs' vs : List Str}, PyData.tuple (gs.map sD) = .tuple (gs'.map sD) → dv = .tuple (vs.map sD) → VarsOk gs' vs → False := fun e1 e2 vo => h ⟨_, e2, by rw [strs_tup e1]; exact vo⟩
  ⟨fun h => absurd ⟨gs, rfl, N, nd⟩ h, fun _ _ _ _ _ => e, fun gs' vs e1 e2 vo => (no e1 e2 vo).elim, fun gs' vs ps e1 e2 vo _ _ _ => (no e1 e2 vo).elim, fun p e1 e2 vo _ _ _ _ => (no e1 e2 vo).elim⟩
theorem init_prs {gs vs : List Str} (vo : VarsOk gs vs) (px : PrX dq) (bx : BlX dm) (h : ¬ PrsP (gs ++ vs) dq) (e : er "procedures") : InitX (.tuple (gs.map sD)) (.tuple (vs.map sD)) dq dm er ok :=
  have no : ∀ {gs' vs' : List Str} {ps : List Pr}, PyData.tuple (gs.map sD) = .tuple (gs'.map sD) → PyData.tuple (vs.map sD) = .tuple (vs'.map sD) → dq = prsD ps → PrsV (gs' ++ vs') ps → False := fun e1 e2 e3 pv => h ⟨_, e3, by rw [strs_tup e1, strs_tup e2]; exact pv⟩
  ⟨fun h => absurd ⟨gs, rfl, vo.given.1, vo.given.2⟩ h, fun gs' e1 _ _ h => absurd ⟨vs, rfl, by rw [← strs_tup e1]; exact vo⟩ h, fun gs' vs' e1 e2 _ => ⟨px, bx, fun _ => e⟩, fun gs' vs' ps e1 e2 _ e3 pv _ => (no e1 e2 e3 pv).elim, fun p e1 e2 _ e3 pv _ _ => (no e1 e2 e3 pv).elim⟩
theorem init_main {gs vs : List Str} {ps : List Pr} (vo : VarsOk gs vs) (pv : PrsV (gs ++ vs) ps) (px : PrX (prsD ps)) (bx : BlX dm) (h : ¬ BkP (gs ++ vs) (ps.map (·.1)) 7 dm) (e : er "main") : InitX (.tuple (gs.map sD)) (.tuple (vs.map sD)) (prsD ps) dm er ok := by
  refine ⟨fun h => absurd ⟨gs, rfl, vo.given.1, vo.given.2⟩ h, fun gs' e1 _ _ h => absurd ⟨vs, rfl, by rw [← strs_tup e1]; exact vo⟩ h, fun gs' vs' e1 e2 _ => ⟨px, bx, fun h => absurd ⟨ps, rfl, ?_⟩ h⟩, fun _ _ _ _ _ _ _ _ _ => e, fun p e1 e2 _ e3 pv' e4 ok4 => ?_⟩
  · refine absurd ⟨p.m, e4, ?_⟩ h
    have e3' : ps = p.ps := prsD_inj e3
    rw [e3', strs_tup e1, strs_tup e2]
    exact ok4
  · rw [← strs_tup e1, ← strs_tup e2]
    exact pv
theorem init_done {p : Pt} (f : p.Fine) (px : PrX (prsD p.ps)) (bx : BlX (bD p.m)) (z1 : ∀ q ∈ p.ps, blSz q.2 ≤ 600) (z2 : blSz p.m ≤ 600) (h : (p.Small → ok p) ∧ (¬ p.Small → er "size")) : InitX (strsD p.given) (strsD p.vars) (prsD p.ps) (bD p.m) er ok := by
  have vo : VarsOk p.given p.vars := ⟨f.N, f.nd, f.l1, f.l4⟩
  have pv : PrsV (p.given ++ p.vars) p.ps := ⟨f.prs.N, f.prs.nd, f.prs.len, fun q hq => (f.prs.bl q hq).1⟩
  refine ⟨fun h => absurd ⟨_, rfl, vo.given.1, vo.given.2⟩ h, fun gs' e1 _ _ h => absurd ⟨p.vars, rfl, by rw [← strs_tup e1]; exact vo⟩ h, fun gs' vs' e1 e2 _ => ⟨px, bx, fun h => absurd ⟨p.ps, rfl, ?_⟩ h⟩, fun gs' vs' ps' e1 e2 _ e3 _ h => absurd ⟨p.m, rfl, ?_⟩ h, fun p' e1 e2 _ e3 _ e4 _ => ?_⟩
  · obtain rfl := Pt.inj e1 e2 e3 e4
    exact ⟨z1, z2, fun _ => h.1, fun _ => h.2⟩
  · rw [← strs_tup e1, ← strs_tup e2]
    exact pv
  · rw [← strs_tup e1, ← strs_tup e2, ← prsD_inj e3]
    exact f.mn
theorem gz_word {w : Str} (h1 : w.length ≤ 500) (h2 : tupD (.str w) = true) : Gd (.str w) := (Bd.str (L := 0) (B := 0) (D := 0) h1 h2).gd (by decide) (by decide) (by decide)
theorem gz_ex {names : List Str} {e : Ex} (N : Names names) (h : e.Ok names) : Gz e.D := .inl ((bd_ex N h).gd (by decide) (by decide) (by decide))
theorem gz_name {x : Str} (h : Nm x) : Gz (.str x) := .inl (name_gd h)
mutual
theorem stX_ok {names procs : List Str} (N : Names names) (P : Names procs) : ∀ (n : Nat) (s : St), St.Ok names procs n s → s.sz ≤ 500 → StX s.D
  | n, .set x e, h, _ => by
    simp only [St.D]
    refine .flat (by show 3 ≤ 500; decide) fun d hd => ?_
    simp only [List.mem_cons, List.not_mem_nil, or_false] at hd
    rcases hd with rfl | rfl | rfl
    · exact .inl (gz_word (by decide +kernel) (by decide +kernel))
    · exact gz_name (N _ h.1)
    · exact gz_ex N h.2
  | n, .swap x y, h, _ => by
    simp only [St.D]
    refine .flat (by show 3 ≤ 500; decide) fun d hd => ?_
    simp only [List.mem_cons, List.not_mem_nil, or_false] at hd
    rcases hd with rfl | rfl | rfl
    · exact .inl (gz_word (by decide +kernel) (by decide +kernel))
    · exact gz_name (N _ h.1)
    · exact gz_name (N _ h.2.1)
  | n, .print e, h, _ => by
    simp only [St.D]
    refine .flat (by show 2 ≤ 500; decide) fun d hd => ?_
    simp only [List.mem_cons, List.not_mem_nil, or_false] at hd
    rcases hd with rfl | rfl
    · exact .inl (gz_word (by decide +kernel) (by decide +kernel))
    · exact gz_ex N h
  | n, .call x, h, _ => by
    simp only [St.D]
    refine .flat (by show 2 ≤ 500; decide) fun d hd => ?_
    simp only [List.mem_cons, List.not_mem_nil, or_false] at hd
    rcases hd with rfl | rfl
    · exact .inl (gz_word (by decide +kernel) (by decide +kernel))
    · exact gz_name (P _ h)
  | n, .ite e a b, h, z => by
    obtain ⟨he, m, rfl, h1, h2⟩ := h
    simp only [St.sz] at z
    simp only [St.D]
    refine .comp (gz_word (by decide +kernel) (by decide +kernel)) (gz_ex N he) (by show 2 ≤ 500; decide) (fun d hd => ?_) (by decide +kernel)
    simp only [List.mem_cons, List.not_mem_nil, or_false] at hd
    rcases hd with rfl | rfl
    · exact .tup (by have := blSz_len a; rw [blD_map, List.length_map]; omega) (blX_ok N P m a h1 (by omega))
    · exact .tup (by have := blSz_len b; rw [blD_map, List.length_map]; omega) (blX_ok N P m b h2 (by omega))
  | n, .whl e a, h, z => by
    obtain ⟨he, m, rfl, h1⟩ := h
    simp only [St.sz] at z
    simp only [St.D]
    refine .comp (gz_word (by decide +kernel) (by decide +kernel)) (gz_ex N he) (by show 1 ≤ 500; decide) (fun d hd => ?_) (by decide +kernel)
    rw [List.mem_singleton.mp hd]
    exact .tup (by have := blSz_len a; rw [blD_map, List.length_map]; omega) (blX_ok N P m a h1 (by omega))
  | n, .rep e a, h, z => by
    obtain ⟨he, m, rfl, h1⟩ := h
    simp only [St.sz] at z
    simp only [St.D]
    refine .comp (gz_word (by decide +kernel) (by decide +kernel)) (gz_ex N he) (by show 1 ≤ 500; decide) (fun d hd => ?_) (by decide +kernel)
    rw [List.mem_singleton.mp hd]
    exact .tup (by have := blSz_len a; rw [blD_map, List.length_map]; omega) (blX_ok N P m a h1 (by omega))
theorem blX_ok {names procs : List Str} (N : Names names) (P : Names procs) : ∀ (n : Nat) (b : List St), blOk names procs n b → blSz b ≤ 500 → ∀ d ∈ blD b, StX d
  | n, [], _, _ => fun d hd => by cases hd
  | n, s :: r, h, z => fun d hd => by
    simp only [blSz] at z
    simp only [blD, List.mem_cons] at hd
    rcases hd with rfl | hd
    · exact stX_ok N P n s h.1 (by omega)
    · exact blX_ok N P n r h.2 (by omega) d hd
end
end
theorem bX_ok {names procs : List Str} {n : Nat} {b : List St} (N : Names names) (P : Names procs) (h : blOk names procs n b) (z : blSz b ≤ 500) : BlX (bD b) := by
  have e : bD b = .tuple (blD b) := by rw [blD_map]; rfl
  rw [e]
  exact .tup (by have := blSz_len b; rw [blD_map, List.length_map]; omega) (blX_ok N P n b h z)
theorem prX_ok {names : List Str} {ps : List Pr} (N : Names names) (h : PrsV names ps) (z : ∀ p ∈ ps, blSz p.2 ≤ 500) : PrX (prsD ps) := by
  intro ds e
  have e := PyData.tuple.inj e
  subst e
  refine ⟨by rw [List.length_map]; exact Nat.le_trans h.len (by decide), fun x hx a b e => ?_⟩
  obtain ⟨p, hp, rfl⟩ := List.mem_map.mp hx
  have e := PyData.tuple.inj e
  simp only [List.cons.injEq, and_true] at e
  rw [← e.1, ← e.2]
  exact ⟨gz_name (h.N _ (List.mem_map.mpr ⟨p, hp, rfl⟩)), bX_ok N h.N (h.bl p hp) (z p hp)⟩
/-- what is no tuple may stand for procedures, for a block, for names -/
theorem PrX.non {d : PyData} (h : ∀ ds, d ≠ .tuple ds) : PrX d := fun ds e => absurd e (h ds)
theorem NmX.non {d : PyData} (h : ∀ ds, d ≠ .tuple ds) : NmX d := fun ds e => absurd e (h ds)
theorem NmX.names {xs : List Str} (h : Names xs) (l : xs.length ≤ 200) : NmX (.tuple (xs.map sD)) := fun ds e => by
  rw [← PyData.tuple.inj e]
  exact ⟨by rw [List.length_map]; exact l, fun y hy => by
    obtain ⟨z, hz, rfl⟩ := List.mem_map.mp hy
    exact gz_name (h z hz)⟩
end Pg
namespace Sp1
open PySem PySem.Spec PyProof.Rows L2 Pg Sp1X
section
variable {X : Cx} {C fI : Addr}
def rIsXcI (K : PySem.W.Frag) (C a : Addr) (cls : Value) (d : Option Addr) : List V → Hp → VK → Prop := fun xs H Q => cls = .ref C ∧ rIsX K C a d xs H Q
theorem isxc_InvalidProgram {a : Addr} {oe : Obj} {cls : Value} {d : Option Addr} {pn : List (Addr × Obj)} (T : Txt_InvalidProgram X.K X.mg C fI) (hz : Zc cls d oe) (hf : ∃ vs, oe.data = .fields vs) : CallR (X.suite a ((a, oe) :: pn)) (.builtin "isinstance") (rIsXcI X.K C a cls d) := by
  intro pins s σ H xs us Q I r h
  obtain ⟨rfl, h⟩ := h
  exact isx_InvalidProgram T hz hf pins s σ H xs us Q I r h
end
theorem _root_.Pg.InitX.imp {dg dv dq dm : PyData} {er er' : Str → Prop} {ok ok' : Pt → Prop} (I : InitX dg dv dq dm er ok) (h1 : ∀ p, er p → er' p) (h2 : ∀ p, ok p → ok' p) : InitX dg dv dq dm er' ok' :=
  ⟨fun z => h1 _ (I.given z), fun gs a b c d => h1 _ (I.vars gs a b c d), fun gs vs a b c => ⟨(I.prs gs vs a b c).1, (I.prs gs vs a b c).2.1, fun z => h1 _ ((I.prs gs vs a b c).2.2 z)⟩, fun gs vs ps a b c d e z => h1 _ (I.main gs vs ps a b c d e z),
    fun p a b c d e f g => ⟨(I.done p a b c d e f g).1, (I.done p a b c d e f g).2.1, fun x y => h2 _ ((I.done p a b c d e f g).2.2.1 x y), fun x y => h1 _ ((I.done p a b c d e f g).2.2.2 x y)⟩⟩
theorem use_initS {K : PySem.W.Frag} {C U : Addr} {H : Hp} {gv vv qv mv : V} {dg dv dq dm : PyData} {er : Str → Prop} {ok : Pt → Prop} {Q : Addr → Hp → Prop} {E : XK} (hg : Gp K H gv dg) (hv : Gp K H vv dv) (hq : Gp K H qv dq) (hm : Gp K H mv dm) (ng : NmX dg) (nv : NmX dv)
    (I : InitX dg dv dq dm er ok) (he : ∀ p, er p → ∀ H1 d, Same H H1 → H1 d = none → E (.ref U) (some d) (upd H1 d (.xd [(("part" : Str), .str p)]))) (hk : ∀ p, ok p → ∀ x H1, Same H H1 → PgAt K C H1 (.ref x) p → Q x H1) :
    ∀ x dx, H x = none → H dx = none → dx ≠ x → spX_init K C U [.ref x, gv, vv, qv, mv] (upd (upd H dx (.own x)) x (.ins C dx [])) (fun v H2 => v = .non ∧ Q x H2) E := by
  intro x dx nx ndx hne
  have s0 : Same H (upd (upd H dx (.own x)) x (.ins C dx [])) := (same_new ndx).trans (same_new (by rw [upd_ne (Ne.symm hne)]; exact nx))
  have s1 : ∀ {H1 : Hp}, (∀ b o, b ≠ x → (upd (upd H dx (.own x)) x (.ins C dx [])) b = some o → H1 b = some o) → Same H H1 := fun h b o e => h b o (fun z => by rw [z, nx] at e; cases e) (s0 _ _ e)
  exact ⟨x, dx, gv, vv, qv, mv, dg, dv, dq, dm, rfl, upd_same, hg.same s0, hv.same s0, hq.same s0, hm.same s0, ng, nv,
    I.imp (fun p h H1 d s n => he p h H1 d (s1 s) n) (fun p h H1 s hp => ⟨rfl, hk p h _ H1 (s1 s) hp⟩)⟩
theorem gp_strs {K : PySem.W.Frag} {H : Hp} {a : Addr} {xs : List Str} (h : SqT K H a (xs.map V.str)) : Gp K H (.ref a) (.tuple (xs.map sD)) := .tup h (gpAll_of_dp (dpAll_strs xs))
end Sp1

set_option Elab.async false
set_option linter.all false
set_option maxRecDepth 100000
set_option maxHeartbeats 1000000
namespace Sp1
open PySem PySem.Spec PyProof.Rows L2 Pg Sp1X
abbrev s_l_told : Stmt := top 59
abbrev N_l_told : List Str := ["_law_given", "_law_variables", "_law_procedures", "_law_main", "e"]
theorem sc_l_told : FnScope N_l_told ["_law_given", "_law_variables", "_law_procedures", "_law_main"] (defScope s_l_told) := ⟨rfl, rfl, rfl, by decide +kernel, rfl, by decide +kernel, by decide +kernel⟩
abbrev s_l_statements : Stmt := top 60
abbrev N_l_statements : List Str := ["_law_name", "_law_procedure", "_law_one", "_law_read", "_law_found"]
theorem sc_l_statements : FnScope N_l_statements ["_law_name", "_law_procedure"] (defScope s_l_statements) := ⟨rfl, rfl, rfl, by decide +kernel, rfl, by decide +kernel, by decide +kernel⟩
abbrev s_l_parts_hold : Stmt := top 61
abbrev N_l_parts_hold : List Str := ["_law_parts_here", "_law_given", "_law_variables", "_law_procedures", "_law_main", "_law_odd", "_law_names", "_law_many", "_law_sign"]
theorem sc_l_parts_hold : FnScope N_l_parts_hold ["_law_parts_here"] (defScope s_l_parts_hold) := ⟨rfl, rfl, rfl, by decide +kernel, rfl, by decide +kernel, by decide +kernel⟩
abbrev s_l_statements_hold : Stmt := top 62
abbrev N_l_statements_hold : List Str := ["_law_parts_here", "_law_given", "_law_variables", "_law_procedures", "_law_main", "_law_name", "_law_odd"]
theorem sc_l_statements_hold : FnScope N_l_statements_hold ["_law_parts_here"] (defScope s_l_statements_hold) := ⟨rfl, rfl, rfl, by decide +kernel, rfl, by decide +kernel, by decide +kernel⟩
abbrev s_l_limits_hold : Stmt := top 63
abbrev N_l_limits_hold : List Str := ["_law_name", "_law_one", "_law_block_here", "_law_turn", "_law_flat", "_law_calls"]
theorem sc_l_limits_hold : FnScope N_l_limits_hold ["_law_name"] (defScope s_l_limits_hold) := ⟨rfl, rfl, rfl, by decide +kernel, rfl, by decide +kernel, by decide +kernel⟩
structure LxF (K : PySem.W.Frag) (mg : Str → Option Value) extends LwF K mg where
  m_ValueError : mg "ValueError" = none
  f__law_told : Addr
  fd__law_told : FuncData
  D__law_told : Dn K mg "_law_told" s_l_told ["_law_given", "_law_variables", "_law_procedures", "_law_main"] f__law_told fd__law_told
  f__law_statements : Addr
  fd__law_statements : FuncData
  D__law_statements : Dn K mg "_law_statements" s_l_statements ["_law_name", "_law_procedure"] f__law_statements fd__law_statements
  f__law_parts_hold : Addr
  fd__law_parts_hold : FuncData
  D__law_parts_hold : Dn K mg "_law_parts_hold" s_l_parts_hold ["_law_parts_here"] f__law_parts_hold fd__law_parts_hold
  f__law_statements_hold : Addr
  fd__law_statements_hold : FuncData
  D__law_statements_hold : Dn K mg "_law_statements_hold" s_l_statements_hold ["_law_parts_here"] f__law_statements_hold fd__law_statements_hold
  f__law_limits_hold : Addr
  fd__law_limits_hold : FuncData
  D__law_limits_hold : Dn K mg "_law_limits_hold" s_l_limits_hold ["_law_name"] f__law_limits_hold fd__law_limits_hold
/-- the error is a ValueError -/
structure VeF (K : PySem.W.Frag) (U : Addr) : Prop where
  kk : PySem.W.kitOne K (.ref U) (.type "ValueError") = some true
section
variable {P : Program} {w : World} {K : PySem.W.Frag} {mg : Str → Option Value} {base : Heap}
def sp_xtold (K : PySem.W.Frag) : Sp := fun vs H Q _ => ∃ (gv vv qv mv : V) (dg dv dq dm : PyData), vs = [gv, vv, qv, mv] ∧ Gp K H gv dg ∧ Gp K H vv dv ∧ Gp K H qv dq ∧ Gp K H mv dm ∧ NmX dg ∧ NmX dv ∧
  InitX dg dv dq dm (fun part => ∀ H', Same H H' → Q (.str part) H') (fun _ => ∀ H', Same H H' → Q .non H')
theorem ok__law_told (TP : PgF K mg) (C : PgC K mg) (U : PgI K mg) (M : VeF K U.U) (T : LxF K mg) : FnOk P w K mg base CX0 36 T.f__law_told T.fd__law_told ["_law_given", "_law_variables", "_law_procedures", "_law_main"] (sp_xtold K) := by
  refine T.D__law_told.F.ok sc_l_told (fun vs H Q E h => ?_) (fun cdv A outer s H vs Q E hr h => ?_)
  · obtain ⟨gv, vv, qv, mv, dg, dv, dq, dm, rfl, _⟩ := h
    rfl
  · obtain ⟨gv, vv, qv, mv, dg, dv, dq, dm, rfl, hg, hv, hq, hm, ng, nv, I⟩ := h
    have nd := sc_l_told.nd
    refine ⟨_, pss_cons (ps_try_as (i := 4) (tb := fun W => _) (ts := fun a cls d => _) (Wout := fun _ _ _ _ => False) rfl rfl nd rfl rfl ⟨rfl, by decide, Or.inl U.X.gC⟩ takes0
        (fun W pn xe tk _ => pss_one (ps_expr (pe_makeS C.M (okX_init TP U C) (hr.mono (by decide)) rfl C.g C.b_init (fun σ => passAt tk σ)
          (pa_cons (pv 0) (pa_cons (pv 1) (pa_cons (pv 2) (pa_cons (pv 3) pa_nil)))))))
        (fun a oe cls d pn hz hf => pss_one (ps_ret (pe_ifExp (pt_val (pe_callB (id := "isinstance") (r := rIsXcI K U.U a cls d) (isxc_InvalidProgram U.X hz hf) (by rfl) T.m_isinstance (by decide +kernel) (pa_cons (pv 4) (pa_cons (pe_ty (n := "ValueError") (by rfl) T.m_ValueError (by decide +kernel)) pa_nil)))) (pe_by_InvalidProgram (cls := cls) (d := d) U.X hz hf (pv 4)) pe_str))))
      (pss_one (ps_ret pe_non)), ?_⟩
    refine ⟨_, rfl, _, rfl, _, rfl, _, rfl, ?_⟩
    dsimp only [tNil]
    refine use_initS hg hv hq hm ng nv I ?_ ?_
    · intro part q H6 d6 s6 n6
      refine ⟨true, U.X.te, fun _ a na => ?_, fun e => by cases e⟩
      refine ⟨_, rfl, rfl, .ty "ValueError", .type "ValueError", true, rfl, fun u hu => hu, M.kk, ⟨d6, _, rfl, upd_same⟩, _, rfl, iteT ?_⟩
      refine ⟨_, rfl, rfl, rfl, d6, .str part, rfl, upd_same, ?_⟩
      exact q _ (s6.trans (same_new n6))
    · intro p q x H1 s1 _
      exact q _ s1
end
end Sp1

set_option Elab.async false
set_option linter.all false
set_option maxRecDepth 100000
set_option maxHeartbeats 1000000
namespace Pg
open PySem PySem.Spec PyProof.Rows L2
/-! what can be decided of written data: each truth is wider than what it stands for -/
def strO : PyData → Option Str
  | .str x => some x
  | _ => none
def nmB (x : Str) : Bool := decide (1 ≤ x.length) && (decide (x.length ≤ 8) && (x.cps.toList.all (fun c => decide (97 ≤ c) && decide (c ≤ 122)) && !decide (x ∈ words)))
theorem nmB_of {x : Str} (h : Nm x) : nmB x = true := by
  unfold nmB
  rw [decide_eq_true h.l1, decide_eq_true h.l8, decide_eq_false h.nw, Bool.true_and, Bool.true_and, Bool.not_false, Bool.and_true]
  exact List.all_eq_true.mpr fun c hc => by
    rw [decide_eq_true (h.ch c hc).1, decide_eq_true (h.ch c hc).2]
    rfl
def nameO (d : PyData) : Bool := match strO d with
  | some x => nmB x
  | none => false
def namesB : PyData → Bool
  | .tuple ds => ds.all nameO && decide ((ds.filterMap strO).Nodup)
  | _ => false
theorem strs_back : ∀ xs : List Str, (xs.map sD).filterMap strO = xs
  | [] => rfl
  | x :: r => by
    rw [List.map_cons, List.filterMap_cons]
    show x :: (r.map sD).filterMap strO = _
    rw [strs_back r]
theorem namesB_of {d : PyData} (h : NamesP d) : namesB d = true := by
  obtain ⟨xs, rfl, N, nd⟩ := h
  show (_ && _) = true
  rw [strs_back, decide_eq_true nd, Bool.and_true]
  exact List.all_eq_true.mpr fun d hd => by
    obtain ⟨x, hx, rfl⟩ := List.mem_map.mp hd
    exact nmB_of (N x hx)
theorem nmB_nm {x : Str} (h : nmB x = true) : Nm x := by
  unfold nmB at h
  simp only [Bool.and_eq_true, decide_eq_true_eq, List.all_eq_true, Bool.not_eq_true', decide_eq_false_iff_not] at h
  exact ⟨h.1, h.2.1, fun c hc => h.2.2.1 c hc, h.2.2.2⟩
theorem names_dec {xs : List Str} (h : xs.all nmB = true) : Names xs := fun x hx => nmB_nm (List.all_eq_true.mp h x hx)
theorem not_names {d : PyData} (h : namesB d = false) : ¬ NamesP d := fun z => by
  rw [namesB_of z] at h
  cases h
theorem not_vars {gs : List Str} {d : PyData} (h : namesB d = false) : ¬ VarsP gs d := fun ⟨vs, e, vo⟩ => not_names h ⟨vs, e, fun x hx => vo.N x (List.mem_append_right _ hx), (List.nodup_append.mp vo.nd).2.1⟩
def prO : PyData → Option Str
  | .tuple [.str x, .tuple _] => some x
  | _ => none
def prB (d : PyData) : Bool := match prO d with
  | some x => nmB x
  | none => false
def prsB : PyData → Bool
  | .tuple ds => decide (ds.length ≤ 6) && (ds.all prB && decide ((ds.filterMap prO).Nodup))
  | _ => false
theorem prs_back : ∀ ps : List Pr, (ps.map prD).filterMap prO = ps.map (·.1)
  | [] => rfl
  | p :: r => by
    rw [List.map_cons, List.filterMap_cons]
    show p.1 :: (r.map prD).filterMap prO = _
    rw [prs_back r]
    rfl
theorem prsB_of {names : List Str} {d : PyData} (h : PrsP names d) : prsB d = true := by
  obtain ⟨ps, rfl, V⟩ := h
  show (_ && (_ && _)) = true
  rw [prs_back, decide_eq_true V.nd, Bool.and_true, decide_eq_true (by rw [List.length_map]; exact V.len), Bool.true_and]
  exact List.all_eq_true.mpr fun d hd => by
    obtain ⟨p, hp, rfl⟩ := List.mem_map.mp hd
    exact nmB_of (V.N p.1 (List.mem_map.mpr ⟨p, hp, rfl⟩))
theorem not_prs {names : List Str} {d : PyData} (h : prsB d = false) : ¬ PrsP names d := fun z => by
  rw [prsB_of z] at h
  cases h
def exB : PyData → Bool
  | .tuple [.str w] => decide (w = "read")
  | .tuple [.str w, _, _] => decide (w ∈ pairWords)
  | .tuple [.str w, _, _, _] => decide (w = "sum")
  | _ => false
theorem exB_of {names : List Str} {e : Ex} (h : e.Ok names) : exB e.D = true := by
  cases e with
  | sum s =>
    show decide (("sum" : Str) = "sum") = true
    exact decide_eq_true rfl
  | read => exact (by decide +kernel)
  | two w a b => exact decide_eq_true h.1
def stStep (bk : PyData → Bool) : PyData → Bool
  | .tuple (.str w :: r) =>
    if w = "set" then (match r with | [.str x, e] => decide (x ∈ baseNames) && exB e | _ => false)
    else if w = "swap" then (match r with | [.str x, .str y] => decide (x ∈ baseNames) && (decide (y ∈ baseNames) && !decide (y = x)) | _ => false)
    else if w = "print" then (match r with | [e] => exB e | _ => false)
    else if w = "call" then (match r with | [.str x] => decide (x = "p") | _ => false)
    else if w = "if" then (match r with | [e, a, b] => exB e && (bk a && bk b) | _ => false)
    else if w = "while" then (match r with | [e, a] => exB e && bk a | _ => false)
    else if w = "repeat" then (match r with | [e, a] => exB e && bk a | _ => false)
    else false
  | _ => false
def bkOf (st : PyData → Bool) : PyData → Bool
  | .tuple ds => ds.all st
  | _ => false
/-- to the depth n -/
def stB : Nat → PyData → Bool
  | 0 => stStep fun _ => false
  | n + 1 => stStep (bkOf (stB n))
def bkB (n : Nat) : PyData → Bool := bkOf (stB n)
theorem stB_of {names procs : List Str} (hn : ∀ x ∈ names, x ∈ baseNames) (hp : ∀ x ∈ procs, x = "p") : ∀ (n : Nat) (s : St), St.Ok names procs n s → stB n s.D = true := by
  intro n
  induction n with
  | zero =>
    intro s h
    cases s with
    | set x e =>
      simp only [St.D]
      show (decide (x ∈ baseNames) && exB e.D) = true
      rw [decide_eq_true (hn x h.1), exB_of h.2]
      rfl
    | swap x y =>
      simp only [St.D]
      show (decide (x ∈ baseNames) && (decide (y ∈ baseNames) && !decide (y = x))) = true
      rw [decide_eq_true (hn x h.1), decide_eq_true (hn y h.2.1), decide_eq_false h.2.2]
      rfl
    | print e =>
      simp only [St.D]
      exact exB_of h
    | call x =>
      simp only [St.D]
      exact decide_eq_true (hp x h)
    | ite e a b =>
      obtain ⟨_, m, e, _⟩ := h
      cases e
    | whl e a =>
      obtain ⟨_, m, e, _⟩ := h
      cases e
    | rep e a =>
      obtain ⟨_, m, e, _⟩ := h
      cases e
  | succ n ih =>
    have bl : ∀ a : List St, blOk names procs n a → bkOf (stB n) (.tuple (blD a)) = true := fun a h => by
      refine List.all_eq_true.mpr fun d hd => ?_
      rw [blD_map] at hd
      obtain ⟨s, hs, rfl⟩ := List.mem_map.mp hd
      exact ih s (blOk_iff.mp h s hs)
    intro s h
    cases s with
    | set x e =>
      simp only [St.D]
      show (decide (x ∈ baseNames) && exB e.D) = true
      rw [decide_eq_true (hn x h.1), exB_of h.2]
      rfl
    | swap x y =>
      simp only [St.D]
      show (decide (x ∈ baseNames) && (decide (y ∈ baseNames) && !decide (y = x))) = true
      rw [decide_eq_true (hn x h.1), decide_eq_true (hn y h.2.1), decide_eq_false h.2.2]
      rfl
    | print e =>
      simp only [St.D]
      exact exB_of h
    | call x =>
      simp only [St.D]
      exact decide_eq_true (hp x h)
    | ite e a b =>
      obtain ⟨he, m, e1, h1, h2⟩ := h
      obtain rfl := Nat.succ.inj e1
      simp only [St.D]
      show (exB e.D && (bkOf (stB n) _ && bkOf (stB n) _)) = true
      rw [exB_of he, bl a h1, bl b h2]
      rfl
    | whl e a =>
      obtain ⟨he, m, e1, h1⟩ := h
      obtain rfl := Nat.succ.inj e1
      simp only [St.D]
      show (exB e.D && bkOf (stB n) _) = true
      rw [exB_of he, bl a h1]
      rfl
    | rep e a =>
      obtain ⟨he, m, e1, h1⟩ := h
      obtain rfl := Nat.succ.inj e1
      simp only [St.D]
      show (exB e.D && bkOf (stB n) _) = true
      rw [exB_of he, bl a h1]
      rfl
theorem not_st {names procs : List Str} (hn : ∀ x ∈ names, x ∈ baseNames) (hp : ∀ x ∈ procs, x = "p") {n : Nat} {d : PyData} (h : stB n d = false) : ¬ StP names procs n d := by
  rintro ⟨s, rfl, ok⟩
  rw [stB_of hn hp n s ok] at h
  cases h
def isTup : PyData → Bool
  | .tuple _ => true
  | _ => false
def mB : PyData → Bool
  | .tuple ds => ds.all isTup
  | _ => false
theorem st_tup (s : St) : isTup s.D = true := by cases s <;> simp only [St.D] <;> rfl
theorem not_bk {names procs : List Str} {n : Nat} {d : PyData} (h : mB d = false) : ¬ BkP names procs n d := by
  rintro ⟨b, rfl, ok⟩
  have : mB (bD b) = true := List.all_eq_true.mpr fun d hd => by
    obtain ⟨s, _, rfl⟩ := List.mem_map.mp hd
    exact st_tup s
  rw [this] at h
  cases h
theorem gd_dec {d : PyData} (h : (SeqAt.shaped d && smlD 500 1900 d) = true) : Gd d := ⟨(Bool.and_eq_true_iff.mp h).1, (Bool.and_eq_true_iff.mp h).2⟩
def lenB : PyData → Bool
  | .tuple ds => decide (ds.length ≤ 200)
  | _ => true
theorem nmX_dec {d : PyData} (h : Gd d) (l : lenB d = true) : NmX d := by
  intro ds e
  subst e
  exact ⟨of_decide_eq_true l, fun x hx => .inl (h.mem x hx)⟩
theorem PrX.of {d : PyData} (h : Gz d) : PrX d := by
  intro ds e
  subst e
  have gd : Gd (.tuple ds) := h.resolve_right (fun z => by cases z)
  refine ⟨gd.len, fun x hx a b e => ?_⟩
  subst e
  have g2 := (gd.mem _ hx).mem
  exact ⟨.inl (g2 a (by simp)), BlX.of (.inl (g2 b (by simp)))⟩
end Pg

set_option Elab.async false
set_option linter.all false
set_option maxRecDepth 100000
set_option maxHeartbeats 1000000
namespace Pg
open PySem PySem.Spec PyProof.Rows L2
theorem prsSz_mem {p : Pr} : ∀ {ps : List Pr}, p ∈ ps → blSz p.2 ≤ prsSz ps
  | q :: r, h => by
    simp only [prsSz]
    rcases List.mem_cons.mp h with rfl | h
    · omega
    · have := prsSz_mem h
      omega
theorem Pt.Small.szs {p : Pt} (h : p.Small) : (∀ q ∈ p.ps, blSz q.2 ≤ 120) ∧ blSz p.m ≤ 120 := by
  have z := h.sz
  unfold Pt.code at z
  rw [pgCode_len] at z
  exact ⟨fun q hq => by have := prsSz_mem hq; omega, by omega⟩
def ps6 : List Pr := [("p", []), ("q", []), ("r", []), ("s", []), ("t", []), ("u", [])]
theorem names6 : Names (ps6.map (·.1)) := names_dec (by decide +kernel)
theorem nd6 : (ps6.map (·.1)).Nodup := by decide +kernel
theorem mem6 {p : Pr} (h : p ∈ ps6) : p.2 = [] := by
  simp only [ps6, List.mem_cons, List.not_mem_nil, or_false] at h
  rcases h with rfl | rfl | rfl | rfl | rfl | rfl <;> rfl
theorem prX6 : PrX (prsD ps6) := PrX.of (.inl (gd_dec (by decide +kernel)))
theorem bX0 : BlX (bD []) := .of (.inl (gd_dec (by decide +kernel)))
theorem l6 : ps6.length ≤ 6 := by decide
theorem len6 (gs vs : List Str) : (Pt.code ⟨gs, vs, ps6, []⟩).length = 7 := by
  unfold Pt.code
  rw [pgCode_len]
  rfl
end Pg
namespace Sp1
open PySem PySem.Spec PyProof.Rows L2 Pg Sp1X
/-- the heap without p -/
def hide (p : Addr) (H : Hp) : Hp := fun b => if b = p then none else H b
theorem hide_same {p : Addr} {H : Hp} : Same (hide p H) H := fun b o e => by
  unfold hide at e
  split at e
  · cases e
  · exact e
theorem hide_sx {p : Addr} {H H' : Hp} (s : SX p H H') : Same (hide p H) (hide p H') := fun b o e => by
  unfold hide at e ⊢
  split at e
  · cases e
  · rename_i h
    rw [if_neg h]
    exact s b o h e
theorem hide_at {p a : Addr} {H : Hp} {o : HO} (h : H a = some o) (n : a ≠ p) : hide p H a = some o := by
  unfold hide
  rw [if_neg n]
  exact h
theorem hide_upd {p : Addr} {H : Hp} {o : HO} : hide p (upd H p o) = hide p H := by
  funext b
  unfold hide
  split
  · rfl
  · rename_i h
    exact upd_ne h
theorem hide_keep {p : Addr} {H H' : Hp} (s : Same H H') : Same (hide p H) (hide p H') := hide_sx fun b o _ e => s b o e
theorem sqt_hideL {K : PySem.W.Frag} {p a : Addr} {H : Hp} {xs zs : List V} (hp : H p = some (.lst zs)) (h : SqT K H a xs) : SqT K (hide p H) a xs := by
  rcases h with (h | ⟨o, h⟩) | h
  · exact .inl (.inl (hide_at h fun e => by rw [e, hp] at h; cases h))
  · exact .inl (.inr ⟨o, hide_at h fun e => by rw [e, hp] at h; cases h⟩)
  · exact .inr h
section
variable {P : Program} {w : World} {K : PySem.W.Frag} {mg : Str → Option Value} {base : Heap}
theorem gpAll_take6 {H : Hp} : ∀ {vs : List V} {ds : List PyData} {j : Nat}, GpAll K H vs ds → GpAll K H (vs.take j) (ds.take j)
  | _, _, 0, _ => .nil
  | _, _, _ + 1, .nil => .nil
  | _, _, j + 1, .cons h t => .cons h (gpAll_take6 t)
def sp_xparts (K : PySem.W.Frag) : Sp := fun vs H Q _ => ∃ (v : V) (pt : Pt), vs = [v] ∧ Dp K H v pt.D ∧ pt.Fine ∧ pt.Small ∧ pt.Src ∧ ∀ H', Same H H' → Q (.bl true) H'
theorem ok__law_parts_hold (TP : PgF K mg) (C : PgC K mg) (U : PgI K mg) (M : VeF K U.U) (T : LxF K mg) : FnOk P w K mg base CX0 37 T.f__law_parts_hold T.fd__law_parts_hold ["_law_parts_here"] (sp_xparts K) := by
  refine T.D__law_parts_hold.F.ok sc_l_parts_hold (fun vs H Q E h => ?_) (fun cdv A outer s H vs Q E hr h => ?_)
  · obtain ⟨v, pt, rfl, _⟩ := h
    rfl
  · obtain ⟨v, pt, rfl, hd, f, sm, src, q⟩ := h
    have nd := sc_l_parts_hold.nd
    refine ⟨_, (pss_cons (ps_asg (pv 0) (pg_tup rfl (pgs_cons (pg_name (i := 1) nd rfl (.inl rfl)) (pgs_cons (pg_name (i := 2) nd rfl (.inl rfl)) (pgs_cons (pg_name (i := 3) nd rfl (.inl rfl)) (pgs_cons (pg_name (i := 4) nd rfl (.inl rfl)) pgs_nil))))))
      (pss_cons (ps_for PassesOwn.never rfl (pi_list (pe_lst (pa_cons pe_non (pa_cons (pe_lst pa_nil) (pa_cons pe_str (pa_cons (pe_tup (pa_cons pe_str pa_nil)) (pa_cons (pe_tup (pa_cons pe_str pa_nil)) (pa_cons (pe_tup (pa_cons pe_str pa_nil)) (pa_cons (pe_tup (pa_cons pe_str pa_nil)) (pa_cons (pe_tup (pa_cons pe_str pa_nil)) (pa_cons (pe_tup (pa_cons pe_str pa_nil)) (pa_cons (pe_tup (pa_cons pe_int pa_nil)) (pa_cons (pe_tup (pa_cons pe_str (pa_cons pe_str pa_nil))) (pa_cons (pe_tup (pa_cons (pe_tup (pa_cons pe_str pa_nil)) pa_nil)) pa_nil)))))))))))))) (pg_name (i := 5) nd rfl (.inl rfl))
      (pss_one (ps_if (PW.pt (pw_or (pt_cmpR op_ne (pe_call ((ok__law_told TP C U M T).mono (by decide)) hr (by rfl) T.D__law_told.g T.D__law_told.kp T.D__law_told.b .nil pass0 (pa_cons (pv 5) (pa_cons pe_non (pa_cons pe_non (pa_cons pe_non pa_nil))))) pe_str (nomark _)) (pw_or1 (pt_cmpR op_ne (pe_call ((ok__law_told TP C U M T).mono (by decide)) hr (by rfl) T.D__law_told.g T.D__law_told.kp T.D__law_told.b .nil pass0 (pa_cons (pv 1) (pa_cons (pv 5) (pa_cons pe_non (pa_cons pe_non pa_nil))))) pe_str (nomark _)))))
        (pss_one (ps_ret pe_bl))
        pss_nil)))
      (pss_cons (ps_set (i := 6) nd rfl (.inl rfl) (pe_op op_catU (pv 1) (pv 2)))
      (pss_cons (ps_if (PW.pt (pw_or (pt_cmpR op_ne (pe_call ((ok__law_told TP C U M T).mono (by decide)) hr (by rfl) T.D__law_told.g T.D__law_told.kp T.D__law_told.b .nil pass0 (pa_cons (pv 6) (pa_cons (pe_slice (r := rSlU K) sl_tupU (pv 6) po_none (po_some pe_int)) (pa_cons pe_non (pa_cons pe_non pa_nil))))) pe_str (nomark _)) (pw_or1 (pt_cmpR op_ne (pe_call ((ok__law_told TP C U M T).mono (by decide)) hr (by rfl) T.D__law_told.g T.D__law_told.kp T.D__law_told.b .nil pass0 (pa_cons (pe_tup pa_nil) (pa_cons (pe_tup pa_nil) (pa_cons pe_non (pa_cons pe_non pa_nil))))) pe_str (nomark _)))))
      (pss_one (ps_ret pe_bl))
      pss_nil)
      (pss_cons (ps_if (pt_cmpR op_ne (pe_call ((ok__law_told TP C U M T).mono (by decide)) hr (by rfl) T.D__law_told.g T.D__law_told.kp T.D__law_told.b .nil pass0 (pa_cons (pe_tup (pa_cons pe_str (pa_cons pe_str (pa_cons pe_str pa_nil)))) (pa_cons (pe_tup (pa_cons pe_str (pa_cons pe_str pa_nil))) (pa_cons pe_non (pa_cons pe_non pa_nil))))) pe_str (nomark _))
      (pss_one (ps_ret pe_bl))
      pss_nil)
      (pss_cons (ps_if (pt_cmpR op_ne (pe_call ((ok__law_told TP C U M T).mono (by decide)) hr (by rfl) T.D__law_told.g T.D__law_told.kp T.D__law_told.b .nil pass0 (pa_cons (pe_tup (pa_cons pe_str (pa_cons pe_str (pa_cons pe_str (pa_cons pe_str (pa_cons pe_str pa_nil)))))) (pa_cons (pe_tup pa_nil) (pa_cons pe_non (pa_cons pe_non pa_nil))))) pe_str (nomark _))
      (pss_one (ps_ret pe_bl))
      pss_nil)
      (pss_cons (ps_for PassesOwn.never rfl (pi_list (pe_lst (pa_cons pe_non (pa_cons (pe_lst pa_nil) (pa_cons pe_str (pa_cons (pe_tup (pa_cons pe_str pa_nil)) (pa_cons (pe_tup (pa_cons (pe_tup (pa_cons pe_str pa_nil)) pa_nil)) (pa_cons (pe_op op_repT (pe_tup (pa_cons (pe_tup (pa_cons pe_str (pa_cons (pe_tup pa_nil) pa_nil))) pa_nil)) pe_int) (pa_cons (pe_tup (pa_cons (pe_tup (pa_cons pe_str (pa_cons (pe_tup pa_nil) (pa_cons (pe_tup pa_nil) pa_nil)))) pa_nil)) (pa_cons (pe_tup (pa_cons (pe_lst (pa_cons pe_str (pa_cons (pe_tup pa_nil) pa_nil))) pa_nil)) (pa_cons (pe_tup (pa_cons (pe_tup (pa_cons pe_str (pa_cons (pe_tup pa_nil) pa_nil))) pa_nil)) (pa_cons (pe_tup (pa_cons (pe_tup (pa_cons pe_int (pa_cons (pe_tup pa_nil) pa_nil))) pa_nil)) pa_nil)))))))))))) (pg_name (i := 5) nd rfl (.inl rfl))
      (pss_one (ps_if (pt_cmpR op_ne (pe_call ((ok__law_told TP C U M T).mono (by decide)) hr (by rfl) T.D__law_told.g T.D__law_told.kp T.D__law_told.b .nil pass0 (pa_cons (pv 1) (pa_cons (pv 2) (pa_cons (pv 5) (pa_cons pe_non pa_nil))))) pe_str (nomark _))
        (pss_one (ps_ret pe_bl))
        pss_nil)))
      (pss_cons (ps_set (i := 7) nd rfl (.inl rfl) (pe_callTy call_tuple_of (by rfl) T.m_tuple (by decide +kernel) (pa_cons (pe_lc (own := [("_law_sign", 8)]) (g := (gName 8)) (tt := tYes) rfl nd (pi_str pe_str) (blkOk_by (N := N_l_parts_hold) (sc := defScope s_l_parts_hold) (by decide +kernel)) (fun _ _ _ _ _ => (pg_name (i := 8) nd rfl (.inl rfl))) (fun _ _ _ _ _ => pts_nil) (fun _ _ _ _ _ => (pe_tup (pa_cons (pv 8) (pa_cons (pe_tup pa_nil) pa_nil))))) pa_nil)))
      (pss_cons (ps_if (pt_cmpR op_ne (pe_call ((ok__law_told TP C U M T).mono (by decide)) hr (by rfl) T.D__law_told.g T.D__law_told.kp T.D__law_told.b .nil pass0 (pa_cons (pv 1) (pa_cons (pv 2) (pa_cons (pv 7) (pa_cons pe_non pa_nil))))) pe_str (nomark _))
      (pss_one (ps_ret pe_bl))
      pss_nil)
      (pss_cons (ps_if (pt_cmpR op_notN (pe_call ((ok__law_told TP C U M T).mono (by decide)) hr (by rfl) T.D__law_told.g T.D__law_told.kp T.D__law_told.b .nil pass0 (pa_cons (pv 1) (pa_cons (pv 2) (pa_cons (pe_slice (r := rSlU K) sl_tupU (pv 7) po_none (po_some pe_int)) (pa_cons (pe_tup pa_nil) pa_nil))))) pe_non (nomark _))
      (pss_one (ps_ret pe_bl))
      pss_nil)
      (pss_cons (ps_for PassesOwn.never rfl (pi_list (pe_lst (pa_cons pe_non (pa_cons (pe_lst pa_nil) (pa_cons pe_str (pa_cons pe_int (pa_cons pe_dnewK (pa_cons (pe_tup (pa_cons pe_str (pa_cons (pe_tup (pa_cons pe_str pa_nil)) pa_nil))) pa_nil)))))))) (pg_name (i := 5) nd rfl (.inl rfl))
      (pss_one (ps_if (pt_cmpR op_ne (pe_call ((ok__law_told TP C U M T).mono (by decide)) hr (by rfl) T.D__law_told.g T.D__law_told.kp T.D__law_told.b .nil pass0 (pa_cons (pv 1) (pa_cons (pv 2) (pa_cons (pv 3) (pa_cons (pv 5) pa_nil))))) pe_str (nomark _))
        (pss_one (ps_ret pe_bl))
        pss_nil)))
      (pss_one (ps_ret pe_bl))))))))))))), ?_⟩
    -- BODY
    obtain ⟨pa, gv, vv, qv, mv, rfl, hPS, hP⟩ := dp_pt hd
    obtain ⟨ga, rfl, hga⟩ := id hP.g
    obtain ⟨va, rfl, hva⟩ := id hP.v
    refine ⟨_, rfl, pa, _, rfl, hPS, rfl, _, _, rfl, _, _, rfl, _, _, rfl, _, _, rfl, rfl, ?_⟩
    have vo : VarsOk pt.given pt.vars := ⟨f.N, f.nd, f.l1, f.l4⟩
    have l4 := vo.l4
    have l1 := vo.l1
    have szs := sm.szs
    have gG : ∀ {H'}, Same H H' → Gp K H' (.ref ga) (.tuple (pt.given.map sD)) := fun s => gp_strs (Same.sqt s hga)
    have gV : ∀ {H'}, Same H H' → Gp K H' (.ref va) (.tuple (pt.vars.map sD)) := fun s => gp_strs (Same.sqt s hva)
    have gQ : ∀ {H'}, Same H H' → Gp K H' qv (prsD pt.ps) := fun s => (gp_of_dp hP.q).same s
    have nG : NmX (.tuple (pt.given.map sD)) := NmX.names vo.given.1 (by omega)
    have nV : NmX (.tuple (pt.vars.map sD)) := NmX.names (fun x hx => vo.N x (List.mem_append_right _ hx)) (by omega)
    have n0 : NmX .none := NmX.non fun ds e => by cases e
    have bN : BlX .none := .one (fun ds e => by cases e) (.inl (gd_dec (by decide +kernel)))
    have pN : PrX .none := PrX.non fun ds e => by cases e
    have eqs : ∀ x : Str, (!decide (V.str x = V.str x)) = false := fun x => by
      rw [decide_eq_true rfl]
      rfl
    refine ⟨small (by show 0 ≤ 5000; decide), fun ap1 an1 => ?_⟩
    have at1 := same_new (o := HO.lst []) an1
    have ah1 : (upd H ap1 (HO.lst [])) ap1 = some (HO.lst []) := upd_same
    generalize upd H ap1 (HO.lst []) = aA1 at at1 ah1 ⊢
    refine ⟨small (by show 1 ≤ 5000; decide), fun ap2 an2 => ?_⟩
    have at2 := same_new (o := HO.tup [.str "A"]) an2
    have ah2 : (upd aA1 ap2 (HO.tup [.str "A"])) ap2 = some (HO.tup [.str "A"]) := upd_same
    generalize upd aA1 ap2 (HO.tup [.str "A"]) = aA2 at at2 ah2 ⊢
    refine ⟨small (by show 1 ≤ 5000; decide), fun ap3 an3 => ?_⟩
    have at3 := same_new (o := HO.tup [.str ""]) an3
    have ah3 : (upd aA2 ap3 (HO.tup [.str ""])) ap3 = some (HO.tup [.str ""]) := upd_same
    generalize upd aA2 ap3 (HO.tup [.str ""]) = aA3 at at3 ah3 ⊢
    refine ⟨small (by show 1 ≤ 5000; decide), fun ap4 an4 => ?_⟩
    have at4 := same_new (o := HO.tup [.str "abcdefghi"]) an4
    have ah4 : (upd aA3 ap4 (HO.tup [.str "abcdefghi"])) ap4 = some (HO.tup [.str "abcdefghi"]) := upd_same
    generalize upd aA3 ap4 (HO.tup [.str "abcdefghi"]) = aA4 at at4 ah4 ⊢
    refine ⟨small (by show 1 ≤ 5000; decide), fun ap5 an5 => ?_⟩
    have at5 := same_new (o := HO.tup [.str "a1"]) an5
    have ah5 : (upd aA4 ap5 (HO.tup [.str "a1"])) ap5 = some (HO.tup [.str "a1"]) := upd_same
    generalize upd aA4 ap5 (HO.tup [.str "a1"]) = aA5 at at5 ah5 ⊢
    refine ⟨small (by show 1 ≤ 5000; decide), fun ap6 an6 => ?_⟩
    have at6 := same_new (o := HO.tup [.str "main"]) an6
    have ah6 : (upd aA5 ap6 (HO.tup [.str "main"])) ap6 = some (HO.tup [.str "main"]) := upd_same
    generalize upd aA5 ap6 (HO.tup [.str "main"]) = aA6 at at6 ah6 ⊢
    refine ⟨small (by show 1 ≤ 5000; decide), fun ap7 an7 => ?_⟩
    have at7 := same_new (o := HO.tup [.str "if"]) an7
    have ah7 : (upd aA6 ap7 (HO.tup [.str "if"])) ap7 = some (HO.tup [.str "if"]) := upd_same
    generalize upd aA6 ap7 (HO.tup [.str "if"]) = aA7 at at7 ah7 ⊢
    refine ⟨small (by show 1 ≤ 5000; decide), fun ap8 an8 => ?_⟩
    have at8 := same_new (o := HO.tup [.int 5]) an8
    have ah8 : (upd aA7 ap8 (HO.tup [.int 5])) ap8 = some (HO.tup [.int 5]) := upd_same
    generalize upd aA7 ap8 (HO.tup [.int 5]) = aA8 at at8 ah8 ⊢
    refine ⟨small (by show 2 ≤ 5000; decide), fun ap9 an9 => ?_⟩
    have at9 := same_new (o := HO.tup [.str "a", .str "a"]) an9
    have ah9 : (upd aA8 ap9 (HO.tup [.str "a", .str "a"])) ap9 = some (HO.tup [.str "a", .str "a"]) := upd_same
    generalize upd aA8 ap9 (HO.tup [.str "a", .str "a"]) = aA9 at at9 ah9 ⊢
    refine ⟨small (by show 1 ≤ 5000; decide), fun ap10 an10 => ?_⟩
    have at10 := same_new (o := HO.tup [.str "a"]) an10
    have ah10 : (upd aA9 ap10 (HO.tup [.str "a"])) ap10 = some (HO.tup [.str "a"]) := upd_same
    generalize upd aA9 ap10 (HO.tup [.str "a"]) = aA10 at at10 ah10 ⊢
    refine ⟨small (by show 1 ≤ 5000; decide), fun ap11 an11 => ?_⟩
    have at11 := same_new (o := HO.tup [.ref ap10]) an11
    have ah11 : (upd aA10 ap11 (HO.tup [.ref ap10])) ap11 = some (HO.tup [.ref ap10]) := upd_same
    generalize upd aA10 ap11 (HO.tup [.ref ap10]) = aA11 at at11 ah11 ⊢
    refine ⟨small (by show 12 ≤ 5000; decide), fun ap12 an12 => ?_⟩
    have at12 := same_new (o := HO.lst [.non, .ref ap1, .str "a", .ref ap2, .ref ap3, .ref ap4, .ref ap5, .ref ap6, .ref ap7, .ref ap8, .ref ap9, .ref ap11]) an12
    have ah12 : (upd aA11 ap12 (HO.lst [.non, .ref ap1, .str "a", .ref ap2, .ref ap3, .ref ap4, .ref ap5, .ref ap6, .ref ap7, .ref ap8, .ref ap9, .ref ap11])) ap12 = some (HO.lst [.non, .ref ap1, .str "a", .ref ap2, .ref ap3, .ref ap4, .ref ap5, .ref ap6, .ref ap7, .ref ap8, .ref ap9, .ref ap11]) := upd_same
    generalize upd aA11 ap12 (HO.lst [.non, .ref ap1, .str "a", .ref ap2, .ref ap3, .ref ap4, .ref ap5, .ref ap6, .ref ap7, .ref ap8, .ref ap9, .ref ap11]) = aA12 at at12 ah12 ⊢
    have au12 := Same.refl aA12
    have au11 := at12.trans au12
    have au10 := at11.trans au11
    have au9 := at10.trans au10
    have au8 := at9.trans au9
    have au7 := at8.trans au8
    have au6 := at7.trans au7
    have au5 := at6.trans au6
    have au4 := at5.trans au5
    have au3 := at4.trans au4
    have au2 := at3.trans au3
    have au1 := at2.trans au2
    have au0 := at1.trans au1
    have all : ∀ z ∈ ([.non, .ref ap1, .str "a", .ref ap2, .ref ap3, .ref ap4, .ref ap5, .ref ap6, .ref ap7, .ref ap8, .ref ap9, .ref ap11] : List V), ∃ d, Gp K aA12 z d ∧ NmX d ∧ namesB d = false := fun z hz => by
      simp only [List.mem_cons, List.not_mem_nil, or_false] at hz
      rcases hz with rfl | rfl | rfl | rfl | rfl | rfl | rfl | rfl | rfl | rfl | rfl | rfl
      · exact ⟨.none, .non, nmX_dec (gd_dec (by decide +kernel)) (by decide +kernel), by decide +kernel⟩
      · exact ⟨.list [], .lst (SqL.of (au1 _ _ ah1)) .nil, nmX_dec (gd_dec (by decide +kernel)) (by decide +kernel), by decide +kernel⟩
      · exact ⟨.str "a", .str _, nmX_dec (gd_dec (by decide +kernel)) (by decide +kernel), by decide +kernel⟩
      · exact ⟨.tuple [.str "A"], .tup (SqT.of (au2 _ _ ah2)) (.cons (.str _) .nil), nmX_dec (gd_dec (by decide +kernel)) (by decide +kernel), by decide +kernel⟩
      · exact ⟨.tuple [.str ""], .tup (SqT.of (au3 _ _ ah3)) (.cons (.str _) .nil), nmX_dec (gd_dec (by decide +kernel)) (by decide +kernel), by decide +kernel⟩
      · exact ⟨.tuple [.str "abcdefghi"], .tup (SqT.of (au4 _ _ ah4)) (.cons (.str _) .nil), nmX_dec (gd_dec (by decide +kernel)) (by decide +kernel), by decide +kernel⟩
      · exact ⟨.tuple [.str "a1"], .tup (SqT.of (au5 _ _ ah5)) (.cons (.str _) .nil), nmX_dec (gd_dec (by decide +kernel)) (by decide +kernel), by decide +kernel⟩
      · exact ⟨.tuple [.str "main"], .tup (SqT.of (au6 _ _ ah6)) (.cons (.str _) .nil), nmX_dec (gd_dec (by decide +kernel)) (by decide +kernel), by decide +kernel⟩
      · exact ⟨.tuple [.str "if"], .tup (SqT.of (au7 _ _ ah7)) (.cons (.str _) .nil), nmX_dec (gd_dec (by decide +kernel)) (by decide +kernel), by decide +kernel⟩
      · exact ⟨.tuple [.int 5], .tup (SqT.of (au8 _ _ ah8)) (.cons (.int _) .nil), nmX_dec (gd_dec (by decide +kernel)) (by decide +kernel), by decide +kernel⟩
      · exact ⟨.tuple [.str "a", .str "a"], .tup (SqT.of (au9 _ _ ah9)) (.cons (.str _) (.cons (.str _) .nil)), nmX_dec (gd_dec (by decide +kernel)) (by decide +kernel), by decide +kernel⟩
      · exact ⟨.tuple [.tuple [.str "a"]], .tup (SqT.of (au11 _ _ ah11)) (.cons (.tup (SqT.of (au10 _ _ ah10)) (.cons (.str _) .nil)) .nil), nmX_dec (gd_dec (by decide +kernel)) (by decide +kernel), by decide +kernel⟩
    clear ah1 ah2 ah3 ah4 ah5 ah6 ah7 ah8 ah9 ah10 ah11
    refine ⟨ap12, rfl, ⟨_, SqL.of ah12⟩, for_list (K := K) (a := ap12) (fun _ σ H' => Same aA12 H' ∧ ∃ y, σ = [some (.ref pa), some (.ref ga), some (.ref va), some qv, some mv, y, none, none, none]) ⟨Same.refl _, _, rfl⟩ (fun i' σ H' _ h => SqL.of (h.1 _ _ ah12)) ?_ ?_⟩
    · rintro i z σ B1 hz ⟨s1, y, rfl⟩
      obtain ⟨d, hd1, nx, nn⟩ := all z (List.mem_of_getElem? hz)
      refine ⟨_, rfl, z, .non, .non, .non, d, .none, .none, .none, rfl, hd1.same s1, .non, .non, .non, nx, n0, init_given (not_names nn) fun B2 s2 => ?_⟩
      refine ⟨rfl, _, rfl, ?_⟩
      rw [eqs]
      refine iteF ?_
      refine ⟨_, rfl, _, rfl, .ref ga, z, .non, .non, _, d, .none, .none, rfl, gG (au0.trans (s1.trans s2)), hd1.same (s1.trans s2), .non, .non, nG, nx, init_vars vo.given.1 vo.given.2 (not_vars nn) fun B3 s3 => ?_⟩
      refine ⟨rfl, _, rfl, ?_⟩
      rw [eqs]
      exact iteF ⟨s1.trans (s2.trans s3), _, rfl⟩
    rintro σ B1 ⟨s1, y, rfl⟩
    have s01 := au0.trans s1
    clear all
    refine ⟨_, rfl, _, rfl, ga, va, _, _, rfl, rfl, Same.sqt s01 hga, Same.sqt s01 hva, by rw [List.length_map, List.length_map, sizeLine_eq]; omega, fun np B2 s2 hnp => ?_⟩
    rw [← List.map_append] at hnp
    refine ⟨_, rfl, _, rfl, _, rfl, np, _, rfl, hnp, fun np1 B3 s3 hnp1 => ?_⟩
    rw [show ((1 : Int)) = ((1 : Nat) : Int) from rfl, cut_to, ← List.map_take] at hnp1
    have nlen : (pt.given ++ pt.vars).length ≤ 4 := by rw [List.length_append]; exact l4
    refine ⟨.ref np, .ref np1, .non, .non, _, _, .none, .none, rfl, gp_strs (Same.sqt s3 hnp), gp_strs hnp1, .non, .non, NmX.names vo.N (by omega), NmX.names (fun x hx => vo.N x (List.mem_of_mem_take hx)) (by rw [List.length_take]; omega), init_vars vo.N vo.nd (fun z => ?_) fun B4 s4 => ?_⟩
    · obtain ⟨vs, e, v2⟩ := z
      have e := strs_tup e
      have h2 := v2.nd
      rw [← e] at h2
      have h3 := (List.nodup_append.mp h2).2.2
      have nl1 : 1 ≤ (pt.given ++ pt.vars).length := by rw [List.length_append]; exact l1
      generalize pt.given ++ pt.vars = nm at h3 nlen nl1
      cases nm with
      | nil => exact absurd nl1 (by decide)
      | cons x r => exact h3 x List.mem_cons_self x (by simp) rfl
    have len_of : ∀ {gs vs : List Str} {ds : List PyData}, PyData.tuple ds = .tuple (vs.map sD) → VarsOk gs vs → gs.length + ds.length ≤ 4 := fun e v2 => by
      have e := congrArg List.length (PyData.tuple.inj e)
      rw [List.length_map] at e
      have := v2.l4
      omega
    refine ⟨rfl, _, rfl, ?_⟩
    rw [eqs]
    refine iteF ?_
    refine ⟨small (by show 0 ≤ 5000; decide), fun b1 m1 => ?_⟩
    have s5 := same_new (o := HO.tup []) m1
    have k1 : (upd B4 b1 (HO.tup [])) b1 = some (HO.tup []) := upd_same
    generalize upd B4 b1 (HO.tup []) = B5 at s5 k1 ⊢
    refine ⟨small (by show 0 ≤ 5000; decide), fun b2 m2 => ?_⟩
    have s6 := same_new (o := HO.tup []) m2
    have k2 : (upd B5 b2 (HO.tup [])) b2 = some (HO.tup []) := upd_same
    generalize upd B5 b2 (HO.tup []) = B6 at s6 k2 ⊢
    refine ⟨.ref b1, .ref b2, .non, .non, .tuple (([] : List Str).map sD), .tuple [], .none, .none, rfl, gp_strs (SqT.of (s6 _ _ k1)), .tup (SqT.of k2) .nil, .non, .non, NmX.names (fun x h => by cases h) (by decide), nmX_dec (gd_dec (by decide +kernel)) (by decide +kernel), init_vars (fun x h => by cases h) (by decide) (fun z => ?_) fun B7 s7 => ?_⟩
    · obtain ⟨vs, e, v2⟩ := z
      have e := congrArg List.length (PyData.tuple.inj e)
      have := v2.l1
      simp only [List.length_map, List.length_nil] at e this
      omega
    refine ⟨rfl, _, rfl, ?_⟩
    rw [eqs]
    refine iteF ?_
    refine ⟨small (by show 3 ≤ 5000; decide), fun b3 m3 => ?_⟩
    have s8 := same_new (o := HO.tup [.str "a", .str "b", .str "c"]) m3
    have k3 : (upd B7 b3 (HO.tup [.str "a", .str "b", .str "c"])) b3 = some (HO.tup [.str "a", .str "b", .str "c"]) := upd_same
    generalize upd B7 b3 (HO.tup [.str "a", .str "b", .str "c"]) = B8 at s8 k3 ⊢
    refine ⟨small (by show 2 ≤ 5000; decide), fun b4 m4 => ?_⟩
    have s9 := same_new (o := HO.tup [.str "d", .str "e"]) m4
    have k4 : (upd B8 b4 (HO.tup [.str "d", .str "e"])) b4 = some (HO.tup [.str "d", .str "e"]) := upd_same
    generalize upd B8 b4 (HO.tup [.str "d", .str "e"]) = B9 at s9 k4 ⊢
    refine ⟨.ref b3, .ref b4, .non, .non, .tuple ((["a", "b", "c"] : List Str).map sD), .tuple [.str "d", .str "e"], .none, .none, rfl, gp_strs (SqT.of (s9 _ _ k3)), .tup (SqT.of k4) (.cons (.str _) (.cons (.str _) .nil)), .non, .non, NmX.names (names_dec (by decide +kernel)) (by decide), nmX_dec (gd_dec (by decide +kernel)) (by decide +kernel), init_vars (names_dec (by decide +kernel)) (by decide +kernel) (fun z => ?_) fun B10 s10 => ?_⟩
    · obtain ⟨vs, e, v2⟩ := z
      exact absurd (len_of e v2) (by decide)
    refine ⟨rfl, _, rfl, ?_⟩
    rw [eqs]
    refine iteF ?_
    refine ⟨small (by show 5 ≤ 5000; decide), fun b5 m5 => ?_⟩
    have s11 := same_new (o := HO.tup [.str "a", .str "b", .str "c", .str "d", .str "e"]) m5
    have k5 : (upd B10 b5 (HO.tup [.str "a", .str "b", .str "c", .str "d", .str "e"])) b5 = some (HO.tup [.str "a", .str "b", .str "c", .str "d", .str "e"]) := upd_same
    generalize upd B10 b5 (HO.tup [.str "a", .str "b", .str "c", .str "d", .str "e"]) = B11 at s11 k5 ⊢
    refine ⟨small (by show 0 ≤ 5000; decide), fun b6 m6 => ?_⟩
    have s12 := same_new (o := HO.tup []) m6
    have k6 : (upd B11 b6 (HO.tup [])) b6 = some (HO.tup []) := upd_same
    generalize upd B11 b6 (HO.tup []) = B12 at s12 k6 ⊢
    refine ⟨.ref b5, .ref b6, .non, .non, .tuple ((["a", "b", "c", "d", "e"] : List Str).map sD), .tuple [], .none, .none, rfl, gp_strs (SqT.of (s12 _ _ k5)), .tup (SqT.of k6) .nil, .non, .non, NmX.names (names_dec (by decide +kernel)) (by decide), nmX_dec (gd_dec (by decide +kernel)) (by decide +kernel), init_vars (names_dec (by decide +kernel)) (by decide +kernel) (fun z => ?_) fun B13 s13 => ?_⟩
    · obtain ⟨vs, e, v2⟩ := z
      exact absurd (len_of e v2) (by decide)
    refine ⟨rfl, _, rfl, ?_⟩
    rw [eqs]
    refine iteF ?_
    have s113 := s01.trans ((s2.trans (s3.trans s4)).trans (((s5.trans s6).trans s7).trans (((s8.trans s9).trans s10).trans ((s11.trans s12).trans s13))))
    clear k1 k2 k3 k4 k5 k6 s2 s3 s4 s5 s6 s7 s8 s9 s10 s11 s12 s13 m1 m2 m3 m4 m5 m6 hnp hnp1 s01 s1
    refine ⟨small (by show 0 ≤ 5000; decide), fun cp1 cn1 => ?_⟩
    have ct1 := same_new (o := HO.lst []) cn1
    have ch1 : (upd B13 cp1 (HO.lst [])) cp1 = some (HO.lst []) := upd_same
    generalize upd B13 cp1 (HO.lst []) = cA1 at ct1 ch1 ⊢
    refine ⟨small (by show 1 ≤ 5000; decide), fun cp2 cn2 => ?_⟩
    have ct2 := same_new (o := HO.tup [.str "p"]) cn2
    have ch2 : (upd cA1 cp2 (HO.tup [.str "p"])) cp2 = some (HO.tup [.str "p"]) := upd_same
    generalize upd cA1 cp2 (HO.tup [.str "p"]) = cA2 at ct2 ch2 ⊢
    refine ⟨small (by show 1 ≤ 5000; decide), fun cp3 cn3 => ?_⟩
    have ct3 := same_new (o := HO.tup [.str "p"]) cn3
    have ch3 : (upd cA2 cp3 (HO.tup [.str "p"])) cp3 = some (HO.tup [.str "p"]) := upd_same
    generalize upd cA2 cp3 (HO.tup [.str "p"]) = cA3 at ct3 ch3 ⊢
    refine ⟨small (by show 1 ≤ 5000; decide), fun cp4 cn4 => ?_⟩
    have ct4 := same_new (o := HO.tup [.ref cp3]) cn4
    have ch4 : (upd cA3 cp4 (HO.tup [.ref cp3])) cp4 = some (HO.tup [.ref cp3]) := upd_same
    generalize upd cA3 cp4 (HO.tup [.ref cp3]) = cA4 at ct4 ch4 ⊢
    refine ⟨small (by show 0 ≤ 5000; decide), fun cp5 cn5 => ?_⟩
    have ct5 := same_new (o := HO.tup []) cn5
    have ch5 : (upd cA4 cp5 (HO.tup [])) cp5 = some (HO.tup []) := upd_same
    generalize upd cA4 cp5 (HO.tup []) = cA5 at ct5 ch5 ⊢
    refine ⟨small (by show 2 ≤ 5000; decide), fun cp6 cn6 => ?_⟩
    have ct6 := same_new (o := HO.tup [.str "p", .ref cp5]) cn6
    have ch6 : (upd cA5 cp6 (HO.tup [.str "p", .ref cp5])) cp6 = some (HO.tup [.str "p", .ref cp5]) := upd_same
    generalize upd cA5 cp6 (HO.tup [.str "p", .ref cp5]) = cA6 at ct6 ch6 ⊢
    refine ⟨small (by show 1 ≤ 5000; decide), fun cp7 cn7 => ?_⟩
    have ct7 := same_new (o := HO.tup [.ref cp6]) cn7
    have ch7 : (upd cA6 cp7 (HO.tup [.ref cp6])) cp7 = some (HO.tup [.ref cp6]) := upd_same
    generalize upd cA6 cp7 (HO.tup [.ref cp6]) = cA7 at ct7 ch7 ⊢
    refine ⟨cp7, 2, [.ref cp6], rfl, rfl, SqT.of ch7, (fun z => by cases z), by decide, by decide, by show 1 ≤ 1000; decide, fun cp8 cn8 => ?_⟩
    generalize chX8 : upd cA7 cp8 _ = cA8
    have ct8 : Same cA7 cA8 := chX8 ▸ same_new cn8
    have ch8 : cA8 cp8 = some (.tup [.ref cp6, .ref cp6]) := by rw [← chX8]; exact upd_same
    clear chX8
    refine ⟨small (by show 0 ≤ 5000; decide), fun cp9 cn9 => ?_⟩
    have ct9 := same_new (o := HO.tup []) cn9
    have ch9 : (upd cA8 cp9 (HO.tup [])) cp9 = some (HO.tup []) := upd_same
    generalize upd cA8 cp9 (HO.tup []) = cA9 at ct9 ch9 ⊢
    refine ⟨small (by show 0 ≤ 5000; decide), fun cp10 cn10 => ?_⟩
    have ct10 := same_new (o := HO.tup []) cn10
    have ch10 : (upd cA9 cp10 (HO.tup [])) cp10 = some (HO.tup []) := upd_same
    generalize upd cA9 cp10 (HO.tup []) = cA10 at ct10 ch10 ⊢
    refine ⟨small (by show 3 ≤ 5000; decide), fun cp11 cn11 => ?_⟩
    have ct11 := same_new (o := HO.tup [.str "p", .ref cp9, .ref cp10]) cn11
    have ch11 : (upd cA10 cp11 (HO.tup [.str "p", .ref cp9, .ref cp10])) cp11 = some (HO.tup [.str "p", .ref cp9, .ref cp10]) := upd_same
    generalize upd cA10 cp11 (HO.tup [.str "p", .ref cp9, .ref cp10]) = cA11 at ct11 ch11 ⊢
    refine ⟨small (by show 1 ≤ 5000; decide), fun cp12 cn12 => ?_⟩
    have ct12 := same_new (o := HO.tup [.ref cp11]) cn12
    have ch12 : (upd cA11 cp12 (HO.tup [.ref cp11])) cp12 = some (HO.tup [.ref cp11]) := upd_same
    generalize upd cA11 cp12 (HO.tup [.ref cp11]) = cA12 at ct12 ch12 ⊢
    refine ⟨small (by show 0 ≤ 5000; decide), fun cp13 cn13 => ?_⟩
    have ct13 := same_new (o := HO.tup []) cn13
    have ch13 : (upd cA12 cp13 (HO.tup [])) cp13 = some (HO.tup []) := upd_same
    generalize upd cA12 cp13 (HO.tup []) = cA13 at ct13 ch13 ⊢
    refine ⟨small (by show 2 ≤ 5000; decide), fun cp14 cn14 => ?_⟩
    have ct14 := same_new (o := HO.lst [.str "p", .ref cp13]) cn14
    have ch14 : (upd cA13 cp14 (HO.lst [.str "p", .ref cp13])) cp14 = some (HO.lst [.str "p", .ref cp13]) := upd_same
    generalize upd cA13 cp14 (HO.lst [.str "p", .ref cp13]) = cA14 at ct14 ch14 ⊢
    refine ⟨small (by show 1 ≤ 5000; decide), fun cp15 cn15 => ?_⟩
    have ct15 := same_new (o := HO.tup [.ref cp14]) cn15
    have ch15 : (upd cA14 cp15 (HO.tup [.ref cp14])) cp15 = some (HO.tup [.ref cp14]) := upd_same
    generalize upd cA14 cp15 (HO.tup [.ref cp14]) = cA15 at ct15 ch15 ⊢
    refine ⟨small (by show 0 ≤ 5000; decide), fun cp16 cn16 => ?_⟩
    have ct16 := same_new (o := HO.tup []) cn16
    have ch16 : (upd cA15 cp16 (HO.tup [])) cp16 = some (HO.tup []) := upd_same
    generalize upd cA15 cp16 (HO.tup []) = cA16 at ct16 ch16 ⊢
    refine ⟨small (by show 2 ≤ 5000; decide), fun cp17 cn17 => ?_⟩
    have ct17 := same_new (o := HO.tup [.str "P", .ref cp16]) cn17
    have ch17 : (upd cA16 cp17 (HO.tup [.str "P", .ref cp16])) cp17 = some (HO.tup [.str "P", .ref cp16]) := upd_same
    generalize upd cA16 cp17 (HO.tup [.str "P", .ref cp16]) = cA17 at ct17 ch17 ⊢
    refine ⟨small (by show 1 ≤ 5000; decide), fun cp18 cn18 => ?_⟩
    have ct18 := same_new (o := HO.tup [.ref cp17]) cn18
    have ch18 : (upd cA17 cp18 (HO.tup [.ref cp17])) cp18 = some (HO.tup [.ref cp17]) := upd_same
    generalize upd cA17 cp18 (HO.tup [.ref cp17]) = cA18 at ct18 ch18 ⊢
    refine ⟨small (by show 0 ≤ 5000; decide), fun cp19 cn19 => ?_⟩
    have ct19 := same_new (o := HO.tup []) cn19
    have ch19 : (upd cA18 cp19 (HO.tup [])) cp19 = some (HO.tup []) := upd_same
    generalize upd cA18 cp19 (HO.tup []) = cA19 at ct19 ch19 ⊢
    refine ⟨small (by show 2 ≤ 5000; decide), fun cp20 cn20 => ?_⟩
    have ct20 := same_new (o := HO.tup [.int 5, .ref cp19]) cn20
    have ch20 : (upd cA19 cp20 (HO.tup [.int 5, .ref cp19])) cp20 = some (HO.tup [.int 5, .ref cp19]) := upd_same
    generalize upd cA19 cp20 (HO.tup [.int 5, .ref cp19]) = cA20 at ct20 ch20 ⊢
    refine ⟨small (by show 1 ≤ 5000; decide), fun cp21 cn21 => ?_⟩
    have ct21 := same_new (o := HO.tup [.ref cp20]) cn21
    have ch21 : (upd cA20 cp21 (HO.tup [.ref cp20])) cp21 = some (HO.tup [.ref cp20]) := upd_same
    generalize upd cA20 cp21 (HO.tup [.ref cp20]) = cA21 at ct21 ch21 ⊢
    refine ⟨small (by show 10 ≤ 5000; decide), fun cp22 cn22 => ?_⟩
    have ct22 := same_new (o := HO.lst [.non, .ref cp1, .str "p", .ref cp2, .ref cp4, .ref cp8, .ref cp12, .ref cp15, .ref cp18, .ref cp21]) cn22
    have ch22 : (upd cA21 cp22 (HO.lst [.non, .ref cp1, .str "p", .ref cp2, .ref cp4, .ref cp8, .ref cp12, .ref cp15, .ref cp18, .ref cp21])) cp22 = some (HO.lst [.non, .ref cp1, .str "p", .ref cp2, .ref cp4, .ref cp8, .ref cp12, .ref cp15, .ref cp18, .ref cp21]) := upd_same
    generalize upd cA21 cp22 (HO.lst [.non, .ref cp1, .str "p", .ref cp2, .ref cp4, .ref cp8, .ref cp12, .ref cp15, .ref cp18, .ref cp21]) = cA22 at ct22 ch22 ⊢
    have cu22 := Same.refl cA22
    have cu21 := ct22.trans cu22
    have cu20 := ct21.trans cu21
    have cu19 := ct20.trans cu20
    have cu18 := ct19.trans cu19
    have cu17 := ct18.trans cu18
    have cu16 := ct17.trans cu17
    have cu15 := ct16.trans cu16
    have cu14 := ct15.trans cu15
    have cu13 := ct14.trans cu14
    have cu12 := ct13.trans cu13
    have cu11 := ct12.trans cu12
    have cu10 := ct11.trans cu11
    have cu9 := ct10.trans cu10
    have cu8 := ct9.trans cu9
    have cu7 := ct8.trans cu8
    have cu6 := ct7.trans cu7
    have cu5 := ct6.trans cu6
    have cu4 := ct5.trans cu5
    have cu3 := ct4.trans cu4
    have cu2 := ct3.trans cu3
    have cu1 := ct2.trans cu2
    have cu0 := ct1.trans cu1
    have all : ∀ z ∈ ([.non, .ref cp1, .str "p", .ref cp2, .ref cp4, .ref cp8, .ref cp12, .ref cp15, .ref cp18, .ref cp21] : List V), ∃ d, Gp K cA22 z d ∧ PrX d ∧ prsB d = false := fun z hz => by
      simp only [List.mem_cons, List.not_mem_nil, or_false] at hz
      rcases hz with rfl | rfl | rfl | rfl | rfl | rfl | rfl | rfl | rfl | rfl
      · exact ⟨.none, .non, PrX.of (.inl (gd_dec (by decide +kernel))), by decide +kernel⟩
      · exact ⟨.list [], .lst (SqL.of (cu1 _ _ ch1)) .nil, PrX.of (.inl (gd_dec (by decide +kernel))), by decide +kernel⟩
      · exact ⟨.str "p", .str _, PrX.of (.inl (gd_dec (by decide +kernel))), by decide +kernel⟩
      · exact ⟨.tuple [.str "p"], .tup (SqT.of (cu2 _ _ ch2)) (.cons (.str _) .nil), PrX.of (.inl (gd_dec (by decide +kernel))), by decide +kernel⟩
      · exact ⟨.tuple [.tuple [.str "p"]], .tup (SqT.of (cu4 _ _ ch4)) (.cons (.tup (SqT.of (cu3 _ _ ch3)) (.cons (.str _) .nil)) .nil), PrX.of (.inl (gd_dec (by decide +kernel))), by decide +kernel⟩
      · exact ⟨.tuple [.tuple [.str "p", .tuple []], .tuple [.str "p", .tuple []]], .tup (SqT.of (cu8 _ _ ch8)) (.cons (.tup (SqT.of (cu6 _ _ ch6)) (.cons (.str _) (.cons (.tup (SqT.of (cu5 _ _ ch5)) .nil) .nil))) (.cons (.tup (SqT.of (cu6 _ _ ch6)) (.cons (.str _) (.cons (.tup (SqT.of (cu5 _ _ ch5)) .nil) .nil))) .nil)), PrX.of (.inl (gd_dec (by decide +kernel))), by decide +kernel⟩
      · exact ⟨.tuple [.tuple [.str "p", .tuple [], .tuple []]], .tup (SqT.of (cu12 _ _ ch12)) (.cons (.tup (SqT.of (cu11 _ _ ch11)) (.cons (.str _) (.cons (.tup (SqT.of (cu9 _ _ ch9)) .nil) (.cons (.tup (SqT.of (cu10 _ _ ch10)) .nil) .nil)))) .nil), PrX.of (.inl (gd_dec (by decide +kernel))), by decide +kernel⟩
      · exact ⟨.tuple [.list [.str "p", .tuple []]], .tup (SqT.of (cu15 _ _ ch15)) (.cons (.lst (SqL.of (cu14 _ _ ch14)) (.cons (.str _) (.cons (.tup (SqT.of (cu13 _ _ ch13)) .nil) .nil))) .nil), PrX.of (.inl (gd_dec (by decide +kernel))), by decide +kernel⟩
      · exact ⟨.tuple [.tuple [.str "P", .tuple []]], .tup (SqT.of (cu18 _ _ ch18)) (.cons (.tup (SqT.of (cu17 _ _ ch17)) (.cons (.str _) (.cons (.tup (SqT.of (cu16 _ _ ch16)) .nil) .nil))) .nil), PrX.of (.inl (gd_dec (by decide +kernel))), by decide +kernel⟩
      · exact ⟨.tuple [.tuple [.int 5, .tuple []]], .tup (SqT.of (cu21 _ _ ch21)) (.cons (.tup (SqT.of (cu20 _ _ ch20)) (.cons (.int _) (.cons (.tup (SqT.of (cu19 _ _ ch19)) .nil) .nil))) .nil), PrX.of (.inl (gd_dec (by decide +kernel))), by decide +kernel⟩
    clear ch1 ch2 ch3 ch4 ch5 ch6 ch7 ch8 ch9 ch10 ch11 ch12 ch13 ch14 ch15 ch16 ch17 ch18 ch19 ch20 ch21
    have sc0 := s113.trans cu0
    refine ⟨cp22, rfl, ⟨_, SqL.of ch22⟩, for_list (K := K) (a := cp22) (fun _ σ H' => Same cA22 H' ∧ ∃ y, σ = [some (.ref pa), some (.ref ga), some (.ref va), some qv, some mv, y, some (.ref np), none, none]) ⟨Same.refl _, _, rfl⟩ (fun i' σ H' _ h => SqL.of (h.1 _ _ ch22)) ?_ ?_⟩
    · rintro i z σ D1 hz ⟨s1, y, rfl⟩
      obtain ⟨d, hd1, px, nb⟩ := all z (List.mem_of_getElem? hz)
      refine ⟨_, rfl, _, rfl, _, rfl, .ref ga, .ref va, z, .non, _, _, d, .none, rfl, gG (sc0.trans s1), gV (sc0.trans s1), hd1.same s1, .non, nG, nV, init_prs vo px bN (not_prs nb) fun D2 s2 => ?_⟩
      refine ⟨rfl, _, rfl, ?_⟩
      rw [eqs]
      exact iteF ⟨s1.trans s2, _, rfl⟩
    rintro σ D1 ⟨s1, y, rfl⟩
    have sc1 := sc0.trans s1
    clear all
    refine ⟨"pqrstuv", rfl, fun D nD => ?_⟩
    have t0 := same_new (o := .lst []) nD
    have chs : ∀ (i c : Nat), (("pqrstuv" : Str)).cps[i]? = some c → (["p", "q", "r", "s", "t", "u", "v"] : List Str)[i]? = some ⟨#[c]⟩ := by
      have e : (["p", "q", "r", "s", "t", "u", "v"] : List Str) = (("pqrstuv" : Str)).cps.toList.map fun c => ⟨#[c]⟩ := by decide +kernel
      intro i c h
      rw [e, List.getElem?_map, Array.getElem?_toList, h]
      rfl
    have n7 : (("pqrstuv" : Str)).cps.size = 7 := by decide +kernel
    refine lc_it (walk_str (z := "pqrstuv")) (fun i H' => Same D1 H' ∧ ∃ vs, H' D = some (.lst vs) ∧ vs.length = i ∧ GpAll K (hide D H') vs (((["p", "q", "r", "s", "t", "u", "v"] : List Str).take i).map fun x => prD (x, []))) ⟨t0, [], upd_same, rfl, .nil⟩ (fun _ _ _ _ => trivial) ?_ ?_
    · rintro i v G1 G2 hi ⟨u1, vs, hD, vl, hA⟩ ⟨rfl, c, hc, rfl⟩
      have hx := chs i c hc
      refine ⟨rfl, ?_⟩
      dsimp only [tYes]
      refine iteT ?_
      refine ⟨_, rfl, small (by show 0 ≤ 5000; decide), fun e1 m1 => ?_⟩
      have s3 := same_new (o := HO.tup []) m1
      have k1 : (upd G2 e1 (HO.tup [])) e1 = some (HO.tup []) := upd_same
      generalize upd G2 e1 (HO.tup []) = G3 at s3 k1 ⊢
      refine ⟨small (by show 2 ≤ 5000; decide), fun e2 m2 => ?_⟩
      have s4 := same_new (o := HO.tup [.str ⟨#[c]⟩, .ref e1]) m2
      have k2 : (upd G3 e2 (HO.tup [.str ⟨#[c]⟩, .ref e1])) e2 = some (HO.tup [.str ⟨#[c]⟩, .ref e1]) := upd_same
      generalize upd G3 e2 (HO.tup [.str ⟨#[c]⟩, .ref e1]) = G4 at s4 k2 ⊢
      have s24 := s3.trans s4
      have hD4 := s24 _ _ hD
      have g2 : Gp K (hide D G4) (.ref e2) (prD (⟨#[c]⟩, [])) := .tup (sqt_hideL hD4 (SqT.of k2)) (.cons (.str _) (.cons (.tup (sqt_hideL hD4 (SqT.of (s4 _ _ k1))) .nil) .nil))
      have tk : (["p", "q", "r", "s", "t", "u", "v"] : List Str).take (i + 1) = (["p", "q", "r", "s", "t", "u", "v"] : List Str).take i ++ [⟨#[c]⟩] := by rw [List.take_add_one, hx]; rfl
      refine ⟨vs, hD4, by rw [sizeLine_eq, vl]; omega, fun b o e => ?_, vs ++ [.ref e2], upd_same, by rw [List.length_append, vl]; rfl, ?_⟩
      · have hb : b ≠ D := fun z => by rw [z, nD] at e; cases e
        rw [upd_ne hb]
        exact s24 _ _ (u1 _ _ e)
      · rw [hide_upd, tk, List.map_append]
        exact gpAll_app (hA.same (hide_keep s24)) (.cons g2 .nil)
    rintro G1 ⟨u1, vs, hD, vl, hA⟩
    rw [n7] at vl hA
    rw [List.take_of_length_le (by decide)] at hA
    have hA := hA.same hide_same
    have sd1 := sc1.trans u1
    refine ⟨D, vs, rfl, .inl ⟨SqL.of hD, fun t nt => ?_⟩⟩
    have s2 := same_new (o := HO.tup vs) nt
    have ht : (upd G1 t (HO.tup vs)) t = some (HO.tup vs) := upd_same
    generalize upd G1 t (HO.tup vs) = G2 at s2 ht ⊢
    have hA2 := hA.same s2
    have sd2 := sd1.trans s2
    refine ⟨_, rfl, _, rfl, _, rfl, .ref ga, .ref va, .ref t, .non, _, _, _, .none, rfl, gG sd2, gV sd2, .tup (SqT.of ht) hA2, .non, nG, nV, init_prs vo (PrX.of (.inl (gd_dec (by decide +kernel)))) bN (not_prs (by decide +kernel)) fun G3 s3 => ?_⟩
    refine ⟨rfl, _, rfl, ?_⟩
    rw [eqs]
    refine iteF ?_
    have sd3 := sd2.trans s3
    refine ⟨_, rfl, _, rfl, _, rfl, _, rfl, t, _, rfl, SqT.of (s3 _ _ ht), fun t6 G4 s4 h6 => ?_⟩
    rw [show ((6 : Int)) = ((6 : Nat) : Int) from rfl, cut_to] at h6
    refine ⟨small (by show 0 ≤ 5000; decide), fun t0' nt0 => ?_⟩
    have s5 := same_new (o := HO.tup []) nt0
    have h0 : (upd G4 t0' (HO.tup [])) t0' = some (HO.tup []) := upd_same
    generalize upd G4 t0' (HO.tup []) = G5 at s5 h0 ⊢
    have sd5 := (sd3.trans s4).trans s5
    have hA5 := gpAll_take6 (j := 6) (hA2.same ((s3.trans s4).trans s5))
    have fine6 : Pt.Fine ⟨pt.given, pt.vars, ps6, []⟩ := ⟨vo.N, vo.nd, l1, l4, ⟨names6, nd6, l6, fun p hp => by rw [mem6 hp]; exact ⟨trivial, by show 0 ≤ 1000; decide⟩⟩, trivial, by show 0 ≤ 1000; decide⟩
    have cl := len6 pt.given pt.vars
    have small6 : Pt.Small ⟨pt.given, pt.vars, ps6, []⟩ := ⟨by omega, Nat.le_trans (List.length_filter_le _ _) (by omega)⟩
    have gs6 : Gp K G5 (.ref t6) (prsD ps6) := .tup (Same.sqt s5 h6) hA5
    have gm6 : Gp K G5 (.ref t0') (bD []) := .tup (SqT.of h0) .nil
    refine ⟨.ref ga, .ref va, .ref t6, .ref t0', _, _, _, _, rfl, gG sd5, gV sd5, gs6, gm6, nG, nV, init_done (p := ⟨pt.given, pt.vars, ps6, []⟩) fine6 prX6 bX0 (fun p hp => by rw [mem6 hp]; show 0 ≤ 600; decide) (by show 0 ≤ 600; decide) ⟨fun _ G6 s6 => ?_, fun ns => absurd small6 ns⟩⟩
    refine ⟨rfl, _, rfl, ?_⟩
    rw [decide_eq_true rfl]
    refine iteF ?_
    have sd6 := sd5.trans s6
    clear h0 h6 hA hA2 hA5 ht hD s2 s3 s4 s5 nt nt0 chs n7 t0 nD u1 s1 cu0 sc0

    refine ⟨small (by show 0 ≤ 5000; decide), fun dp1 dn1 => ?_⟩
    have dt1 := same_new (o := HO.lst []) dn1
    have dh1 : (upd G6 dp1 (HO.lst [])) dp1 = some (HO.lst []) := upd_same
    generalize upd G6 dp1 (HO.lst []) = dA1 at dt1 dh1 ⊢
    refine fun dp2 dn2 => ?_
    have dt2 := same_new (o := .dK []) dn2
    have dh2 : (upd dA1 dp2 (.dK [])) dp2 = some (.dK []) := upd_same
    generalize upd dA1 dp2 (.dK []) = dA2 at dt2 dh2 ⊢
    refine ⟨small (by show 1 ≤ 5000; decide), fun dp3 dn3 => ?_⟩
    have dt3 := same_new (o := HO.tup [.str "read"]) dn3
    have dh3 : (upd dA2 dp3 (HO.tup [.str "read"])) dp3 = some (HO.tup [.str "read"]) := upd_same
    generalize upd dA2 dp3 (HO.tup [.str "read"]) = dA3 at dt3 dh3 ⊢
    refine ⟨small (by show 2 ≤ 5000; decide), fun dp4 dn4 => ?_⟩
    have dt4 := same_new (o := HO.tup [.str "print", .ref dp3]) dn4
    have dh4 : (upd dA3 dp4 (HO.tup [.str "print", .ref dp3])) dp4 = some (HO.tup [.str "print", .ref dp3]) := upd_same
    generalize upd dA3 dp4 (HO.tup [.str "print", .ref dp3]) = dA4 at dt4 dh4 ⊢
    refine ⟨small (by show 6 ≤ 5000; decide), fun dp5 dn5 => ?_⟩
    have dt5 := same_new (o := HO.lst [.non, .ref dp1, .str "main", .int 5, .ref dp2, .ref dp4]) dn5
    have dh5 : (upd dA4 dp5 (HO.lst [.non, .ref dp1, .str "main", .int 5, .ref dp2, .ref dp4])) dp5 = some (HO.lst [.non, .ref dp1, .str "main", .int 5, .ref dp2, .ref dp4]) := upd_same
    generalize upd dA4 dp5 (HO.lst [.non, .ref dp1, .str "main", .int 5, .ref dp2, .ref dp4]) = dA5 at dt5 dh5 ⊢
    have du5 := Same.refl dA5
    have du4 := dt5.trans du5
    have du3 := dt4.trans du4
    have du2 := dt3.trans du3
    have du1 := dt2.trans du2
    have du0 := dt1.trans du1
    have all : ∀ z ∈ ([.non, .ref dp1, .str "main", .int 5, .ref dp2, .ref dp4] : List V), ∃ d, Gp K dA5 z d ∧ BlX d ∧ mB d = false := fun z hz => by
      simp only [List.mem_cons, List.not_mem_nil, or_false] at hz
      rcases hz with rfl | rfl | rfl | rfl | rfl | rfl
      · exact ⟨.none, .non, BlX.of (.inl (gd_dec (by decide +kernel))), by decide +kernel⟩
      · exact ⟨.list [], .lst (SqL.of (du1 _ _ dh1)) .nil, BlX.of (.inl (gd_dec (by decide +kernel))), by decide +kernel⟩
      · exact ⟨.str "main", .str _, BlX.of (.inl (gd_dec (by decide +kernel))), by decide +kernel⟩
      · exact ⟨.int 5, .int _, BlX.of (.inl (gd_dec (by decide +kernel))), by decide +kernel⟩
      · exact ⟨.dict [], .emp (du2 _ _ dh2), BlX.of (.inr rfl), by decide +kernel⟩
      · exact ⟨.tuple [.str "print", .tuple [.str "read"]], .tup (SqT.of (du4 _ _ dh4)) (.cons (.str _) (.cons (.tup (SqT.of (du3 _ _ dh3)) (.cons (.str _) .nil)) .nil)), BlX.of (.inl (gd_dec (by decide +kernel))), by decide +kernel⟩
    clear dh1 dh2 dh3 dh4
    have se0 := sd6.trans du0
    have pv : PrsV (pt.given ++ pt.vars) pt.ps := ⟨f.prs.N, f.prs.nd, f.prs.len, fun q hq => (f.prs.bl q hq).1⟩
    have px : PrX (prsD pt.ps) := prX_ok vo.N pv fun p hp => Nat.le_trans (szs.1 p hp) (by decide)
    refine ⟨dp5, rfl, ⟨_, SqL.of dh5⟩, for_list (K := K) (a := dp5) (fun _ σ H' => Same dA5 H' ∧ ∃ y, σ = [some (.ref pa), some (.ref ga), some (.ref va), some qv, some mv, y, some (.ref np), some (.ref t), none]) ⟨Same.refl _, _, rfl⟩ (fun i' σ H' _ h => SqL.of (h.1 _ _ dh5)) ?_ ?_⟩
    · rintro i z σ F1 hz ⟨s1, y, rfl⟩
      obtain ⟨d, hd1, bx, nb⟩ := all z (List.mem_of_getElem? hz)
      refine ⟨_, rfl, _, rfl, _, rfl, _, rfl, .ref ga, .ref va, qv, z, _, _, _, d, rfl, gG (se0.trans s1), gV (se0.trans s1), gQ (se0.trans s1), hd1.same s1, nG, nV, init_main vo pv px bx (not_bk nb) fun F2 s2 => ?_⟩
      refine ⟨rfl, _, rfl, ?_⟩
      rw [eqs]
      exact iteF ⟨s1.trans s2, _, rfl⟩
    rintro σ F1 ⟨s1, y, rfl⟩
    exact q _ (se0.trans s1)

end
end Sp1

set_option Elab.async false
set_option linter.all false
set_option maxRecDepth 100000
set_option maxHeartbeats 1000000
namespace Pg
open PySem PySem.Spec PyProof.Rows L2
structure OddS (d : PyData) : Prop where
  x : StX d
  n7 : stB 7 d = false
  n6 : stB 6 d = false
def oddB (d : PyData) : Bool := (SeqAt.shaped d && smlD 500 1900 d) && (!stB 7 d && !stB 6 d)
theorem odd_dec {d : PyData} (h : oddB d = true) : OddS d := by
  unfold oddB at h
  have h1 := Bool.and_eq_true_iff.mp h
  have h2 := Bool.and_eq_true_iff.mp h1.2
  exact ⟨.of (.inl (gd_dec h1.1)), (Bool.not_eq_true' _).mp h2.1, (Bool.not_eq_true' _).mp h2.2⟩
theorem odd_at {D : Str → PyData} (h : (baseNames.all fun x => oddB (D x)) = true) {x : Str} (hx : x ∈ baseNames) : OddS (D x) := odd_dec (List.all_eq_true.mp h x hx)
theorem odd_emp : OddS (.tuple [.dict [], .tuple [.str "sum", .int 1, .tuple [], .int 1]]) := by
  refine ⟨.flat (by show 2 ≤ 500; decide) fun x hx => ?_, by decide +kernel, by decide +kernel⟩
  simp only [List.mem_cons, List.not_mem_nil, or_false] at hx
  rcases hx with rfl | rfl
  · exact .inr rfl
  · exact .inl (gd_dec (by decide +kernel))
end Pg
namespace Sp1
open PySem PySem.Spec PyProof.Rows L2 Pg Sp1X
section
variable {P : Program} {w : World} {K : PySem.W.Frag} {mg : Str → Option Value} {base : Heap}
def sp_xstats (K : PySem.W.Frag) : Sp := fun vs H Q _ => ∃ (x : Str), vs = [.str x, .str "p"] ∧ x ∈ baseNames ∧ ∀ l xs H', Same H H' → H' l = some (.lst xs) → (∀ z ∈ xs, ∃ d, Gp K H' z d ∧ OddS d) → Q (.ref l) H'
theorem ok__law_statements (T : LxF K mg) : FnOk P w K mg base CX0 1 T.f__law_statements T.fd__law_statements ["_law_name", "_law_procedure"] (sp_xstats K) := by
  refine T.D__law_statements.F.ok sc_l_statements (fun vs H Q E h => ?_) (fun cdv A outer s H vs Q E hr h => ?_)
  · obtain ⟨x, rfl, _⟩ := h
    rfl
  · obtain ⟨x, rfl, hx, q⟩ := h
    have nd := sc_l_statements.nd
    refine ⟨_, (pss_cons (ps_asg (pe_tup (pa_cons (pe_tup (pa_cons pe_str (pa_cons pe_int (pa_cons (pe_tup pa_nil) (pa_cons pe_int pa_nil))))) (pa_cons (pe_tup (pa_cons pe_str pa_nil)) pa_nil))) (pg_tup rfl (pgs_cons (pg_name (i := 2) nd rfl (.inl rfl)) (pgs_cons (pg_name (i := 3) nd rfl (.inl rfl)) pgs_nil))))
      (pss_cons (ps_set (i := 4) nd rfl (.inl rfl) (pe_lst (pa_cons pe_non (pa_cons (pe_tup pa_nil) (pa_cons (pe_lst pa_nil) (pa_cons pe_int (pa_cons pe_str (pa_cons (pe_tup (pa_cons pe_str pa_nil)) (pa_cons (pe_tup (pa_cons pe_str (pa_cons (pv 0) pa_nil))) (pa_cons (pe_tup (pa_cons pe_str (pa_cons (pv 0) (pa_cons (pv 3) (pa_cons pe_int pa_nil))))) (pa_cons (pe_tup (pa_cons pe_str (pa_cons pe_str (pa_cons (pv 3) pa_nil)))) pa_nil)))))))))))
      (pss_cons (ps_set (i := 4) nd rfl (.inl rfl) (pe_op op_cat (pv 4) (pe_lst (pa_cons (pe_tup (pa_cons pe_str (pa_cons (pv 0) (pa_cons pe_non pa_nil)))) (pa_cons (pe_tup (pa_cons pe_str (pa_cons (pe_lst (pa_cons (pv 0) pa_nil)) (pa_cons (pv 3) pa_nil)))) (pa_cons (pe_lst (pa_cons pe_str (pa_cons (pv 0) (pa_cons (pv 3) pa_nil)))) (pa_cons (pe_tup (pa_cons pe_str (pa_cons (pv 0) (pa_cons (pv 3) pa_nil)))) pa_nil)))))))
      (pss_cons (ps_set (i := 4) nd rfl (.inl rfl) (pe_op op_cat (pv 4) (pe_lst (pa_cons (pe_tup (pa_cons pe_str (pa_cons (pv 0) (pa_cons (pv 0) pa_nil)))) (pa_cons (pe_tup (pa_cons pe_str (pa_cons (pv 0) pa_nil))) (pa_cons (pe_tup (pa_cons pe_str (pa_cons (pv 0) (pa_cons pe_str pa_nil)))) (pa_cons (pe_tup (pa_cons pe_str (pa_cons (pv 0) (pa_cons pe_non pa_nil)))) pa_nil)))))))
      (pss_cons (ps_set (i := 4) nd rfl (.inl rfl) (pe_op op_cat (pv 4) (pe_lst (pa_cons (pe_tup (pa_cons pe_str pa_nil)) (pa_cons (pe_tup (pa_cons pe_str (pa_cons (pv 0) pa_nil))) (pa_cons (pe_tup (pa_cons pe_str (pa_cons (pv 2) (pa_cons (pv 2) pa_nil)))) (pa_cons (pe_tup (pa_cons pe_str (pa_cons pe_str pa_nil))) (pa_cons (pe_tup (pa_cons pe_str pa_nil)) (pa_cons (pe_tup (pa_cons pe_str (pa_cons pe_non pa_nil))) pa_nil)))))))))
      (pss_cons (ps_set (i := 4) nd rfl (.inl rfl) (pe_op op_cat (pv 4) (pe_lst (pa_cons (pe_tup (pa_cons pe_str (pa_cons (pe_lst (pa_cons (pv 1) pa_nil)) pa_nil))) (pa_cons (pe_tup (pa_cons pe_str (pa_cons (pv 1) (pa_cons pe_int pa_nil)))) (pa_cons (pe_tup (pa_cons pe_str (pa_cons (pv 2) (pa_cons (pe_tup pa_nil) pa_nil)))) (pa_cons (pe_tup (pa_cons pe_str (pa_cons (pv 2) (pa_cons (pe_tup pa_nil) (pa_cons (pe_lst pa_nil) pa_nil))))) pa_nil)))))))
      (pss_cons (ps_set (i := 4) nd rfl (.inl rfl) (pe_op op_cat (pv 4) (pe_lst (pa_cons (pe_tup (pa_cons pe_str (pa_cons (pv 2) (pa_cons (pe_tup pa_nil) (pa_cons (pe_tup pa_nil) (pa_cons (pe_tup pa_nil) pa_nil)))))) (pa_cons (pe_tup (pa_cons pe_str (pa_cons pe_non (pa_cons (pe_tup pa_nil) (pa_cons (pe_tup pa_nil) pa_nil))))) (pa_cons (pe_tup (pa_cons pe_str (pa_cons (pv 2) (pa_cons pe_non pa_nil)))) (pa_cons (pe_tup (pa_cons pe_str (pa_cons (pe_tup pa_nil) (pa_cons (pe_tup pa_nil) pa_nil)))) pa_nil)))))))
      (pss_cons (ps_set (i := 4) nd rfl (.inl rfl) (pe_op op_cat (pv 4) (pe_lst (pa_cons (pe_tup (pa_cons pe_str (pa_cons (pv 2) (pa_cons (pe_tup (pa_cons pe_non pa_nil)) pa_nil)))) (pa_cons (pe_tup (pa_cons pe_str (pa_cons (pv 2) pa_nil))) (pa_cons (pe_tup (pa_cons pe_str (pa_cons (pv 2) (pa_cons (pe_lst (pa_cons (pe_tup (pa_cons pe_str (pa_cons (pv 2) pa_nil))) pa_nil)) pa_nil)))) (pa_cons (pe_tup (pa_cons pe_non (pa_cons (pv 2) pa_nil))) (pa_cons (pe_tup (pa_cons pe_int pa_nil)) pa_nil))))))))
      (pss_one (ps_ret (pe_op op_cat (pv 4) (pe_lst (pa_cons (pe_tup (pa_cons pe_str (pa_cons (pv 2) (pa_cons (pe_tup (pa_cons (pe_tup (pa_cons pe_str (pa_cons pe_str (pa_cons (pv 2) pa_nil)))) pa_nil)) pa_nil)))) (pa_cons (pe_tup (pa_cons pe_dnewK (pa_cons (pv 2) pa_nil))) (pa_cons (pe_tup (pa_cons pe_str (pa_cons (pv 2) (pa_cons (pe_tup (pa_cons (pe_tup (pa_cons pe_str (pa_cons pe_str pa_nil))) pa_nil)) (pa_cons (pe_tup pa_nil) pa_nil))))) pa_nil))))))))))))))), ?_⟩
    -- BODY
    refine ⟨small (by show 0 ≤ 5000; decide), fun o1 m1 => ?_⟩
    have r1 := same_new (o := HO.tup []) m1
    have k1 : (upd H o1 (HO.tup [])) o1 = some (HO.tup []) := upd_same
    generalize upd H o1 (HO.tup []) = O1 at r1 k1 ⊢
    refine ⟨small (by show 4 ≤ 5000; decide), fun o2 m2 => ?_⟩
    have r2 := same_new (o := HO.tup [.str "sum", .int 1, .ref o1, .int 1]) m2
    have k2 : (upd O1 o2 (HO.tup [.str "sum", .int 1, .ref o1, .int 1])) o2 = some (HO.tup [.str "sum", .int 1, .ref o1, .int 1]) := upd_same
    generalize upd O1 o2 (HO.tup [.str "sum", .int 1, .ref o1, .int 1]) = O2 at r2 k2 ⊢
    refine ⟨small (by show 1 ≤ 5000; decide), fun o3 m3 => ?_⟩
    have r3 := same_new (o := HO.tup [.str "read"]) m3
    have k3 : (upd O2 o3 (HO.tup [.str "read"])) o3 = some (HO.tup [.str "read"]) := upd_same
    generalize upd O2 o3 (HO.tup [.str "read"]) = O3 at r3 k3 ⊢
    refine ⟨small (by show 2 ≤ 5000; decide), fun o4 m4 => ?_⟩
    have r4 := same_new (o := HO.tup [.ref o2, .ref o3]) m4
    have k4 : (upd O3 o4 (HO.tup [.ref o2, .ref o3])) o4 = some (HO.tup [.ref o2, .ref o3]) := upd_same
    generalize upd O3 o4 (HO.tup [.ref o2, .ref o3]) = O4 at r4 k4 ⊢
    refine ⟨o4, _, rfl, SqT.of k4, rfl, _, _, rfl, _, _, rfl, rfl, ?_⟩
    have gone0 : Gp K O4 (.ref o2) (.tuple [.str "sum", .int 1, .tuple [], .int 1]) := .tup (SqT.of ((r3.trans r4) _ _ k2)) (.cons (.str _) (.cons (.int _) (.cons (.tup (SqT.of ((r2.trans (r3.trans r4)) _ _ k1)) .nil) (.cons (.int _) .nil))))
    have gread0 : Gp K O4 (.ref o3) (.tuple [.str "read"]) := .tup (SqT.of (r4 _ _ k3)) (.cons (.str _) .nil)
    have sH0 := (r1.trans r2).trans (r3.trans r4)
    clear k1 k2 k3 k4 r1 r2 r3 r4 m1 m2 m3 m4
    refine ⟨small (by show 0 ≤ 5000; decide), fun ap1 an1 => ?_⟩
    have at1 := same_new (o := HO.tup []) an1
    have ah1 : (upd O4 ap1 (HO.tup [])) ap1 = some (HO.tup []) := upd_same
    generalize upd O4 ap1 (HO.tup []) = aA1 at at1 ah1 ⊢
    refine ⟨small (by show 0 ≤ 5000; decide), fun ap2 an2 => ?_⟩
    have at2 := same_new (o := HO.lst []) an2
    have ah2 : (upd aA1 ap2 (HO.lst [])) ap2 = some (HO.lst []) := upd_same
    generalize upd aA1 ap2 (HO.lst []) = aA2 at at2 ah2 ⊢
    refine ⟨small (by show 1 ≤ 5000; decide), fun ap3 an3 => ?_⟩
    have at3 := same_new (o := HO.tup [.str "set"]) an3
    have ah3 : (upd aA2 ap3 (HO.tup [.str "set"])) ap3 = some (HO.tup [.str "set"]) := upd_same
    generalize upd aA2 ap3 (HO.tup [.str "set"]) = aA3 at at3 ah3 ⊢
    refine ⟨_, rfl, small (by show 2 ≤ 5000; decide), fun ap4 an4 => ?_⟩
    have at4 := same_new (o := HO.tup [.str "set", .str x]) an4
    have ah4 : (upd aA3 ap4 (HO.tup [.str "set", .str x])) ap4 = some (HO.tup [.str "set", .str x]) := upd_same
    generalize upd aA3 ap4 (HO.tup [.str "set", .str x]) = aA4 at at4 ah4 ⊢
    refine ⟨_, rfl, _, rfl, small (by show 4 ≤ 5000; decide), fun ap5 an5 => ?_⟩
    have at5 := same_new (o := HO.tup [.str "set", .str x, .ref o3, .int 1]) an5
    have ah5 : (upd aA4 ap5 (HO.tup [.str "set", .str x, .ref o3, .int 1])) ap5 = some (HO.tup [.str "set", .str x, .ref o3, .int 1]) := upd_same
    generalize upd aA4 ap5 (HO.tup [.str "set", .str x, .ref o3, .int 1]) = aA5 at at5 ah5 ⊢
    refine ⟨_, rfl, small (by show 3 ≤ 5000; decide), fun ap6 an6 => ?_⟩
    have at6 := same_new (o := HO.tup [.str "set", .str "strange", .ref o3]) an6
    have ah6 : (upd aA5 ap6 (HO.tup [.str "set", .str "strange", .ref o3])) ap6 = some (HO.tup [.str "set", .str "strange", .ref o3]) := upd_same
    generalize upd aA5 ap6 (HO.tup [.str "set", .str "strange", .ref o3]) = aA6 at at6 ah6 ⊢
    refine ⟨small (by show 9 ≤ 5000; decide), fun ap7 an7 => ?_⟩
    have at7 := same_new (o := HO.lst [.non, .ref ap1, .ref ap2, .int 5, .str "set", .ref ap3, .ref ap4, .ref ap5, .ref ap6]) an7
    have ah7 : (upd aA6 ap7 (HO.lst [.non, .ref ap1, .ref ap2, .int 5, .str "set", .ref ap3, .ref ap4, .ref ap5, .ref ap6])) ap7 = some (HO.lst [.non, .ref ap1, .ref ap2, .int 5, .str "set", .ref ap3, .ref ap4, .ref ap5, .ref ap6]) := upd_same
    generalize upd aA6 ap7 (HO.lst [.non, .ref ap1, .ref ap2, .int 5, .str "set", .ref ap3, .ref ap4, .ref ap5, .ref ap6]) = aA7 at at7 ah7 ⊢
    have au7 := Same.refl aA7
    have au6 := at7.trans au7
    have au5 := at6.trans au6
    have au4 := at5.trans au5
    have au3 := at4.trans au4
    have au2 := at3.trans au3
    have au1 := at2.trans au2
    have au0 := at1.trans au1
    have aall : ∀ z ∈ ([.non, .ref ap1, .ref ap2, .int 5, .str "set", .ref ap3, .ref ap4, .ref ap5, .ref ap6] : List V), ∃ d, Gp K aA7 z d ∧ OddS d := fun z hz => by
      simp only [List.mem_cons, List.not_mem_nil, or_false] at hz
      rcases hz with rfl | rfl | rfl | rfl | rfl | rfl | rfl | rfl | rfl
      · exact ⟨.none, .non, odd_dec (by decide +kernel)⟩
      · exact ⟨.tuple [], .tup (SqT.of (au1 _ _ ah1)) .nil, odd_dec (by decide +kernel)⟩
      · exact ⟨.list [], .lst (SqL.of (au2 _ _ ah2)) .nil, odd_dec (by decide +kernel)⟩
      · exact ⟨.int 5, .int _, odd_dec (by decide +kernel)⟩
      · exact ⟨.str "set", .str _, odd_dec (by decide +kernel)⟩
      · exact ⟨.tuple [.str "set"], .tup (SqT.of (au3 _ _ ah3)) (.cons (.str _) .nil), odd_dec (by decide +kernel)⟩
      · exact ⟨.tuple [.str "set", .str x], .tup (SqT.of (au4 _ _ ah4)) (.cons (.str _) (.cons (.str _) .nil)), odd_at (D := fun x => .tuple [.str "set", .str x]) (by decide +kernel) hx⟩
      · exact ⟨.tuple [.str "set", .str x, .tuple [.str "read"], .int 1], .tup (SqT.of (au5 _ _ ah5)) (.cons (.str _) (.cons (.str _) (.cons ((gread0.same au0)) (.cons (.int _) .nil)))), odd_at (D := fun x => .tuple [.str "set", .str x, .tuple [.str "read"], .int 1]) (by decide +kernel) hx⟩
      · exact ⟨.tuple [.str "set", .str "strange", .tuple [.str "read"]], .tup (SqT.of (au6 _ _ ah6)) (.cons (.str _) (.cons (.str _) (.cons ((gread0.same au0)) .nil))), odd_dec (by decide +kernel)⟩
    have key : ∃ xs : List V, aA7 ap7 = some (.lst xs) ∧ xs.length ≤ 9 ∧ ∀ z ∈ xs, ∃ d, Gp K aA7 z d ∧ OddS d := ⟨_, ah7, by show 9 ≤ 9; decide, aall⟩
    have gone1 := gone0.same au0
    have gread1 := gread0.same au0
    have sH1 := sH0.trans au0
    clear aall ah1 an1 at1 au1 ah2 an2 at2 au2 ah3 an3 at3 au3 ah4 an4 at4 au4 ah5 an5 at5 au5 ah6 an6 at6 au6 ah7 an7 at7 au7 au0
    obtain ⟨xs, hl, xlen, xall⟩ := key
    refine ⟨_, rfl, _, rfl, small (by show 3 ≤ 5000; decide), fun bp1 bn1 => ?_⟩
    have bt1 := same_new (o := HO.tup [.str "set", .str x, .non]) bn1
    have bh1 : (upd aA7 bp1 (HO.tup [.str "set", .str x, .non])) bp1 = some (HO.tup [.str "set", .str x, .non]) := upd_same
    generalize upd aA7 bp1 (HO.tup [.str "set", .str x, .non]) = bA1 at bt1 bh1 ⊢
    refine ⟨_, rfl, small (by show 1 ≤ 5000; decide), fun bp2 bn2 => ?_⟩
    have bt2 := same_new (o := HO.lst [.str x]) bn2
    have bh2 : (upd bA1 bp2 (HO.lst [.str x])) bp2 = some (HO.lst [.str x]) := upd_same
    generalize upd bA1 bp2 (HO.lst [.str x]) = bA2 at bt2 bh2 ⊢
    refine ⟨_, rfl, small (by show 3 ≤ 5000; decide), fun bp3 bn3 => ?_⟩
    have bt3 := same_new (o := HO.tup [.str "set", .ref bp2, .ref o3]) bn3
    have bh3 : (upd bA2 bp3 (HO.tup [.str "set", .ref bp2, .ref o3])) bp3 = some (HO.tup [.str "set", .ref bp2, .ref o3]) := upd_same
    generalize upd bA2 bp3 (HO.tup [.str "set", .ref bp2, .ref o3]) = bA3 at bt3 bh3 ⊢
    refine ⟨_, rfl, _, rfl, small (by show 3 ≤ 5000; decide), fun bp4 bn4 => ?_⟩
    have bt4 := same_new (o := HO.lst [.str "set", .str x, .ref o3]) bn4
    have bh4 : (upd bA3 bp4 (HO.lst [.str "set", .str x, .ref o3])) bp4 = some (HO.lst [.str "set", .str x, .ref o3]) := upd_same
    generalize upd bA3 bp4 (HO.lst [.str "set", .str x, .ref o3]) = bA4 at bt4 bh4 ⊢
    refine ⟨_, rfl, _, rfl, small (by show 3 ≤ 5000; decide), fun bp5 bn5 => ?_⟩
    have bt5 := same_new (o := HO.tup [.str "Set", .str x, .ref o3]) bn5
    have bh5 : (upd bA4 bp5 (HO.tup [.str "Set", .str x, .ref o3])) bp5 = some (HO.tup [.str "Set", .str x, .ref o3]) := upd_same
    generalize upd bA4 bp5 (HO.tup [.str "Set", .str x, .ref o3]) = bA5 at bt5 bh5 ⊢
    refine ⟨small (by show 4 ≤ 5000; decide), fun bp6 bn6 => ?_⟩
    have bt6 := same_new (o := HO.lst [.ref bp1, .ref bp3, .ref bp4, .ref bp5]) bn6
    have bh6 : (upd bA5 bp6 (HO.lst [.ref bp1, .ref bp3, .ref bp4, .ref bp5])) bp6 = some (HO.lst [.ref bp1, .ref bp3, .ref bp4, .ref bp5]) := upd_same
    generalize upd bA5 bp6 (HO.lst [.ref bp1, .ref bp3, .ref bp4, .ref bp5]) = bA6 at bt6 bh6 ⊢
    have bu6 := Same.refl bA6
    have bu5 := bt6.trans bu6
    have bu4 := bt5.trans bu5
    have bu3 := bt4.trans bu4
    have bu2 := bt3.trans bu3
    have bu1 := bt2.trans bu2
    have bu0 := bt1.trans bu1
    have ball : ∀ z ∈ ([.ref bp1, .ref bp3, .ref bp4, .ref bp5] : List V), ∃ d, Gp K bA6 z d ∧ OddS d := fun z hz => by
      simp only [List.mem_cons, List.not_mem_nil, or_false] at hz
      rcases hz with rfl | rfl | rfl | rfl
      · exact ⟨.tuple [.str "set", .str x, .none], .tup (SqT.of (bu1 _ _ bh1)) (.cons (.str _) (.cons (.str _) (.cons (.non) .nil))), odd_at (D := fun x => .tuple [.str "set", .str x, .none]) (by decide +kernel) hx⟩
      · exact ⟨.tuple [.str "set", .list [.str x], .tuple [.str "read"]], .tup (SqT.of (bu3 _ _ bh3)) (.cons (.str _) (.cons (.lst (SqL.of (bu2 _ _ bh2)) (.cons (.str _) .nil)) (.cons ((gread1.same bu0)) .nil))), odd_at (D := fun x => .tuple [.str "set", .list [.str x], .tuple [.str "read"]]) (by decide +kernel) hx⟩
      · exact ⟨.list [.str "set", .str x, .tuple [.str "read"]], .lst (SqL.of (bu4 _ _ bh4)) (.cons (.str _) (.cons (.str _) (.cons ((gread1.same bu0)) .nil))), odd_at (D := fun x => .list [.str "set", .str x, .tuple [.str "read"]]) (by decide +kernel) hx⟩
      · exact ⟨.tuple [.str "Set", .str x, .tuple [.str "read"]], .tup (SqT.of (bu5 _ _ bh5)) (.cons (.str _) (.cons (.str _) (.cons ((gread1.same bu0)) .nil))), odd_at (D := fun x => .tuple [.str "Set", .str x, .tuple [.str "read"]]) (by decide +kernel) hx⟩
    refine ⟨ap7, bp6, xs, _, rfl, rfl, bu0 _ _ hl, bh6, by rw [sizeLine_eq]; show xs.length + 4 ≤ _; omega, fun bl bm => ?_⟩
    have br := same_new (o := HO.lst (xs ++ [.ref bp1, .ref bp3, .ref bp4, .ref bp5])) bm
    have bk : (upd bA6 bl (HO.lst (xs ++ [.ref bp1, .ref bp3, .ref bp4, .ref bp5]))) bl = some (HO.lst (xs ++ [.ref bp1, .ref bp3, .ref bp4, .ref bp5])) := upd_same
    generalize upd bA6 bl (HO.lst (xs ++ [.ref bp1, .ref bp3, .ref bp4, .ref bp5])) = bH at br bk ⊢
    have bv := bu0.trans br
    have key : ∃ ys : List V, bH bl = some (.lst ys) ∧ ys.length ≤ 13 ∧ ∀ z ∈ ys, ∃ d, Gp K bH z d ∧ OddS d := by
      refine ⟨_, bk, by rw [List.length_append]; show xs.length + 4 ≤ 13; omega, fun z hz => ?_⟩
      rcases List.mem_append.mp hz with hz | hz
      · obtain ⟨d, h1, h2⟩ := xall z hz
        exact ⟨d, h1.same bv, h2⟩
      · obtain ⟨d, h1, h2⟩ := ball z hz
        exact ⟨d, h1.same br, h2⟩
    have gone2 := gone1.same bv
    have gread2 := gread1.same bv
    have sH2 := sH1.trans bv
    clear bk hl xall gone1 gread1
    clear ball bh1 bn1 bt1 bu1 bh2 bn2 bt2 bu2 bh3 bn3 bt3 bu3 bh4 bn4 bt4 bu4 bh5 bn5 bt5 bu5 bh6 bn6 bt6 bu6 bu0
    obtain ⟨xs, hl, xlen, xall⟩ := key
    refine ⟨_, rfl, _, rfl, _, rfl, small (by show 3 ≤ 5000; decide), fun cp1 cn1 => ?_⟩
    have ct1 := same_new (o := HO.tup [.str "swap", .str x, .str x]) cn1
    have ch1 : (upd bH cp1 (HO.tup [.str "swap", .str x, .str x])) cp1 = some (HO.tup [.str "swap", .str x, .str x]) := upd_same
    generalize upd bH cp1 (HO.tup [.str "swap", .str x, .str x]) = cA1 at ct1 ch1 ⊢
    refine ⟨_, rfl, small (by show 2 ≤ 5000; decide), fun cp2 cn2 => ?_⟩
    have ct2 := same_new (o := HO.tup [.str "swap", .str x]) cn2
    have ch2 : (upd cA1 cp2 (HO.tup [.str "swap", .str x])) cp2 = some (HO.tup [.str "swap", .str x]) := upd_same
    generalize upd cA1 cp2 (HO.tup [.str "swap", .str x]) = cA2 at ct2 ch2 ⊢
    refine ⟨_, rfl, small (by show 3 ≤ 5000; decide), fun cp3 cn3 => ?_⟩
    have ct3 := same_new (o := HO.tup [.str "swap", .str x, .str "strange"]) cn3
    have ch3 : (upd cA2 cp3 (HO.tup [.str "swap", .str x, .str "strange"])) cp3 = some (HO.tup [.str "swap", .str x, .str "strange"]) := upd_same
    generalize upd cA2 cp3 (HO.tup [.str "swap", .str x, .str "strange"]) = cA3 at ct3 ch3 ⊢
    refine ⟨_, rfl, small (by show 3 ≤ 5000; decide), fun cp4 cn4 => ?_⟩
    have ct4 := same_new (o := HO.tup [.str "swap", .str x, .non]) cn4
    have ch4 : (upd cA3 cp4 (HO.tup [.str "swap", .str x, .non])) cp4 = some (HO.tup [.str "swap", .str x, .non]) := upd_same
    generalize upd cA3 cp4 (HO.tup [.str "swap", .str x, .non]) = cA4 at ct4 ch4 ⊢
    refine ⟨small (by show 4 ≤ 5000; decide), fun cp5 cn5 => ?_⟩
    have ct5 := same_new (o := HO.lst [.ref cp1, .ref cp2, .ref cp3, .ref cp4]) cn5
    have ch5 : (upd cA4 cp5 (HO.lst [.ref cp1, .ref cp2, .ref cp3, .ref cp4])) cp5 = some (HO.lst [.ref cp1, .ref cp2, .ref cp3, .ref cp4]) := upd_same
    generalize upd cA4 cp5 (HO.lst [.ref cp1, .ref cp2, .ref cp3, .ref cp4]) = cA5 at ct5 ch5 ⊢
    have cu5 := Same.refl cA5
    have cu4 := ct5.trans cu5
    have cu3 := ct4.trans cu4
    have cu2 := ct3.trans cu3
    have cu1 := ct2.trans cu2
    have cu0 := ct1.trans cu1
    have call : ∀ z ∈ ([.ref cp1, .ref cp2, .ref cp3, .ref cp4] : List V), ∃ d, Gp K cA5 z d ∧ OddS d := fun z hz => by
      simp only [List.mem_cons, List.not_mem_nil, or_false] at hz
      rcases hz with rfl | rfl | rfl | rfl
      · exact ⟨.tuple [.str "swap", .str x, .str x], .tup (SqT.of (cu1 _ _ ch1)) (.cons (.str _) (.cons (.str _) (.cons (.str _) .nil))), odd_at (D := fun x => .tuple [.str "swap", .str x, .str x]) (by decide +kernel) hx⟩
      · exact ⟨.tuple [.str "swap", .str x], .tup (SqT.of (cu2 _ _ ch2)) (.cons (.str _) (.cons (.str _) .nil)), odd_at (D := fun x => .tuple [.str "swap", .str x]) (by decide +kernel) hx⟩
      · exact ⟨.tuple [.str "swap", .str x, .str "strange"], .tup (SqT.of (cu3 _ _ ch3)) (.cons (.str _) (.cons (.str _) (.cons (.str _) .nil))), odd_at (D := fun x => .tuple [.str "swap", .str x, .str "strange"]) (by decide +kernel) hx⟩
      · exact ⟨.tuple [.str "swap", .str x, .none], .tup (SqT.of (cu4 _ _ ch4)) (.cons (.str _) (.cons (.str _) (.cons (.non) .nil))), odd_at (D := fun x => .tuple [.str "swap", .str x, .none]) (by decide +kernel) hx⟩
    refine ⟨bl, cp5, xs, _, rfl, rfl, cu0 _ _ hl, ch5, by rw [sizeLine_eq]; show xs.length + 4 ≤ _; omega, fun cl cm => ?_⟩
    have cr := same_new (o := HO.lst (xs ++ [.ref cp1, .ref cp2, .ref cp3, .ref cp4])) cm
    have ck : (upd cA5 cl (HO.lst (xs ++ [.ref cp1, .ref cp2, .ref cp3, .ref cp4]))) cl = some (HO.lst (xs ++ [.ref cp1, .ref cp2, .ref cp3, .ref cp4])) := upd_same
    generalize upd cA5 cl (HO.lst (xs ++ [.ref cp1, .ref cp2, .ref cp3, .ref cp4])) = cH at cr ck ⊢
    have cv := cu0.trans cr
    have key : ∃ ys : List V, cH cl = some (.lst ys) ∧ ys.length ≤ 17 ∧ ∀ z ∈ ys, ∃ d, Gp K cH z d ∧ OddS d := by
      refine ⟨_, ck, by rw [List.length_append]; show xs.length + 4 ≤ 17; omega, fun z hz => ?_⟩
      rcases List.mem_append.mp hz with hz | hz
      · obtain ⟨d, h1, h2⟩ := xall z hz
        exact ⟨d, h1.same cv, h2⟩
      · obtain ⟨d, h1, h2⟩ := call z hz
        exact ⟨d, h1.same cr, h2⟩
    have gone3 := gone2.same cv
    have gread3 := gread2.same cv
    have sH3 := sH2.trans cv
    clear ck hl xall gone2 gread2
    clear call ch1 cn1 ct1 cu1 ch2 cn2 ct2 cu2 ch3 cn3 ct3 cu3 ch4 cn4 ct4 cu4 ch5 cn5 ct5 cu5 cu0
    obtain ⟨xs, hl, xlen, xall⟩ := key
    refine ⟨_, rfl, small (by show 1 ≤ 5000; decide), fun dp1 dn1 => ?_⟩
    have dt1 := same_new (o := HO.tup [.str "print"]) dn1
    have dh1 : (upd cH dp1 (HO.tup [.str "print"])) dp1 = some (HO.tup [.str "print"]) := upd_same
    generalize upd cH dp1 (HO.tup [.str "print"]) = dA1 at dt1 dh1 ⊢
    refine ⟨_, rfl, small (by show 2 ≤ 5000; decide), fun dp2 dn2 => ?_⟩
    have dt2 := same_new (o := HO.tup [.str "print", .str x]) dn2
    have dh2 : (upd dA1 dp2 (HO.tup [.str "print", .str x])) dp2 = some (HO.tup [.str "print", .str x]) := upd_same
    generalize upd dA1 dp2 (HO.tup [.str "print", .str x]) = dA2 at dt2 dh2 ⊢
    refine ⟨_, rfl, _, rfl, small (by show 3 ≤ 5000; decide), fun dp3 dn3 => ?_⟩
    have dt3 := same_new (o := HO.tup [.str "print", .ref o2, .ref o2]) dn3
    have dh3 : (upd dA2 dp3 (HO.tup [.str "print", .ref o2, .ref o2])) dp3 = some (HO.tup [.str "print", .ref o2, .ref o2]) := upd_same
    generalize upd dA2 dp3 (HO.tup [.str "print", .ref o2, .ref o2]) = dA3 at dt3 dh3 ⊢
    refine ⟨small (by show 2 ≤ 5000; decide), fun dp4 dn4 => ?_⟩
    have dt4 := same_new (o := HO.tup [.str "call", .str "strange"]) dn4
    have dh4 : (upd dA3 dp4 (HO.tup [.str "call", .str "strange"])) dp4 = some (HO.tup [.str "call", .str "strange"]) := upd_same
    generalize upd dA3 dp4 (HO.tup [.str "call", .str "strange"]) = dA4 at dt4 dh4 ⊢
    refine ⟨small (by show 1 ≤ 5000; decide), fun dp5 dn5 => ?_⟩
    have dt5 := same_new (o := HO.tup [.str "call"]) dn5
    have dh5 : (upd dA4 dp5 (HO.tup [.str "call"])) dp5 = some (HO.tup [.str "call"]) := upd_same
    generalize upd dA4 dp5 (HO.tup [.str "call"]) = dA5 at dt5 dh5 ⊢
    refine ⟨small (by show 2 ≤ 5000; decide), fun dp6 dn6 => ?_⟩
    have dt6 := same_new (o := HO.tup [.str "call", .non]) dn6
    have dh6 : (upd dA5 dp6 (HO.tup [.str "call", .non])) dp6 = some (HO.tup [.str "call", .non]) := upd_same
    generalize upd dA5 dp6 (HO.tup [.str "call", .non]) = dA6 at dt6 dh6 ⊢
    refine ⟨small (by show 6 ≤ 5000; decide), fun dp7 dn7 => ?_⟩
    have dt7 := same_new (o := HO.lst [.ref dp1, .ref dp2, .ref dp3, .ref dp4, .ref dp5, .ref dp6]) dn7
    have dh7 : (upd dA6 dp7 (HO.lst [.ref dp1, .ref dp2, .ref dp3, .ref dp4, .ref dp5, .ref dp6])) dp7 = some (HO.lst [.ref dp1, .ref dp2, .ref dp3, .ref dp4, .ref dp5, .ref dp6]) := upd_same
    generalize upd dA6 dp7 (HO.lst [.ref dp1, .ref dp2, .ref dp3, .ref dp4, .ref dp5, .ref dp6]) = dA7 at dt7 dh7 ⊢
    have du7 := Same.refl dA7
    have du6 := dt7.trans du7
    have du5 := dt6.trans du6
    have du4 := dt5.trans du5
    have du3 := dt4.trans du4
    have du2 := dt3.trans du3
    have du1 := dt2.trans du2
    have du0 := dt1.trans du1
    have dall : ∀ z ∈ ([.ref dp1, .ref dp2, .ref dp3, .ref dp4, .ref dp5, .ref dp6] : List V), ∃ d, Gp K dA7 z d ∧ OddS d := fun z hz => by
      simp only [List.mem_cons, List.not_mem_nil, or_false] at hz
      rcases hz with rfl | rfl | rfl | rfl | rfl | rfl
      · exact ⟨.tuple [.str "print"], .tup (SqT.of (du1 _ _ dh1)) (.cons (.str _) .nil), odd_dec (by decide +kernel)⟩
      · exact ⟨.tuple [.str "print", .str x], .tup (SqT.of (du2 _ _ dh2)) (.cons (.str _) (.cons (.str _) .nil)), odd_at (D := fun x => .tuple [.str "print", .str x]) (by decide +kernel) hx⟩
      · exact ⟨.tuple [.str "print", .tuple [.str "sum", .int 1, .tuple [], .int 1], .tuple [.str "sum", .int 1, .tuple [], .int 1]], .tup (SqT.of (du3 _ _ dh3)) (.cons (.str _) (.cons ((gone3.same du0)) (.cons ((gone3.same du0)) .nil))), odd_dec (by decide +kernel)⟩
      · exact ⟨.tuple [.str "call", .str "strange"], .tup (SqT.of (du4 _ _ dh4)) (.cons (.str _) (.cons (.str _) .nil)), odd_dec (by decide +kernel)⟩
      · exact ⟨.tuple [.str "call"], .tup (SqT.of (du5 _ _ dh5)) (.cons (.str _) .nil), odd_dec (by decide +kernel)⟩
      · exact ⟨.tuple [.str "call", .none], .tup (SqT.of (du6 _ _ dh6)) (.cons (.str _) (.cons (.non) .nil)), odd_dec (by decide +kernel)⟩
    refine ⟨cl, dp7, xs, _, rfl, rfl, du0 _ _ hl, dh7, by rw [sizeLine_eq]; show xs.length + 6 ≤ _; omega, fun dl dm => ?_⟩
    have dr := same_new (o := HO.lst (xs ++ [.ref dp1, .ref dp2, .ref dp3, .ref dp4, .ref dp5, .ref dp6])) dm
    have dk : (upd dA7 dl (HO.lst (xs ++ [.ref dp1, .ref dp2, .ref dp3, .ref dp4, .ref dp5, .ref dp6]))) dl = some (HO.lst (xs ++ [.ref dp1, .ref dp2, .ref dp3, .ref dp4, .ref dp5, .ref dp6])) := upd_same
    generalize upd dA7 dl (HO.lst (xs ++ [.ref dp1, .ref dp2, .ref dp3, .ref dp4, .ref dp5, .ref dp6])) = dH at dr dk ⊢
    have dv := du0.trans dr
    have key : ∃ ys : List V, dH dl = some (.lst ys) ∧ ys.length ≤ 23 ∧ ∀ z ∈ ys, ∃ d, Gp K dH z d ∧ OddS d := by
      refine ⟨_, dk, by rw [List.length_append]; show xs.length + 6 ≤ 23; omega, fun z hz => ?_⟩
      rcases List.mem_append.mp hz with hz | hz
      · obtain ⟨d, h1, h2⟩ := xall z hz
        exact ⟨d, h1.same dv, h2⟩
      · obtain ⟨d, h1, h2⟩ := dall z hz
        exact ⟨d, h1.same dr, h2⟩
    have gone4 := gone3.same dv
    have gread4 := gread3.same dv
    have sH4 := sH3.trans dv
    clear dk hl xall gone3 gread3
    clear dall dh1 dn1 dt1 du1 dh2 dn2 dt2 du2 dh3 dn3 dt3 du3 dh4 dn4 dt4 du4 dh5 dn5 dt5 du5 dh6 dn6 dt6 du6 dh7 dn7 dt7 du7 du0
    obtain ⟨xs, hl, xlen, xall⟩ := key
    refine ⟨_, rfl, _, rfl, small (by show 1 ≤ 5000; decide), fun ep1 en1 => ?_⟩
    have et1 := same_new (o := HO.lst [.str "p"]) en1
    have eh1 : (upd dH ep1 (HO.lst [.str "p"])) ep1 = some (HO.lst [.str "p"]) := upd_same
    generalize upd dH ep1 (HO.lst [.str "p"]) = eA1 at et1 eh1 ⊢
    refine ⟨small (by show 2 ≤ 5000; decide), fun ep2 en2 => ?_⟩
    have et2 := same_new (o := HO.tup [.str "call", .ref ep1]) en2
    have eh2 : (upd eA1 ep2 (HO.tup [.str "call", .ref ep1])) ep2 = some (HO.tup [.str "call", .ref ep1]) := upd_same
    generalize upd eA1 ep2 (HO.tup [.str "call", .ref ep1]) = eA2 at et2 eh2 ⊢
    refine ⟨_, rfl, small (by show 3 ≤ 5000; decide), fun ep3 en3 => ?_⟩
    have et3 := same_new (o := HO.tup [.str "call", .str "p", .int 1]) en3
    have eh3 : (upd eA2 ep3 (HO.tup [.str "call", .str "p", .int 1])) ep3 = some (HO.tup [.str "call", .str "p", .int 1]) := upd_same
    generalize upd eA2 ep3 (HO.tup [.str "call", .str "p", .int 1]) = eA3 at et3 eh3 ⊢
    refine ⟨_, rfl, small (by show 0 ≤ 5000; decide), fun ep4 en4 => ?_⟩
    have et4 := same_new (o := HO.tup []) en4
    have eh4 : (upd eA3 ep4 (HO.tup [])) ep4 = some (HO.tup []) := upd_same
    generalize upd eA3 ep4 (HO.tup []) = eA4 at et4 eh4 ⊢
    refine ⟨small (by show 3 ≤ 5000; decide), fun ep5 en5 => ?_⟩
    have et5 := same_new (o := HO.tup [.str "if", .ref o2, .ref ep4]) en5
    have eh5 : (upd eA4 ep5 (HO.tup [.str "if", .ref o2, .ref ep4])) ep5 = some (HO.tup [.str "if", .ref o2, .ref ep4]) := upd_same
    generalize upd eA4 ep5 (HO.tup [.str "if", .ref o2, .ref ep4]) = eA5 at et5 eh5 ⊢
    refine ⟨_, rfl, small (by show 0 ≤ 5000; decide), fun ep6 en6 => ?_⟩
    have et6 := same_new (o := HO.tup []) en6
    have eh6 : (upd eA5 ep6 (HO.tup [])) ep6 = some (HO.tup []) := upd_same
    generalize upd eA5 ep6 (HO.tup []) = eA6 at et6 eh6 ⊢
    refine ⟨small (by show 0 ≤ 5000; decide), fun ep7 en7 => ?_⟩
    have et7 := same_new (o := HO.lst []) en7
    have eh7 : (upd eA6 ep7 (HO.lst [])) ep7 = some (HO.lst []) := upd_same
    generalize upd eA6 ep7 (HO.lst []) = eA7 at et7 eh7 ⊢
    refine ⟨small (by show 4 ≤ 5000; decide), fun ep8 en8 => ?_⟩
    have et8 := same_new (o := HO.tup [.str "if", .ref o2, .ref ep6, .ref ep7]) en8
    have eh8 : (upd eA7 ep8 (HO.tup [.str "if", .ref o2, .ref ep6, .ref ep7])) ep8 = some (HO.tup [.str "if", .ref o2, .ref ep6, .ref ep7]) := upd_same
    generalize upd eA7 ep8 (HO.tup [.str "if", .ref o2, .ref ep6, .ref ep7]) = eA8 at et8 eh8 ⊢
    refine ⟨small (by show 4 ≤ 5000; decide), fun ep9 en9 => ?_⟩
    have et9 := same_new (o := HO.lst [.ref ep2, .ref ep3, .ref ep5, .ref ep8]) en9
    have eh9 : (upd eA8 ep9 (HO.lst [.ref ep2, .ref ep3, .ref ep5, .ref ep8])) ep9 = some (HO.lst [.ref ep2, .ref ep3, .ref ep5, .ref ep8]) := upd_same
    generalize upd eA8 ep9 (HO.lst [.ref ep2, .ref ep3, .ref ep5, .ref ep8]) = eA9 at et9 eh9 ⊢
    have eu9 := Same.refl eA9
    have eu8 := et9.trans eu9
    have eu7 := et8.trans eu8
    have eu6 := et7.trans eu7
    have eu5 := et6.trans eu6
    have eu4 := et5.trans eu5
    have eu3 := et4.trans eu4
    have eu2 := et3.trans eu3
    have eu1 := et2.trans eu2
    have eu0 := et1.trans eu1
    have eall : ∀ z ∈ ([.ref ep2, .ref ep3, .ref ep5, .ref ep8] : List V), ∃ d, Gp K eA9 z d ∧ OddS d := fun z hz => by
      simp only [List.mem_cons, List.not_mem_nil, or_false] at hz
      rcases hz with rfl | rfl | rfl | rfl
      · exact ⟨.tuple [.str "call", .list [.str "p"]], .tup (SqT.of (eu2 _ _ eh2)) (.cons (.str _) (.cons (.lst (SqL.of (eu1 _ _ eh1)) (.cons (.str _) .nil)) .nil)), odd_dec (by decide +kernel)⟩
      · exact ⟨.tuple [.str "call", .str "p", .int 1], .tup (SqT.of (eu3 _ _ eh3)) (.cons (.str _) (.cons (.str _) (.cons (.int _) .nil))), odd_dec (by decide +kernel)⟩
      · exact ⟨.tuple [.str "if", .tuple [.str "sum", .int 1, .tuple [], .int 1], .tuple []], .tup (SqT.of (eu5 _ _ eh5)) (.cons (.str _) (.cons ((gone4.same eu0)) (.cons (.tup (SqT.of (eu4 _ _ eh4)) .nil) .nil))), odd_dec (by decide +kernel)⟩
      · exact ⟨.tuple [.str "if", .tuple [.str "sum", .int 1, .tuple [], .int 1], .tuple [], .list []], .tup (SqT.of (eu8 _ _ eh8)) (.cons (.str _) (.cons ((gone4.same eu0)) (.cons (.tup (SqT.of (eu6 _ _ eh6)) .nil) (.cons (.lst (SqL.of (eu7 _ _ eh7)) .nil) .nil)))), odd_dec (by decide +kernel)⟩
    refine ⟨dl, ep9, xs, _, rfl, rfl, eu0 _ _ hl, eh9, by rw [sizeLine_eq]; show xs.length + 4 ≤ _; omega, fun el em => ?_⟩
    have er := same_new (o := HO.lst (xs ++ [.ref ep2, .ref ep3, .ref ep5, .ref ep8])) em
    have ek : (upd eA9 el (HO.lst (xs ++ [.ref ep2, .ref ep3, .ref ep5, .ref ep8]))) el = some (HO.lst (xs ++ [.ref ep2, .ref ep3, .ref ep5, .ref ep8])) := upd_same
    generalize upd eA9 el (HO.lst (xs ++ [.ref ep2, .ref ep3, .ref ep5, .ref ep8])) = eH at er ek ⊢
    have ev := eu0.trans er
    have key : ∃ ys : List V, eH el = some (.lst ys) ∧ ys.length ≤ 27 ∧ ∀ z ∈ ys, ∃ d, Gp K eH z d ∧ OddS d := by
      refine ⟨_, ek, by rw [List.length_append]; show xs.length + 4 ≤ 27; omega, fun z hz => ?_⟩
      rcases List.mem_append.mp hz with hz | hz
      · obtain ⟨d, h1, h2⟩ := xall z hz
        exact ⟨d, h1.same ev, h2⟩
      · obtain ⟨d, h1, h2⟩ := eall z hz
        exact ⟨d, h1.same er, h2⟩
    have gone5 := gone4.same ev
    have gread5 := gread4.same ev
    have sH5 := sH4.trans ev
    clear ek hl xall gone4 gread4
    clear eall eh1 en1 et1 eu1 eh2 en2 et2 eu2 eh3 en3 et3 eu3 eh4 en4 et4 eu4 eh5 en5 et5 eu5 eh6 en6 et6 eu6 eh7 en7 et7 eu7 eh8 en8 et8 eu8 eh9 en9 et9 eu9 eu0
    obtain ⟨xs, hl, xlen, xall⟩ := key
    refine ⟨_, rfl, _, rfl, small (by show 0 ≤ 5000; decide), fun fp1 fn1 => ?_⟩
    have ft1 := same_new (o := HO.tup []) fn1
    have fh1 : (upd eH fp1 (HO.tup [])) fp1 = some (HO.tup []) := upd_same
    generalize upd eH fp1 (HO.tup []) = fA1 at ft1 fh1 ⊢
    refine ⟨small (by show 0 ≤ 5000; decide), fun fp2 fn2 => ?_⟩
    have ft2 := same_new (o := HO.tup []) fn2
    have fh2 : (upd fA1 fp2 (HO.tup [])) fp2 = some (HO.tup []) := upd_same
    generalize upd fA1 fp2 (HO.tup []) = fA2 at ft2 fh2 ⊢
    refine ⟨small (by show 0 ≤ 5000; decide), fun fp3 fn3 => ?_⟩
    have ft3 := same_new (o := HO.tup []) fn3
    have fh3 : (upd fA2 fp3 (HO.tup [])) fp3 = some (HO.tup []) := upd_same
    generalize upd fA2 fp3 (HO.tup []) = fA3 at ft3 fh3 ⊢
    refine ⟨small (by show 5 ≤ 5000; decide), fun fp4 fn4 => ?_⟩
    have ft4 := same_new (o := HO.tup [.str "if", .ref o2, .ref fp1, .ref fp2, .ref fp3]) fn4
    have fh4 : (upd fA3 fp4 (HO.tup [.str "if", .ref o2, .ref fp1, .ref fp2, .ref fp3])) fp4 = some (HO.tup [.str "if", .ref o2, .ref fp1, .ref fp2, .ref fp3]) := upd_same
    generalize upd fA3 fp4 (HO.tup [.str "if", .ref o2, .ref fp1, .ref fp2, .ref fp3]) = fA4 at ft4 fh4 ⊢
    refine ⟨small (by show 0 ≤ 5000; decide), fun fp5 fn5 => ?_⟩
    have ft5 := same_new (o := HO.tup []) fn5
    have fh5 : (upd fA4 fp5 (HO.tup [])) fp5 = some (HO.tup []) := upd_same
    generalize upd fA4 fp5 (HO.tup []) = fA5 at ft5 fh5 ⊢
    refine ⟨small (by show 0 ≤ 5000; decide), fun fp6 fn6 => ?_⟩
    have ft6 := same_new (o := HO.tup []) fn6
    have fh6 : (upd fA5 fp6 (HO.tup [])) fp6 = some (HO.tup []) := upd_same
    generalize upd fA5 fp6 (HO.tup []) = fA6 at ft6 fh6 ⊢
    refine ⟨small (by show 4 ≤ 5000; decide), fun fp7 fn7 => ?_⟩
    have ft7 := same_new (o := HO.tup [.str "if", .non, .ref fp5, .ref fp6]) fn7
    have fh7 : (upd fA6 fp7 (HO.tup [.str "if", .non, .ref fp5, .ref fp6])) fp7 = some (HO.tup [.str "if", .non, .ref fp5, .ref fp6]) := upd_same
    generalize upd fA6 fp7 (HO.tup [.str "if", .non, .ref fp5, .ref fp6]) = fA7 at ft7 fh7 ⊢
    refine ⟨_, rfl, small (by show 3 ≤ 5000; decide), fun fp8 fn8 => ?_⟩
    have ft8 := same_new (o := HO.tup [.str "while", .ref o2, .non]) fn8
    have fh8 : (upd fA7 fp8 (HO.tup [.str "while", .ref o2, .non])) fp8 = some (HO.tup [.str "while", .ref o2, .non]) := upd_same
    generalize upd fA7 fp8 (HO.tup [.str "while", .ref o2, .non]) = fA8 at ft8 fh8 ⊢
    refine ⟨small (by show 0 ≤ 5000; decide), fun fp9 fn9 => ?_⟩
    have ft9 := same_new (o := HO.tup []) fn9
    have fh9 : (upd fA8 fp9 (HO.tup [])) fp9 = some (HO.tup []) := upd_same
    generalize upd fA8 fp9 (HO.tup []) = fA9 at ft9 fh9 ⊢
    refine ⟨small (by show 0 ≤ 5000; decide), fun fp10 fn10 => ?_⟩
    have ft10 := same_new (o := HO.tup []) fn10
    have fh10 : (upd fA9 fp10 (HO.tup [])) fp10 = some (HO.tup []) := upd_same
    generalize upd fA9 fp10 (HO.tup []) = fA10 at ft10 fh10 ⊢
    refine ⟨small (by show 3 ≤ 5000; decide), fun fp11 fn11 => ?_⟩
    have ft11 := same_new (o := HO.tup [.str "while", .ref fp9, .ref fp10]) fn11
    have fh11 : (upd fA10 fp11 (HO.tup [.str "while", .ref fp9, .ref fp10])) fp11 = some (HO.tup [.str "while", .ref fp9, .ref fp10]) := upd_same
    generalize upd fA10 fp11 (HO.tup [.str "while", .ref fp9, .ref fp10]) = fA11 at ft11 fh11 ⊢
    refine ⟨small (by show 4 ≤ 5000; decide), fun fp12 fn12 => ?_⟩
    have ft12 := same_new (o := HO.lst [.ref fp4, .ref fp7, .ref fp8, .ref fp11]) fn12
    have fh12 : (upd fA11 fp12 (HO.lst [.ref fp4, .ref fp7, .ref fp8, .ref fp11])) fp12 = some (HO.lst [.ref fp4, .ref fp7, .ref fp8, .ref fp11]) := upd_same
    generalize upd fA11 fp12 (HO.lst [.ref fp4, .ref fp7, .ref fp8, .ref fp11]) = fA12 at ft12 fh12 ⊢
    have fu12 := Same.refl fA12
    have fu11 := ft12.trans fu12
    have fu10 := ft11.trans fu11
    have fu9 := ft10.trans fu10
    have fu8 := ft9.trans fu9
    have fu7 := ft8.trans fu8
    have fu6 := ft7.trans fu7
    have fu5 := ft6.trans fu6
    have fu4 := ft5.trans fu5
    have fu3 := ft4.trans fu4
    have fu2 := ft3.trans fu3
    have fu1 := ft2.trans fu2
    have fu0 := ft1.trans fu1
    have fall : ∀ z ∈ ([.ref fp4, .ref fp7, .ref fp8, .ref fp11] : List V), ∃ d, Gp K fA12 z d ∧ OddS d := fun z hz => by
      simp only [List.mem_cons, List.not_mem_nil, or_false] at hz
      rcases hz with rfl | rfl | rfl | rfl
      · exact ⟨.tuple [.str "if", .tuple [.str "sum", .int 1, .tuple [], .int 1], .tuple [], .tuple [], .tuple []], .tup (SqT.of (fu4 _ _ fh4)) (.cons (.str _) (.cons ((gone5.same fu0)) (.cons (.tup (SqT.of (fu1 _ _ fh1)) .nil) (.cons (.tup (SqT.of (fu2 _ _ fh2)) .nil) (.cons (.tup (SqT.of (fu3 _ _ fh3)) .nil) .nil))))), odd_dec (by decide +kernel)⟩
      · exact ⟨.tuple [.str "if", .none, .tuple [], .tuple []], .tup (SqT.of (fu7 _ _ fh7)) (.cons (.str _) (.cons (.non) (.cons (.tup (SqT.of (fu5 _ _ fh5)) .nil) (.cons (.tup (SqT.of (fu6 _ _ fh6)) .nil) .nil)))), odd_dec (by decide +kernel)⟩
      · exact ⟨.tuple [.str "while", .tuple [.str "sum", .int 1, .tuple [], .int 1], .none], .tup (SqT.of (fu8 _ _ fh8)) (.cons (.str _) (.cons ((gone5.same fu0)) (.cons (.non) .nil))), odd_dec (by decide +kernel)⟩
      · exact ⟨.tuple [.str "while", .tuple [], .tuple []], .tup (SqT.of (fu11 _ _ fh11)) (.cons (.str _) (.cons (.tup (SqT.of (fu9 _ _ fh9)) .nil) (.cons (.tup (SqT.of (fu10 _ _ fh10)) .nil) .nil))), odd_dec (by decide +kernel)⟩
    refine ⟨el, fp12, xs, _, rfl, rfl, fu0 _ _ hl, fh12, by rw [sizeLine_eq]; show xs.length + 4 ≤ _; omega, fun fl fm => ?_⟩
    have fr := same_new (o := HO.lst (xs ++ [.ref fp4, .ref fp7, .ref fp8, .ref fp11])) fm
    have fk : (upd fA12 fl (HO.lst (xs ++ [.ref fp4, .ref fp7, .ref fp8, .ref fp11]))) fl = some (HO.lst (xs ++ [.ref fp4, .ref fp7, .ref fp8, .ref fp11])) := upd_same
    generalize upd fA12 fl (HO.lst (xs ++ [.ref fp4, .ref fp7, .ref fp8, .ref fp11])) = fH at fr fk ⊢
    have fv := fu0.trans fr
    have key : ∃ ys : List V, fH fl = some (.lst ys) ∧ ys.length ≤ 31 ∧ ∀ z ∈ ys, ∃ d, Gp K fH z d ∧ OddS d := by
      refine ⟨_, fk, by rw [List.length_append]; show xs.length + 4 ≤ 31; omega, fun z hz => ?_⟩
      rcases List.mem_append.mp hz with hz | hz
      · obtain ⟨d, h1, h2⟩ := xall z hz
        exact ⟨d, h1.same fv, h2⟩
      · obtain ⟨d, h1, h2⟩ := fall z hz
        exact ⟨d, h1.same fr, h2⟩
    have gone6 := gone5.same fv
    have gread6 := gread5.same fv
    have sH6 := sH5.trans fv
    clear fk hl xall gone5 gread5
    clear fall fh1 fn1 ft1 fu1 fh2 fn2 ft2 fu2 fh3 fn3 ft3 fu3 fh4 fn4 ft4 fu4 fh5 fn5 ft5 fu5 fh6 fn6 ft6 fu6 fh7 fn7 ft7 fu7 fh8 fn8 ft8 fu8 fh9 fn9 ft9 fu9 fh10 fn10 ft10 fu10 fh11 fn11 ft11 fu11 fh12 fn12 ft12 fu12 fu0
    obtain ⟨xs, hl, xlen, xall⟩ := key
    refine ⟨_, rfl, _, rfl, small (by show 1 ≤ 5000; decide), fun gp1 gn1 => ?_⟩
    have gt1 := same_new (o := HO.tup [.non]) gn1
    have gh1 : (upd fH gp1 (HO.tup [.non])) gp1 = some (HO.tup [.non]) := upd_same
    generalize upd fH gp1 (HO.tup [.non]) = gA1 at gt1 gh1 ⊢
    refine ⟨small (by show 3 ≤ 5000; decide), fun gp2 gn2 => ?_⟩
    have gt2 := same_new (o := HO.tup [.str "while", .ref o2, .ref gp1]) gn2
    have gh2 : (upd gA1 gp2 (HO.tup [.str "while", .ref o2, .ref gp1])) gp2 = some (HO.tup [.str "while", .ref o2, .ref gp1]) := upd_same
    generalize upd gA1 gp2 (HO.tup [.str "while", .ref o2, .ref gp1]) = gA2 at gt2 gh2 ⊢
    refine ⟨_, rfl, small (by show 2 ≤ 5000; decide), fun gp3 gn3 => ?_⟩
    have gt3 := same_new (o := HO.tup [.str "repeat", .ref o2]) gn3
    have gh3 : (upd gA2 gp3 (HO.tup [.str "repeat", .ref o2])) gp3 = some (HO.tup [.str "repeat", .ref o2]) := upd_same
    generalize upd gA2 gp3 (HO.tup [.str "repeat", .ref o2]) = gA3 at gt3 gh3 ⊢
    refine ⟨_, rfl, _, rfl, small (by show 2 ≤ 5000; decide), fun gp4 gn4 => ?_⟩
    have gt4 := same_new (o := HO.tup [.str "print", .ref o2]) gn4
    have gh4 : (upd gA3 gp4 (HO.tup [.str "print", .ref o2])) gp4 = some (HO.tup [.str "print", .ref o2]) := upd_same
    generalize upd gA3 gp4 (HO.tup [.str "print", .ref o2]) = gA4 at gt4 gh4 ⊢
    refine ⟨small (by show 1 ≤ 5000; decide), fun gp5 gn5 => ?_⟩
    have gt5 := same_new (o := HO.lst [.ref gp4]) gn5
    have gh5 : (upd gA4 gp5 (HO.lst [.ref gp4])) gp5 = some (HO.lst [.ref gp4]) := upd_same
    generalize upd gA4 gp5 (HO.lst [.ref gp4]) = gA5 at gt5 gh5 ⊢
    refine ⟨small (by show 3 ≤ 5000; decide), fun gp6 gn6 => ?_⟩
    have gt6 := same_new (o := HO.tup [.str "repeat", .ref o2, .ref gp5]) gn6
    have gh6 : (upd gA5 gp6 (HO.tup [.str "repeat", .ref o2, .ref gp5])) gp6 = some (HO.tup [.str "repeat", .ref o2, .ref gp5]) := upd_same
    generalize upd gA5 gp6 (HO.tup [.str "repeat", .ref o2, .ref gp5]) = gA6 at gt6 gh6 ⊢
    refine ⟨_, rfl, small (by show 2 ≤ 5000; decide), fun gp7 gn7 => ?_⟩
    have gt7 := same_new (o := HO.tup [.non, .ref o2]) gn7
    have gh7 : (upd gA6 gp7 (HO.tup [.non, .ref o2])) gp7 = some (HO.tup [.non, .ref o2]) := upd_same
    generalize upd gA6 gp7 (HO.tup [.non, .ref o2]) = gA7 at gt7 gh7 ⊢
    refine ⟨small (by show 1 ≤ 5000; decide), fun gp8 gn8 => ?_⟩
    have gt8 := same_new (o := HO.tup [.int 1]) gn8
    have gh8 : (upd gA7 gp8 (HO.tup [.int 1])) gp8 = some (HO.tup [.int 1]) := upd_same
    generalize upd gA7 gp8 (HO.tup [.int 1]) = gA8 at gt8 gh8 ⊢
    refine ⟨small (by show 5 ≤ 5000; decide), fun gp9 gn9 => ?_⟩
    have gt9 := same_new (o := HO.lst [.ref gp2, .ref gp3, .ref gp6, .ref gp7, .ref gp8]) gn9
    have gh9 : (upd gA8 gp9 (HO.lst [.ref gp2, .ref gp3, .ref gp6, .ref gp7, .ref gp8])) gp9 = some (HO.lst [.ref gp2, .ref gp3, .ref gp6, .ref gp7, .ref gp8]) := upd_same
    generalize upd gA8 gp9 (HO.lst [.ref gp2, .ref gp3, .ref gp6, .ref gp7, .ref gp8]) = gA9 at gt9 gh9 ⊢
    have gu9 := Same.refl gA9
    have gu8 := gt9.trans gu9
    have gu7 := gt8.trans gu8
    have gu6 := gt7.trans gu7
    have gu5 := gt6.trans gu6
    have gu4 := gt5.trans gu5
    have gu3 := gt4.trans gu4
    have gu2 := gt3.trans gu3
    have gu1 := gt2.trans gu2
    have gu0 := gt1.trans gu1
    have gall : ∀ z ∈ ([.ref gp2, .ref gp3, .ref gp6, .ref gp7, .ref gp8] : List V), ∃ d, Gp K gA9 z d ∧ OddS d := fun z hz => by
      simp only [List.mem_cons, List.not_mem_nil, or_false] at hz
      rcases hz with rfl | rfl | rfl | rfl | rfl
      · exact ⟨.tuple [.str "while", .tuple [.str "sum", .int 1, .tuple [], .int 1], .tuple [.none]], .tup (SqT.of (gu2 _ _ gh2)) (.cons (.str _) (.cons ((gone6.same gu0)) (.cons (.tup (SqT.of (gu1 _ _ gh1)) (.cons (.non) .nil)) .nil))), odd_dec (by decide +kernel)⟩
      · exact ⟨.tuple [.str "repeat", .tuple [.str "sum", .int 1, .tuple [], .int 1]], .tup (SqT.of (gu3 _ _ gh3)) (.cons (.str _) (.cons ((gone6.same gu0)) .nil)), odd_dec (by decide +kernel)⟩
      · exact ⟨.tuple [.str "repeat", .tuple [.str "sum", .int 1, .tuple [], .int 1], .list [.tuple [.str "print", .tuple [.str "sum", .int 1, .tuple [], .int 1]]]], .tup (SqT.of (gu6 _ _ gh6)) (.cons (.str _) (.cons ((gone6.same gu0)) (.cons (.lst (SqL.of (gu5 _ _ gh5)) (.cons (.tup (SqT.of (gu4 _ _ gh4)) (.cons (.str _) (.cons ((gone6.same gu0)) .nil))) .nil)) .nil))), odd_dec (by decide +kernel)⟩
      · exact ⟨.tuple [.none, .tuple [.str "sum", .int 1, .tuple [], .int 1]], .tup (SqT.of (gu7 _ _ gh7)) (.cons (.non) (.cons ((gone6.same gu0)) .nil)), odd_dec (by decide +kernel)⟩
      · exact ⟨.tuple [.int 1], .tup (SqT.of (gu8 _ _ gh8)) (.cons (.int _) .nil), odd_dec (by decide +kernel)⟩
    refine ⟨fl, gp9, xs, _, rfl, rfl, gu0 _ _ hl, gh9, by rw [sizeLine_eq]; show xs.length + 5 ≤ _; omega, fun gl gm => ?_⟩
    have gr := same_new (o := HO.lst (xs ++ [.ref gp2, .ref gp3, .ref gp6, .ref gp7, .ref gp8])) gm
    have gk : (upd gA9 gl (HO.lst (xs ++ [.ref gp2, .ref gp3, .ref gp6, .ref gp7, .ref gp8]))) gl = some (HO.lst (xs ++ [.ref gp2, .ref gp3, .ref gp6, .ref gp7, .ref gp8])) := upd_same
    generalize upd gA9 gl (HO.lst (xs ++ [.ref gp2, .ref gp3, .ref gp6, .ref gp7, .ref gp8])) = gH at gr gk ⊢
    have gv := gu0.trans gr
    have key : ∃ ys : List V, gH gl = some (.lst ys) ∧ ys.length ≤ 36 ∧ ∀ z ∈ ys, ∃ d, Gp K gH z d ∧ OddS d := by
      refine ⟨_, gk, by rw [List.length_append]; show xs.length + 5 ≤ 36; omega, fun z hz => ?_⟩
      rcases List.mem_append.mp hz with hz | hz
      · obtain ⟨d, h1, h2⟩ := xall z hz
        exact ⟨d, h1.same gv, h2⟩
      · obtain ⟨d, h1, h2⟩ := gall z hz
        exact ⟨d, h1.same gr, h2⟩
    have gone7 := gone6.same gv
    have gread7 := gread6.same gv
    have sH7 := sH6.trans gv
    clear gk hl xall gone6 gread6
    clear gall gh1 gn1 gt1 gu1 gh2 gn2 gt2 gu2 gh3 gn3 gt3 gu3 gh4 gn4 gt4 gu4 gh5 gn5 gt5 gu5 gh6 gn6 gt6 gu6 gh7 gn7 gt7 gu7 gh8 gn8 gt8 gu8 gh9 gn9 gt9 gu9 gu0
    obtain ⟨xs, hl, xlen, xall⟩ := key
    refine ⟨_, rfl, _, rfl, _, rfl, small (by show 3 ≤ 5000; decide), fun wp1 wn1 => ?_⟩
    have wt1 := same_new (o := HO.tup [.str "set", .str "strange", .ref o2]) wn1
    have wh1 : (upd gH wp1 (HO.tup [.str "set", .str "strange", .ref o2])) wp1 = some (HO.tup [.str "set", .str "strange", .ref o2]) := upd_same
    generalize upd gH wp1 (HO.tup [.str "set", .str "strange", .ref o2]) = wA1 at wt1 wh1 ⊢
    refine ⟨small (by show 1 ≤ 5000; decide), fun wp2 wn2 => ?_⟩
    have wt2 := same_new (o := HO.tup [.ref wp1]) wn2
    have wh2 : (upd wA1 wp2 (HO.tup [.ref wp1])) wp2 = some (HO.tup [.ref wp1]) := upd_same
    generalize upd wA1 wp2 (HO.tup [.ref wp1]) = wA2 at wt2 wh2 ⊢
    refine ⟨small (by show 3 ≤ 5000; decide), fun wp3 wn3 => ?_⟩
    have wt3 := same_new (o := HO.tup [.str "repeat", .ref o2, .ref wp2]) wn3
    have wh3 : (upd wA2 wp3 (HO.tup [.str "repeat", .ref o2, .ref wp2])) wp3 = some (HO.tup [.str "repeat", .ref o2, .ref wp2]) := upd_same
    generalize upd wA2 wp3 (HO.tup [.str "repeat", .ref o2, .ref wp2]) = wA3 at wt3 wh3 ⊢
    refine fun wp4 wn4 => ?_
    have wt4 := same_new (o := .dK []) wn4
    have wh4 : (upd wA3 wp4 (.dK [])) wp4 = some (.dK []) := upd_same
    generalize upd wA3 wp4 (.dK []) = wA4 at wt4 wh4 ⊢
    refine ⟨_, rfl, small (by show 2 ≤ 5000; decide), fun wp5 wn5 => ?_⟩
    have wt5 := same_new (o := HO.tup [.ref wp4, .ref o2]) wn5
    have wh5 : (upd wA4 wp5 (HO.tup [.ref wp4, .ref o2])) wp5 = some (HO.tup [.ref wp4, .ref o2]) := upd_same
    generalize upd wA4 wp5 (HO.tup [.ref wp4, .ref o2]) = wA5 at wt5 wh5 ⊢
    refine ⟨_, rfl, small (by show 2 ≤ 5000; decide), fun wp6 wn6 => ?_⟩
    have wt6 := same_new (o := HO.tup [.str "call", .str "strange"]) wn6
    have wh6 : (upd wA5 wp6 (HO.tup [.str "call", .str "strange"])) wp6 = some (HO.tup [.str "call", .str "strange"]) := upd_same
    generalize upd wA5 wp6 (HO.tup [.str "call", .str "strange"]) = wA6 at wt6 wh6 ⊢
    refine ⟨small (by show 1 ≤ 5000; decide), fun wp7 wn7 => ?_⟩
    have wt7 := same_new (o := HO.tup [.ref wp6]) wn7
    have wh7 : (upd wA6 wp7 (HO.tup [.ref wp6])) wp7 = some (HO.tup [.ref wp6]) := upd_same
    generalize upd wA6 wp7 (HO.tup [.ref wp6]) = wA7 at wt7 wh7 ⊢
    refine ⟨small (by show 0 ≤ 5000; decide), fun wp8 wn8 => ?_⟩
    have wt8 := same_new (o := HO.tup []) wn8
    have wh8 : (upd wA7 wp8 (HO.tup [])) wp8 = some (HO.tup []) := upd_same
    generalize upd wA7 wp8 (HO.tup []) = wA8 at wt8 wh8 ⊢
    refine ⟨small (by show 4 ≤ 5000; decide), fun wp9 wn9 => ?_⟩
    have wt9 := same_new (o := HO.tup [.str "if", .ref o2, .ref wp7, .ref wp8]) wn9
    have wh9 : (upd wA8 wp9 (HO.tup [.str "if", .ref o2, .ref wp7, .ref wp8])) wp9 = some (HO.tup [.str "if", .ref o2, .ref wp7, .ref wp8]) := upd_same
    generalize upd wA8 wp9 (HO.tup [.str "if", .ref o2, .ref wp7, .ref wp8]) = wA9 at wt9 wh9 ⊢
    refine ⟨small (by show 3 ≤ 5000; decide), fun wp10 wn10 => ?_⟩
    have wt10 := same_new (o := HO.lst [.ref wp3, .ref wp5, .ref wp9]) wn10
    have wh10 : (upd wA9 wp10 (HO.lst [.ref wp3, .ref wp5, .ref wp9])) wp10 = some (HO.lst [.ref wp3, .ref wp5, .ref wp9]) := upd_same
    generalize upd wA9 wp10 (HO.lst [.ref wp3, .ref wp5, .ref wp9]) = wA10 at wt10 wh10 ⊢
    have wu10 := Same.refl wA10
    have wu9 := wt10.trans wu10
    have wu8 := wt9.trans wu9
    have wu7 := wt8.trans wu8
    have wu6 := wt7.trans wu7
    have wu5 := wt6.trans wu6
    have wu4 := wt5.trans wu5
    have wu3 := wt4.trans wu4
    have wu2 := wt3.trans wu3
    have wu1 := wt2.trans wu2
    have wu0 := wt1.trans wu1
    have wall : ∀ z ∈ ([.ref wp3, .ref wp5, .ref wp9] : List V), ∃ d, Gp K wA10 z d ∧ OddS d := fun z hz => by
      simp only [List.mem_cons, List.not_mem_nil, or_false] at hz
      rcases hz with rfl | rfl | rfl
      · exact ⟨.tuple [.str "repeat", .tuple [.str "sum", .int 1, .tuple [], .int 1], .tuple [.tuple [.str "set", .str "strange", .tuple [.str "sum", .int 1, .tuple [], .int 1]]]], .tup (SqT.of (wu3 _ _ wh3)) (.cons (.str _) (.cons ((gone7.same wu0)) (.cons (.tup (SqT.of (wu2 _ _ wh2)) (.cons (.tup (SqT.of (wu1 _ _ wh1)) (.cons (.str _) (.cons (.str _) (.cons ((gone7.same wu0)) .nil)))) .nil)) .nil))), odd_dec (by decide +kernel)⟩
      · exact ⟨.tuple [.dict [], .tuple [.str "sum", .int 1, .tuple [], .int 1]], .tup (SqT.of (wu5 _ _ wh5)) (.cons (.emp (wu4 _ _ wh4)) (.cons ((gone7.same wu0)) .nil)), odd_emp⟩
      · exact ⟨.tuple [.str "if", .tuple [.str "sum", .int 1, .tuple [], .int 1], .tuple [.tuple [.str "call", .str "strange"]], .tuple []], .tup (SqT.of (wu9 _ _ wh9)) (.cons (.str _) (.cons ((gone7.same wu0)) (.cons (.tup (SqT.of (wu7 _ _ wh7)) (.cons (.tup (SqT.of (wu6 _ _ wh6)) (.cons (.str _) (.cons (.str _) .nil))) .nil)) (.cons (.tup (SqT.of (wu8 _ _ wh8)) .nil) .nil)))), odd_dec (by decide +kernel)⟩
    refine ⟨gl, wp10, xs, _, rfl, rfl, wu0 _ _ hl, wh10, by rw [sizeLine_eq]; show xs.length + 3 ≤ _; omega, fun wl wm => ?_⟩
    have wr := same_new (o := HO.lst (xs ++ [.ref wp3, .ref wp5, .ref wp9])) wm
    have wk : (upd wA10 wl (HO.lst (xs ++ [.ref wp3, .ref wp5, .ref wp9]))) wl = some (HO.lst (xs ++ [.ref wp3, .ref wp5, .ref wp9])) := upd_same
    generalize upd wA10 wl (HO.lst (xs ++ [.ref wp3, .ref wp5, .ref wp9])) = wH at wr wk ⊢
    have wv := wu0.trans wr
    have key : ∃ ys : List V, wH wl = some (.lst ys) ∧ ys.length ≤ 39 ∧ ∀ z ∈ ys, ∃ d, Gp K wH z d ∧ OddS d := by
      refine ⟨_, wk, by rw [List.length_append]; show xs.length + 3 ≤ 39; omega, fun z hz => ?_⟩
      rcases List.mem_append.mp hz with hz | hz
      · obtain ⟨d, h1, h2⟩ := xall z hz
        exact ⟨d, h1.same wv, h2⟩
      · obtain ⟨d, h1, h2⟩ := wall z hz
        exact ⟨d, h1.same wr, h2⟩
    have gone8 := gone7.same wv
    have gread8 := gread7.same wv
    have sH8 := sH7.trans wv
    clear wk hl xall gone7 gread7
    clear wall wh1 wn1 wt1 wu1 wh2 wn2 wt2 wu2 wh3 wn3 wt3 wu3 wh4 wn4 wt4 wu4 wh5 wn5 wt5 wu5 wh6 wn6 wt6 wu6 wh7 wn7 wt7 wu7 wh8 wn8 wt8 wu8 wh9 wn9 wt9 wu9 wh10 wn10 wt10 wu10 wu0
    obtain ⟨xs, hl, xlen, xall⟩ := key
    exact q wl xs _ sH8 hl xall
end
end Sp1

set_option Elab.async false
set_option linter.all false
set_option maxRecDepth 100000
set_option maxHeartbeats 1000000
namespace Pg
open PySem PySem.Spec PyProof.Rows L2
def ps1 : List Pr := [("p", [])]
theorem pv1 (names : List Str) : PrsV names ps1 := ⟨names_dec (by decide +kernel), by decide +kernel, by decide, fun p hp => by rw [List.mem_singleton.mp hp]; exact trivial⟩
theorem px1 : PrX (prsD ps1) := PrX.of (.inl (gd_dec (by decide +kernel)))
section
variable {names : List Str} {d : PyData}
theorem odd_bx (h : OddS d) : BlX (.tuple [d]) := .tup (by show 1 ≤ 500; decide) fun s hs => by
  rw [List.mem_singleton.mp hs]
  exact h.x
theorem odd_bk (hn : ∀ x ∈ names, x ∈ baseNames) {n : Nat} (h : stB n d = false) : ¬ BkP names (ps1.map (·.1)) n (.tuple [d]) := fun z =>
  not_st (procs := ps1.map (·.1)) hn (fun x hx => by
    have hx : x ∈ (([("p" : Str)]) : List Str) := hx
    exact List.mem_singleton.mp hx) h (bk_iff.mp z d List.mem_cons_self)
theorem odd_px (h : OddS d) : PrX (.tuple [.tuple [.str "p", .tuple [d]]]) := by
  intro ds e
  rw [← PyData.tuple.inj e]
  refine ⟨by show 1 ≤ 500; decide, fun x hx a b e => ?_⟩
  rw [List.mem_singleton.mp hx] at e
  have e := PyData.tuple.inj e
  simp only [List.cons.injEq, and_true] at e
  rw [← e.1, ← e.2]
  exact ⟨.inl (gd_dec (by decide +kernel)), odd_bx h⟩
theorem odd_pr (hn : ∀ x ∈ names, x ∈ baseNames) (h : OddS d) : ¬ PrsP names (.tuple [.tuple [.str "p", .tuple [d]]]) := by
  rintro ⟨ps, e, V⟩
  have e := PyData.tuple.inj e
  match ps, e, V with
  | [], e, V => cases e
  | p :: p2 :: r, e, V => cases (List.cons.inj e).2
  | [p], e, V =>
    simp only [List.map_cons, List.map_nil, List.cons.injEq, and_true] at e
    have e := PyData.tuple.inj e
    simp only [List.cons.injEq, and_true] at e
    have e1 := PyData.str.inj e.1
    have hb := V.bl p List.mem_cons_self
    refine odd_bk hn h.n7 ⟨p.2, e.2, ?_⟩
    have : ([p].map (·.1)) = ps1.map (·.1) := by
      show [p.1] = [("p" : Str)]
      rw [← e1]
    rw [← this]
    exact hb
theorem odd_wx (h : OddS d) : BlX (.tuple [.tuple [.str "while", .tuple [.str "read"], .tuple [d]]]) := .tup (by show 1 ≤ 500; decide) fun s hs => by
  rw [List.mem_singleton.mp hs]
  refine .comp (gz_word (by decide +kernel) (by decide +kernel)) (.inl (gd_dec (by decide +kernel))) (by show 1 ≤ 500; decide) (fun b hb => ?_) (by decide +kernel)
  rw [List.mem_singleton.mp hb]
  exact odd_bx h
theorem odd_wb (hn : ∀ x ∈ names, x ∈ baseNames) (h : OddS d) : ¬ BkP names (ps1.map (·.1)) 7 (.tuple [.tuple [.str "while", .tuple [.str "read"], .tuple [d]]]) := by
  intro z
  have z := bk_iff.mp z _ List.mem_cons_self
  rcases st_cases.mp z with ⟨_, _, e, _⟩ | ⟨_, _, e, _⟩ | ⟨_, e, _⟩ | ⟨_, e, _⟩ | ⟨e, bs, ⟨m, hm, hb⟩, hr, _⟩
  · exact absurd (PyData.str.inj e) (by decide +kernel)
  · exact absurd (PyData.str.inj e) (by decide +kernel)
  · exact absurd (PyData.str.inj e) (by decide +kernel)
  · exact absurd (PyData.str.inj e) (by decide +kernel)
  · obtain rfl : m = 6 := by omega
    have hr := (List.cons.inj hr).2
    exact odd_bk hn h.n6 (hb _ (by rw [← hr]; exact List.mem_cons_self))
end
end Pg
namespace Sp1
open PySem PySem.Spec PyProof.Rows L2 Pg Sp1X
section
variable {P : Program} {w : World} {K : PySem.W.Frag} {mg : Str → Option Value} {base : Heap}
theorem ok__law_statements_hold (TP : PgF K mg) (C : PgC K mg) (U : PgI K mg) (M : VeF K U.U) (T : LxF K mg) : FnOk P w K mg base CX0 37 T.f__law_statements_hold T.fd__law_statements_hold ["_law_parts_here"] (sp_xparts K) := by
  refine T.D__law_statements_hold.F.ok sc_l_statements_hold (fun vs H Q E h => ?_) (fun cdv A outer s H vs Q E hr h => ?_)
  · obtain ⟨v, pt, rfl, _⟩ := h
    rfl
  · obtain ⟨v, pt, rfl, hd, f, sm, src, q⟩ := h
    have nd := sc_l_statements_hold.nd
    refine ⟨_, (pss_cons (ps_asg (pv 0) (pg_tup rfl (pgs_cons (pg_name (i := 1) nd rfl (.inl rfl)) (pgs_cons (pg_name (i := 2) nd rfl (.inl rfl)) (pgs_cons (pg_name (i := 3) nd rfl (.inl rfl)) (pgs_cons (pg_name (i := 4) nd rfl (.inl rfl)) pgs_nil))))))
      (pss_cons (ps_set (i := 5) nd rfl (.inl rfl) (pe_ix (r := rIxT K) ix_tup (pe_op op_catU (pv 1) (pv 2)) pe_int (fun _ _ => rfl)))
      (pss_cons (ps_for PassesOwn.never rfl (pi_list (pe_call ((ok__law_statements T).mono (by decide)) hr (by rfl) T.D__law_statements.g T.D__law_statements.kp T.D__law_statements.b .nil pass0 (pa_cons (pv 5) (pa_cons pe_str pa_nil)))) (pg_name (i := 6) nd rfl (.inl rfl))
      (pss_cons (ps_if (pt_cmpR op_ne (pe_call ((ok__law_told TP C U M T).mono (by decide)) hr (by rfl) T.D__law_told.g T.D__law_told.kp T.D__law_told.b .nil pass0 (pa_cons (pv 1) (pa_cons (pv 2) (pa_cons (pe_tup (pa_cons (pe_tup (pa_cons pe_str (pa_cons (pe_tup pa_nil) pa_nil))) pa_nil)) (pa_cons (pe_tup (pa_cons (pv 6) pa_nil)) pa_nil))))) pe_str (nomark _))
        (pss_one (ps_ret pe_bl))
        pss_nil)
        (pss_cons (ps_if (pt_cmpR op_ne (pe_call ((ok__law_told TP C U M T).mono (by decide)) hr (by rfl) T.D__law_told.g T.D__law_told.kp T.D__law_told.b .nil pass0 (pa_cons (pv 1) (pa_cons (pv 2) (pa_cons (pe_tup (pa_cons (pe_tup (pa_cons pe_str (pa_cons (pe_tup (pa_cons (pv 6) pa_nil)) pa_nil))) pa_nil)) (pa_cons pe_non pa_nil))))) pe_str (nomark _))
        (pss_one (ps_ret pe_bl))
        pss_nil)
        (pss_one (ps_if (pt_cmpR op_ne (pe_call ((ok__law_told TP C U M T).mono (by decide)) hr (by rfl) T.D__law_told.g T.D__law_told.kp T.D__law_told.b .nil pass0 (pa_cons (pv 1) (pa_cons (pv 2) (pa_cons (pe_tup (pa_cons (pe_tup (pa_cons pe_str (pa_cons (pe_tup pa_nil) pa_nil))) pa_nil)) (pa_cons (pe_tup (pa_cons (pe_tup (pa_cons pe_str (pa_cons (pe_tup (pa_cons pe_str pa_nil)) (pa_cons (pe_tup (pa_cons (pv 6) pa_nil)) pa_nil)))) pa_nil)) pa_nil))))) pe_str (nomark _))
        (pss_one (ps_ret pe_bl))
        pss_nil)))))
      (pss_one (ps_ret pe_bl))))), ?_⟩
    obtain ⟨pa, gv, vv, qv, mv, rfl, hPS, hP⟩ := dp_pt hd
    obtain ⟨ga, rfl, hga⟩ := id hP.g
    obtain ⟨va, rfl, hva⟩ := id hP.v
    refine ⟨_, rfl, pa, _, rfl, hPS, rfl, _, _, rfl, _, _, rfl, _, _, rfl, _, _, rfl, rfl, ?_⟩
    have vo : VarsOk pt.given pt.vars := ⟨f.N, f.nd, f.l1, f.l4⟩
    have l4 := vo.l4
    have l1 := vo.l1
    have hn := src.names
    have gG : ∀ {H'}, Same H H' → Gp K H' (.ref ga) (.tuple (pt.given.map sD)) := fun s => gp_strs (Same.sqt s hga)
    have gV : ∀ {H'}, Same H H' → Gp K H' (.ref va) (.tuple (pt.vars.map sD)) := fun s => gp_strs (Same.sqt s hva)
    have nG : NmX (.tuple (pt.given.map sD)) := NmX.names vo.given.1 (by omega)
    have nV : NmX (.tuple (pt.vars.map sD)) := NmX.names (fun x hx => vo.N x (List.mem_append_right _ hx)) (by omega)
    have n0 : NmX .none := NmX.non fun ds e => by cases e
    have bN : BlX .none := .one (fun ds e => by cases e) (.inl (gd_dec (by decide +kernel)))
    have eqs : ∀ x : Str, (!decide (V.str x = V.str x)) = false := fun x => by
      rw [decide_eq_true rfl]
      rfl
    refine ⟨_, rfl, _, rfl, ga, va, _, _, rfl, rfl, hga, hva, by rw [List.length_map, List.length_map, sizeLine_eq]; omega, fun np B1 s1 hnp => ?_⟩
    rw [← List.map_append] at hnp
    obtain ⟨x, r, hxr⟩ : ∃ x r, pt.given ++ pt.vars = x :: r := by
      have : 1 ≤ (pt.given ++ pt.vars).length := by rw [List.length_append]; exact l1
      cases h : pt.given ++ pt.vars with
      | nil => rw [h] at this; exact absurd this (by decide)
      | cons x r => exact ⟨x, r, rfl⟩
    have hx : x ∈ baseNames := hn x (by rw [hxr]; exact List.mem_cons_self)
    rw [hxr] at hnp
    refine ⟨np, _, _, .str x, rfl, rfl, hnp, atI_nat (j := 0) rfl, ?_⟩
    refine ⟨_, rfl, x, rfl, hx, fun l xs B2 s2 hl xall => ?_⟩
    have s12 := s1.trans s2
    refine ⟨l, rfl, ⟨_, SqL.of hl⟩, for_list (K := K) (a := l) (fun _ σ H' => Same B2 H' ∧ ∃ y, σ = [some (.ref pa), some (.ref ga), some (.ref va), some qv, some mv, some (.str x), y]) ⟨Same.refl _, _, rfl⟩ (fun i' σ H' _ h => SqL.of (h.1 _ _ hl)) ?_ ?_⟩
    · rintro i z σ D0 hz ⟨s3, y, rfl⟩
      obtain ⟨d, hd1, od⟩ := xall z (List.mem_of_getElem? hz)
      have s13 := s12.trans s3
      have hd0 := hd1.same s3
      refine ⟨_, rfl, _, rfl, small (by show 0 ≤ 5000; decide), fun p1 m1 => ?_⟩
      have t1 := same_new (o := HO.tup []) m1
      have k1 : (upd D0 p1 (HO.tup [])) p1 = some (HO.tup []) := upd_same
      generalize upd D0 p1 (HO.tup []) = D1 at t1 k1 ⊢
      refine ⟨small (by show 2 ≤ 5000; decide), fun p2 m2 => ?_⟩
      have t2 := same_new (o := HO.tup [.str "p", .ref p1]) m2
      have k2 : (upd D1 p2 (HO.tup [.str "p", .ref p1])) p2 = some (HO.tup [.str "p", .ref p1]) := upd_same
      generalize upd D1 p2 (HO.tup [.str "p", .ref p1]) = D2 at t2 k2 ⊢
      refine ⟨small (by show 1 ≤ 5000; decide), fun p3 m3 => ?_⟩
      have t3 := same_new (o := HO.tup [.ref p2]) m3
      have k3 : (upd D2 p3 (HO.tup [.ref p2])) p3 = some (HO.tup [.ref p2]) := upd_same
      generalize upd D2 p3 (HO.tup [.ref p2]) = D3 at t3 k3 ⊢
      refine ⟨_, rfl, small (by show 1 ≤ 5000; decide), fun p4 m4 => ?_⟩
      have t4 := same_new (o := HO.tup [z]) m4
      have k4 : (upd D3 p4 (HO.tup [z])) p4 = some (HO.tup [z]) := upd_same
      generalize upd D3 p4 (HO.tup [z]) = D4 at t4 k4 ⊢
      have u04 := (t1.trans t2).trans (t3.trans t4)
      have e1 : Gp K D4 (.ref p3) (prsD ps1) := .tup (SqT.of (t4 _ _ k3)) (.cons (.tup (SqT.of ((t3.trans t4) _ _ k2)) (.cons (.str _) (.cons (.tup (SqT.of ((t2.trans (t3.trans t4)) _ _ k1)) .nil) .nil))) .nil)
      have e2 : Gp K D4 (.ref p4) (.tuple [d]) := .tup (SqT.of k4) (.cons (hd0.same u04) .nil)
      refine ⟨.ref ga, .ref va, .ref p3, .ref p4, _, _, _, _, rfl, gG (s13.trans u04), gV (s13.trans u04), e1, e2, nG, nV, init_main vo (pv1 _) px1 (odd_bx od) (odd_bk hn od.n7) fun D5 t5 => ?_⟩
      refine ⟨rfl, _, rfl, ?_⟩
      rw [eqs]
      refine iteF ?_
      have u05 := u04.trans t5
      clear e1 e2 k1 k2 k3 k4 m1 m2 m3 m4 t1 t2 t3 t4
      refine ⟨_, rfl, _, rfl, _, rfl, small (by show 1 ≤ 5000; decide), fun p1 m1 => ?_⟩
      have t1 := same_new (o := HO.tup [z]) m1
      have k1 : (upd D5 p1 (HO.tup [z])) p1 = some (HO.tup [z]) := upd_same
      generalize upd D5 p1 (HO.tup [z]) = D6 at t1 k1 ⊢
      refine ⟨small (by show 2 ≤ 5000; decide), fun p2 m2 => ?_⟩
      have t2 := same_new (o := HO.tup [.str "p", .ref p1]) m2
      have k2 : (upd D6 p2 (HO.tup [.str "p", .ref p1])) p2 = some (HO.tup [.str "p", .ref p1]) := upd_same
      generalize upd D6 p2 (HO.tup [.str "p", .ref p1]) = D7 at t2 k2 ⊢
      refine ⟨small (by show 1 ≤ 5000; decide), fun p3 m3 => ?_⟩
      have t3 := same_new (o := HO.tup [.ref p2]) m3
      have k3 : (upd D7 p3 (HO.tup [.ref p2])) p3 = some (HO.tup [.ref p2]) := upd_same
      generalize upd D7 p3 (HO.tup [.ref p2]) = D8 at t3 k3 ⊢
      have u58 := (t1.trans t2).trans t3
      have u08 := u05.trans u58
      have e1 : Gp K D8 (.ref p3) (.tuple [.tuple [.str "p", .tuple [d]]]) := .tup (SqT.of k3) (.cons (.tup (SqT.of (t3 _ _ k2)) (.cons (.str _) (.cons (.tup (SqT.of ((t2.trans t3) _ _ k1)) (.cons (hd0.same u08) .nil)) .nil))) .nil)
      refine ⟨.ref ga, .ref va, .ref p3, .non, _, _, _, .none, rfl, gG (s13.trans u08), gV (s13.trans u08), e1, .non, nG, nV, init_prs vo (odd_px od) bN (odd_pr hn od) fun D9 t9 => ?_⟩
      refine ⟨rfl, _, rfl, ?_⟩
      rw [eqs]
      refine iteF ?_
      have u09 := u08.trans t9
      clear e1 k1 k2 k3 m1 m2 m3 t1 t2 t3
      refine ⟨_, rfl, _, rfl, small (by show 0 ≤ 5000; decide), fun p1 m1 => ?_⟩
      have t1 := same_new (o := HO.tup []) m1
      have k1 : (upd D9 p1 (HO.tup [])) p1 = some (HO.tup []) := upd_same
      generalize upd D9 p1 (HO.tup []) = F1 at t1 k1 ⊢
      refine ⟨small (by show 2 ≤ 5000; decide), fun p2 m2 => ?_⟩
      have t2 := same_new (o := HO.tup [.str "p", .ref p1]) m2
      have k2 : (upd F1 p2 (HO.tup [.str "p", .ref p1])) p2 = some (HO.tup [.str "p", .ref p1]) := upd_same
      generalize upd F1 p2 (HO.tup [.str "p", .ref p1]) = F2 at t2 k2 ⊢
      refine ⟨small (by show 1 ≤ 5000; decide), fun p3 m3 => ?_⟩
      have t3 := same_new (o := HO.tup [.ref p2]) m3
      have k3 : (upd F2 p3 (HO.tup [.ref p2])) p3 = some (HO.tup [.ref p2]) := upd_same
      generalize upd F2 p3 (HO.tup [.ref p2]) = F3 at t3 k3 ⊢
      refine ⟨small (by show 1 ≤ 5000; decide), fun p4 m4 => ?_⟩
      have t4 := same_new (o := HO.tup [.str "read"]) m4
      have k4 : (upd F3 p4 (HO.tup [.str "read"])) p4 = some (HO.tup [.str "read"]) := upd_same
      generalize upd F3 p4 (HO.tup [.str "read"]) = F4 at t4 k4 ⊢
      refine ⟨_, rfl, small (by show 1 ≤ 5000; decide), fun p5 m5 => ?_⟩
      have t5' := same_new (o := HO.tup [z]) m5
      have k5 : (upd F4 p5 (HO.tup [z])) p5 = some (HO.tup [z]) := upd_same
      generalize upd F4 p5 (HO.tup [z]) = F5 at t5' k5 ⊢
      refine ⟨small (by show 3 ≤ 5000; decide), fun p6 m6 => ?_⟩
      have t6 := same_new (o := HO.tup [.str "while", .ref p4, .ref p5]) m6
      have k6 : (upd F5 p6 (HO.tup [.str "while", .ref p4, .ref p5])) p6 = some (HO.tup [.str "while", .ref p4, .ref p5]) := upd_same
      generalize upd F5 p6 (HO.tup [.str "while", .ref p4, .ref p5]) = F6 at t6 k6 ⊢
      refine ⟨small (by show 1 ≤ 5000; decide), fun p7 m7 => ?_⟩
      have t7 := same_new (o := HO.tup [.ref p6]) m7
      have k7 : (upd F6 p7 (HO.tup [.ref p6])) p7 = some (HO.tup [.ref p6]) := upd_same
      generalize upd F6 p7 (HO.tup [.ref p6]) = F7 at t7 k7 ⊢
      have w6 := t7
      have w5 := t6.trans w6
      have w4 := t5'.trans w5
      have w3 := t4.trans w4
      have w2 := t3.trans w3
      have w1 := t2.trans w2
      have w0 := t1.trans w1
      have u0f := u09.trans w0
      have e1 : Gp K F7 (.ref p3) (prsD ps1) := .tup (SqT.of (w3 _ _ k3)) (.cons (.tup (SqT.of (w2 _ _ k2)) (.cons (.str _) (.cons (.tup (SqT.of (w1 _ _ k1)) .nil) .nil))) .nil)
      have e2 : Gp K F7 (.ref p7) (.tuple [.tuple [.str "while", .tuple [.str "read"], .tuple [d]]]) := .tup (SqT.of k7) (.cons (.tup (SqT.of (w6 _ _ k6)) (.cons (.str _) (.cons (.tup (SqT.of (w4 _ _ k4)) (.cons (.str _) .nil)) (.cons (.tup (SqT.of (w5 _ _ k5)) (.cons (hd0.same u0f) .nil)) .nil)))) .nil)
      refine ⟨.ref ga, .ref va, .ref p3, .ref p7, _, _, _, _, rfl, gG (s13.trans u0f), gV (s13.trans u0f), e1, e2, nG, nV, init_main vo (pv1 _) px1 (odd_wx od) (odd_wb hn od) fun F8 t8 => ?_⟩
      refine ⟨rfl, _, rfl, ?_⟩
      rw [eqs]
      exact iteF ⟨s3.trans (u0f.trans t8), _, rfl⟩
    rintro σ D1 ⟨s3, y, rfl⟩
    exact q _ (s12.trans s3)
end
end Sp1

set_option Elab.async false
set_option linter.all false
set_option maxRecDepth 100000
set_option maxHeartbeats 1000000
namespace Pg
open PySem PySem.Spec PyProof.Rows L2
def oneE : Ex := .sum ⟨1, [], 1⟩
theorem oneOk (names : List Str) : oneE.Ok names := by
  refine ⟨(fun t ht => by cases ht), List.Pairwise.nil, by show (1 : Int) ≤ 1; decide, by show 0 ≤ 60; decide, by decide +kernel, fun x hx => ?_⟩
  simp only [List.map_nil, List.mem_cons, List.not_mem_nil, or_false] at hx
  rcases hx with rfl | rfl <;> exact ⟨by decide +kernel, by decide +kernel⟩
def nest : Nat → List St
  | 0 => []
  | n + 1 => [.whl oneE (nest n)]
theorem nest_ok (names procs : List Str) : ∀ n, blOk names procs n (nest n)
  | 0 => trivial
  | n + 1 => ⟨⟨oneOk names, n, rfl, nest_ok names procs n⟩, trivial⟩
def prints (n : Nat) : List St := List.replicate n (.print oneE)
theorem prints_ok (names procs : List Str) (k n : Nat) : blOk names procs k (prints n) := blOk_iff.mpr fun s hs => by
  rw [(List.mem_replicate.mp hs).2]
  exact oneOk names
def calls (n : Nat) : List St := List.replicate n (.call "p")
theorem calls_ok (names : List Str) {procs : List Str} (h : ("p" : Str) ∈ procs) (k n : Nat) : blOk names procs k (calls n) := blOk_iff.mpr fun s hs => by
  rw [(List.mem_replicate.mp hs).2]
  exact h
theorem lim_fine {x : Str} (hx : x ∈ baseNames) {ps : List Pr} {m : List St} (pv : PrsOk [x] ps) (mn : blOk [x] (ps.map (·.1)) 7 m) (z : blSz m ≤ 1000) : Pt.Fine ⟨[x], [], ps, m⟩ :=
  ⟨fun y hy => by
    rw [List.mem_singleton.mp hy]
    exact baseN x hx, List.nodup_cons.mpr ⟨(by intro h; cases h), List.nodup_nil⟩, by show 1 ≤ 1 + 0; decide, by show 1 + 0 ≤ 4; decide, pv, mn, z⟩
theorem prs0 (names : List Str) : PrsOk names [] := ⟨(fun x h => by cases h), List.nodup_nil, by decide, (fun p h => by cases h)⟩
theorem prs1 (names : List Str) : PrsOk names ps1 := ⟨(pv1 names).N, (pv1 names).nd, (pv1 names).len, fun p hp => ⟨(pv1 names).bl p hp, by
  rw [List.mem_singleton.mp hp]
  show 0 ≤ 1000
  decide⟩⟩
def psC : List Pr := [("p", calls 1)]
theorem prsC (names : List Str) : PrsOk names psC := ⟨names_dec (by decide +kernel), by decide +kernel, by decide, fun p hp => by
  rw [List.mem_singleton.mp hp]
  exact ⟨calls_ok names List.mem_cons_self 7 1, by show 1 ≤ 1000; decide⟩⟩
theorem bx_nest : BlX (bD (nest 7)) := .of (.inl (gd_dec (by decide +kernel)))
theorem bx_prints : BlX (bD (prints 119)) ∧ BlX (bD (prints 120)) := ⟨.of (.inl (gd_dec (by decide +kernel))), .of (.inl (gd_dec (by decide +kernel)))⟩
theorem bx_calls : BlX (bD (calls 8)) := .of (.inl (gd_dec (by decide +kernel)))
theorem px0 : PrX (prsD []) := PrX.of (.inl (gd_dec (by decide +kernel)))
theorem pxC : PrX (prsD psC) := PrX.of (.inl (gd_dec (by decide +kernel)))
theorem bx_deep : BlX (bD [.ite oneE [] (nest 7)]) := .of (.inl (gd_dec (by decide +kernel)))
theorem no_deep {x : Str} (hx : x ∈ baseNames) : ¬ BkP [x] [] 7 (bD [.ite oneE [] (nest 7)]) := fun z =>
  not_st (n := 7) (names := [x]) (procs := []) (fun y hy => by
    rw [List.mem_singleton.mp hy]
    exact hx) (fun y hy => by cases hy) (d := (St.ite oneE [] (nest 7)).D) (by decide +kernel) (bk_iff.mp z _ List.mem_cons_self)
theorem sm_nest (x : Str) : Pt.Small ⟨[x], [], [], nest 7⟩ := by
  constructor
  · show (pgCode (nest 7) []).length ≤ 120
    decide +kernel
  · show ((pgCode (nest 7) []).filter _).length ≤ 8
    decide +kernel
theorem sm_prints (x : Str) : Pt.Small ⟨[x], [], [], prints 119⟩ := by
  constructor
  · show (pgCode (prints 119) []).length ≤ 120
    decide +kernel
  · show ((pgCode (prints 119) []).filter _).length ≤ 8
    decide +kernel
theorem no_prints (x : Str) : ¬ Pt.Small ⟨[x], [], [], prints 120⟩ := fun z => by
  have h : (pgCode (prints 120) []).length ≤ 120 := z.sz
  exact absurd h (by decide +kernel)
theorem no_prints1 (x : Str) : ¬ Pt.Small ⟨[x], [], ps1, prints 119⟩ := fun z => by
  have h : (pgCode (prints 119) ps1).length ≤ 120 := z.sz
  exact absurd h (by decide +kernel)
theorem sm_calls (x : Str) : Pt.Small ⟨[x], [], ps1, calls 8⟩ := by
  constructor
  · show (pgCode (calls 8) ps1).length ≤ 120
    decide +kernel
  · show ((pgCode (calls 8) ps1).filter _).length ≤ 8
    decide +kernel
theorem no_calls (x : Str) : ¬ Pt.Small ⟨[x], [], psC, calls 8⟩ := fun z => by
  have h := z.calls
  revert h
  show ¬ ((pgCode (calls 8) psC).filter _).length ≤ 8
  decide +kernel
end Pg
namespace Sp1
open PySem PySem.Spec PyProof.Rows L2 Pg Sp1X
section
variable {P : Program} {w : World} {K : PySem.W.Frag} {mg : Str → Option Value} {base : Heap}
theorem gpAll_rep {H : Hp} {v : V} {d : PyData} (h : Gp K H v d) : ∀ n, GpAll K H (List.replicate n v) (List.replicate n d)
  | 0 => .nil
  | n + 1 => .cons h (gpAll_rep h n)
theorem gp_rep {H : Hp} {a : Addr} {v : V} {s : Pg.St} {n : Nat} (hS : SqT K H a (List.replicate n v)) (h : Gp K H v s.D) : Gp K H (.ref a) (bD (List.replicate n s)) := by
  show Gp K H (.ref a) (.tuple ((List.replicate n s).map St.D))
  rw [List.map_replicate]
  exact .tup hS (gpAll_rep h n)
def sp_xlim : Sp := fun vs H Q _ => ∃ x : Str, vs = [.str x] ∧ x ∈ baseNames ∧ ∀ H', Same H H' → Q (.bl true) H'
theorem ok__law_limits_hold (TP : PgF K mg) (C : PgC K mg) (U : PgI K mg) (M : VeF K U.U) (T : LxF K mg) : FnOk P w K mg base CX0 37 T.f__law_limits_hold T.fd__law_limits_hold ["_law_name"] sp_xlim := by
  refine T.D__law_limits_hold.F.ok sc_l_limits_hold (fun vs H Q E h => ?_) (fun cdv A outer s H vs Q E hr h => ?_)
  · obtain ⟨x, rfl, _⟩ := h
    rfl
  · obtain ⟨x, rfl, hx, q⟩ := h
    have nd := sc_l_limits_hold.nd
    refine ⟨_, (pss_cons (ps_asg (pe_tup (pa_cons (pe_tup (pa_cons pe_str (pa_cons pe_int (pa_cons (pe_tup pa_nil) (pa_cons pe_int pa_nil))))) (pa_cons (pe_tup pa_nil) pa_nil))) (pg_tup rfl (pgs_cons (pg_name (i := 1) nd rfl (.inl rfl)) (pgs_cons (pg_name (i := 2) nd rfl (.inl rfl)) pgs_nil))))
      (pss_cons (ps_for PassesOwn.never rfl (pi_range1 (by rfl) T.m_range (pa_cons pe_int pa_nil)) (pg_name (i := 3) nd rfl (.inl rfl))
      (pss_one (ps_set (i := 2) nd rfl (.inl rfl) (pe_tup (pa_cons (pe_tup (pa_cons pe_str (pa_cons (pv 1) (pa_cons (pv 2) pa_nil)))) pa_nil)))))
      (pss_cons (ps_if (pt_cmpR op_notN (pe_call ((ok__law_told TP C U M T).mono (by decide)) hr (by rfl) T.D__law_told.g T.D__law_told.kp T.D__law_told.b .nil pass0 (pa_cons (pe_tup (pa_cons (pv 0) pa_nil)) (pa_cons (pe_tup pa_nil) (pa_cons (pe_tup pa_nil) (pa_cons (pv 2) pa_nil))))) pe_non (nomark _))
      (pss_one (ps_ret pe_bl))
      pss_nil)
      (pss_cons (ps_if (pt_cmpR op_ne (pe_call ((ok__law_told TP C U M T).mono (by decide)) hr (by rfl) T.D__law_told.g T.D__law_told.kp T.D__law_told.b .nil pass0 (pa_cons (pe_tup (pa_cons (pv 0) pa_nil)) (pa_cons (pe_tup pa_nil) (pa_cons (pe_tup pa_nil) (pa_cons (pe_tup (pa_cons (pe_tup (pa_cons pe_str (pa_cons (pv 1) (pa_cons (pe_tup pa_nil) (pa_cons (pv 2) pa_nil))))) pa_nil)) pa_nil))))) pe_str (nomark _))
      (pss_one (ps_ret pe_bl))
      pss_nil)
      (pss_cons (ps_set (i := 4) nd rfl (.inl rfl) (pe_op op_repT (pe_tup (pa_cons (pe_tup (pa_cons pe_str (pa_cons (pv 1) pa_nil))) pa_nil)) pe_int))
      (pss_cons (ps_if (PW.pt (pw_or (pt_cmpR op_notN (pe_call ((ok__law_told TP C U M T).mono (by decide)) hr (by rfl) T.D__law_told.g T.D__law_told.kp T.D__law_told.b .nil pass0 (pa_cons (pe_tup (pa_cons (pv 0) pa_nil)) (pa_cons (pe_tup pa_nil) (pa_cons (pe_tup pa_nil) (pa_cons (pv 4) pa_nil))))) pe_non (nomark _)) (pw_or1 (pt_cmpR op_ne (pe_call ((ok__law_told TP C U M T).mono (by decide)) hr (by rfl) T.D__law_told.g T.D__law_told.kp T.D__law_told.b .nil pass0 (pa_cons (pe_tup (pa_cons (pv 0) pa_nil)) (pa_cons (pe_tup pa_nil) (pa_cons (pe_tup pa_nil) (pa_cons (pe_op op_catU (pv 4) (pe_slice (r := rSlU K) sl_tupU (pv 4) po_none (po_some pe_int))) pa_nil))))) pe_str (nomark _)))))
      (pss_one (ps_ret pe_bl))
      pss_nil)
      (pss_cons (ps_if (pt_cmpR op_ne (pe_call ((ok__law_told TP C U M T).mono (by decide)) hr (by rfl) T.D__law_told.g T.D__law_told.kp T.D__law_told.b .nil pass0 (pa_cons (pe_tup (pa_cons (pv 0) pa_nil)) (pa_cons (pe_tup pa_nil) (pa_cons (pe_tup (pa_cons (pe_tup (pa_cons pe_str (pa_cons (pe_tup pa_nil) pa_nil))) pa_nil)) (pa_cons (pv 4) pa_nil))))) pe_str (nomark _))
      (pss_one (ps_ret pe_bl))
      pss_nil)
      (pss_cons (ps_set (i := 5) nd rfl (.inl rfl) (pe_op op_repT (pe_tup (pa_cons (pe_tup (pa_cons pe_str (pa_cons pe_str pa_nil))) pa_nil)) pe_int))
      (pss_cons (ps_if (pt_cmpR op_notN (pe_call ((ok__law_told TP C U M T).mono (by decide)) hr (by rfl) T.D__law_told.g T.D__law_told.kp T.D__law_told.b .nil pass0 (pa_cons (pe_tup (pa_cons (pv 0) pa_nil)) (pa_cons (pe_tup pa_nil) (pa_cons (pe_tup (pa_cons (pe_tup (pa_cons pe_str (pa_cons (pe_tup pa_nil) pa_nil))) pa_nil)) (pa_cons (pv 5) pa_nil))))) pe_non (nomark _))
      (pss_one (ps_ret pe_bl))
      pss_nil)
      (pss_one (ps_ret (pe_cmpR op_eq (pe_call ((ok__law_told TP C U M T).mono (by decide)) hr (by rfl) T.D__law_told.g T.D__law_told.kp T.D__law_told.b .nil pass0 (pa_cons (pe_tup (pa_cons (pv 0) pa_nil)) (pa_cons (pe_tup pa_nil) (pa_cons (pe_tup (pa_cons (pe_tup (pa_cons pe_str (pa_cons (pe_slice (r := rSlU K) sl_tupU (pv 5) po_none (po_some pe_int)) pa_nil))) pa_nil)) (pa_cons (pv 5) pa_nil))))) pe_str (nomark _))))))))))))), ?_⟩
    have n0 : NmX (.tuple []) := nmX_dec (gd_dec (by decide +kernel)) (by decide +kernel)
    have nx : NmX (.tuple (([x] : List Str).map sD)) := NmX.names (fun y hy => by rw [List.mem_singleton.mp hy]; exact baseN x hx) (by show 1 ≤ 200; decide)
    have eqs : ∀ x : Str, (!decide (V.str x = V.str x)) = false := fun x => by
      rw [decide_eq_true rfl]
      rfl
    refine ⟨small (by show 0 ≤ 5000; decide), fun o1 m1 => ?_⟩
    have r1 := same_new (o := HO.tup []) m1
    have k1 : (upd H o1 (HO.tup [])) o1 = some (HO.tup []) := upd_same
    generalize upd H o1 (HO.tup []) = O1 at r1 k1 ⊢
    refine ⟨small (by show 4 ≤ 5000; decide), fun o2 m2 => ?_⟩
    have r2 := same_new (o := HO.tup [.str "sum", .int 1, .ref o1, .int 1]) m2
    have k2 : (upd O1 o2 (HO.tup [.str "sum", .int 1, .ref o1, .int 1])) o2 = some (HO.tup [.str "sum", .int 1, .ref o1, .int 1]) := upd_same
    generalize upd O1 o2 (HO.tup [.str "sum", .int 1, .ref o1, .int 1]) = O2 at r2 k2 ⊢
    refine ⟨small (by show 0 ≤ 5000; decide), fun o3 m3 => ?_⟩
    have r3 := same_new (o := HO.tup []) m3
    have k3 : (upd O2 o3 (HO.tup [])) o3 = some (HO.tup []) := upd_same
    generalize upd O2 o3 (HO.tup []) = O3 at r3 k3 ⊢
    refine ⟨small (by show 2 ≤ 5000; decide), fun o4 m4 => ?_⟩
    have r4 := same_new (o := HO.tup [.ref o2, .ref o3]) m4
    have k4 : (upd O3 o4 (HO.tup [.ref o2, .ref o3])) o4 = some (HO.tup [.ref o2, .ref o3]) := upd_same
    generalize upd O3 o4 (HO.tup [.ref o2, .ref o3]) = O4 at r4 k4 ⊢
    refine ⟨o4, _, rfl, SqT.of k4, rfl, _, _, rfl, _, _, rfl, rfl, ?_⟩
    have g1 : Gp K O4 (.ref o2) oneE.D := .tup (SqT.of ((r3.trans r4) _ _ k2)) (.cons (.str _) (.cons (.int _) (.cons (.tup (SqT.of ((r2.trans (r3.trans r4)) _ _ k1)) .nil) (.cons (.int _) .nil))))
    have g0 : Gp K O4 (.ref o3) (bD (nest 0)) := .tup (SqT.of (r4 _ _ k3)) .nil
    have sH := (r1.trans r2).trans (r3.trans r4)
    refine ⟨7, rfl, by decide, by decide, ?_⟩
    refine for_range (lo := 0) (n := (7 : Int).toNat) (fun i σ H' => Same O4 H' ∧ ∃ (b : Addr) (y : Option V), Gp K H' (.ref b) (bD (nest i)) ∧ σ = [some (.str x), some (.ref o2), some (.ref b), y, none, none]) ⟨Same.refl _, _, _, g0, rfl⟩ ?_ ?_
    · rintro i σ A0 hi ⟨s0, b, y, hb, rfl⟩
      refine ⟨_, rfl, _, rfl, small (by show 3 ≤ 5000; decide), fun p1 m1 => ?_⟩
      have t1 := same_new (o := HO.tup [.str "while", .ref o2, .ref b]) m1
      have h1 : (upd A0 p1 (HO.tup [.str "while", .ref o2, .ref b])) p1 = some (HO.tup [.str "while", .ref o2, .ref b]) := upd_same
      generalize upd A0 p1 (HO.tup [.str "while", .ref o2, .ref b]) = A1 at t1 h1 ⊢
      refine ⟨small (by show 1 ≤ 5000; decide), fun p2 m2 => ?_⟩
      have t2 := same_new (o := HO.tup [.ref p1]) m2
      have h2 : (upd A1 p2 (HO.tup [.ref p1])) p2 = some (HO.tup [.ref p1]) := upd_same
      generalize upd A1 p2 (HO.tup [.ref p1]) = A2 at t2 h2 ⊢
      have s02 := t1.trans t2
      refine ⟨s0.trans s02, p2, _, ?_, rfl⟩
      have e : bD (nest (i + 1)) = .tuple [.tuple [.str "while", oneE.D, bD (nest i)]] := by
        show PyData.tuple [(St.whl oneE (nest i)).D] = _
        simp only [St.D]
        rw [blD_map]
        rfl
      rw [e]
      exact .tup (SqT.of h2) (.cons (.tup (SqT.of (t2 _ _ h1)) (.cons (.str _) (.cons (g1.same (s0.trans s02)) (.cons (hb.same s02) .nil)))) .nil)
    rintro σ A0 ⟨s0, b, y, hb, rfl⟩
    -- BODY
    have vo : VarsOk [x] [] := ⟨(fun y hy => by
      rw [List.mem_singleton.mp hy]
      exact baseN x hx), List.nodup_cons.mpr ⟨(by intro h; cases h), List.nodup_nil⟩, by show 1 ≤ 1 + 0; decide, by show 1 + 0 ≤ 4; decide⟩
    have hb : Gp K A0 (.ref b) (bD (nest 7)) := hb
    have g1 := g1.same s0
    have sA := sH.trans s0
    clear s0 g0 k1 k2 k3 k4 r1 r2 r3 r4 m1 m2 m3 m4
    refine ⟨_, rfl, small (by show 1 ≤ 5000; decide), fun ap1 an1 => ?_⟩
    have at1 := same_new (o := HO.tup [.str x]) an1
    have ah1 : (upd A0 ap1 (HO.tup [.str x])) ap1 = some (HO.tup [.str x]) := upd_same
    generalize upd A0 ap1 (HO.tup [.str x]) = aA1 at at1 ah1 ⊢
    refine ⟨small (by show 0 ≤ 5000; decide), fun ap2 an2 => ?_⟩
    have at2 := same_new (o := HO.tup []) an2
    have ah2 : (upd aA1 ap2 (HO.tup [])) ap2 = some (HO.tup []) := upd_same
    generalize upd aA1 ap2 (HO.tup []) = aA2 at at2 ah2 ⊢
    refine ⟨small (by show 0 ≤ 5000; decide), fun ap3 an3 => ?_⟩
    have at3 := same_new (o := HO.tup []) an3
    have ah3 : (upd aA2 ap3 (HO.tup [])) ap3 = some (HO.tup []) := upd_same
    generalize upd aA2 ap3 (HO.tup []) = aA3 at at3 ah3 ⊢
    have au3 := Same.refl aA3
    have au2 := at3.trans au3
    have au1 := at2.trans au2
    have au0 := at1.trans au1
    have ag0 : Gp K aA3 (.ref ap1) (.tuple (([x] : List Str).map sD)) := .tup (SqT.of (au1 _ _ ah1)) (.cons (.str _) .nil)
    have ag1 : Gp K aA3 (.ref ap2) (.tuple []) := .tup (SqT.of (au2 _ _ ah2)) .nil
    have ag2 : Gp K aA3 (.ref ap3) (prsD []) := .tup (SqT.of (au3 _ _ ah3)) .nil
    have ag3 : Gp K aA3 (.ref b) (bD (nest 7)) := (hb.same au0)
    refine ⟨_, rfl, .ref ap1, .ref ap2, .ref ap3, .ref b, _, _, _, _, rfl, ag0, ag1, ag2, ag3, nx, n0, init_done (p := ⟨[x], [], [], nest 7⟩) (lim_fine hx (prs0 _) (nest_ok _ _ 7) (show blSz (nest 7) ≤ 1000 from by decide +kernel)) px0 bx_nest (fun q h => by cases h) (show blSz (nest 7) ≤ 600 from by decide +kernel) ⟨(fun _ aZ as => ?_), fun ns => absurd (sm_nest x) ns⟩⟩
    refine ⟨rfl, _, rfl, ?_⟩
    rw [decide_eq_true rfl]
    refine iteF ?_
    have eD : PyData.tuple [.tuple [.str "if", oneE.D, .tuple [], bD (nest 7)]] = bD [.ite oneE [] (nest 7)] := by
      show _ = PyData.tuple [(St.ite oneE [] (nest 7)).D]
      simp only [St.D, blD]
      rw [blD_map]
      rfl
    have pv0 : PrsV ([x] ++ []) [] := ⟨(prs0 [x]).N, (prs0 [x]).nd, (prs0 [x]).len, (fun p h => by cases h)⟩
    have sB := sA.trans (au0.trans as)
    have g2 := g1.same (au0.trans as)
    have hb2 := hb.same (au0.trans as)
    refine ⟨_, rfl, small (by show 1 ≤ 5000; decide), fun cp1 cn1 => ?_⟩
    have ct1 := same_new (o := HO.tup [.str x]) cn1
    have ch1 : (upd aZ cp1 (HO.tup [.str x])) cp1 = some (HO.tup [.str x]) := upd_same
    generalize upd aZ cp1 (HO.tup [.str x]) = cA1 at ct1 ch1 ⊢
    refine ⟨small (by show 0 ≤ 5000; decide), fun cp2 cn2 => ?_⟩
    have ct2 := same_new (o := HO.tup []) cn2
    have ch2 : (upd cA1 cp2 (HO.tup [])) cp2 = some (HO.tup []) := upd_same
    generalize upd cA1 cp2 (HO.tup []) = cA2 at ct2 ch2 ⊢
    refine ⟨small (by show 0 ≤ 5000; decide), fun cp3 cn3 => ?_⟩
    have ct3 := same_new (o := HO.tup []) cn3
    have ch3 : (upd cA2 cp3 (HO.tup [])) cp3 = some (HO.tup []) := upd_same
    generalize upd cA2 cp3 (HO.tup []) = cA3 at ct3 ch3 ⊢
    refine ⟨_, rfl, small (by show 0 ≤ 5000; decide), fun cp4 cn4 => ?_⟩
    have ct4 := same_new (o := HO.tup []) cn4
    have ch4 : (upd cA3 cp4 (HO.tup [])) cp4 = some (HO.tup []) := upd_same
    generalize upd cA3 cp4 (HO.tup []) = cA4 at ct4 ch4 ⊢
    refine ⟨_, rfl, small (by show 4 ≤ 5000; decide), fun cp5 cn5 => ?_⟩
    have ct5 := same_new (o := HO.tup [.str "if", .ref o2, .ref cp4, .ref b]) cn5
    have ch5 : (upd cA4 cp5 (HO.tup [.str "if", .ref o2, .ref cp4, .ref b])) cp5 = some (HO.tup [.str "if", .ref o2, .ref cp4, .ref b]) := upd_same
    generalize upd cA4 cp5 (HO.tup [.str "if", .ref o2, .ref cp4, .ref b]) = cA5 at ct5 ch5 ⊢
    refine ⟨small (by show 1 ≤ 5000; decide), fun cp6 cn6 => ?_⟩
    have ct6 := same_new (o := HO.tup [.ref cp5]) cn6
    have ch6 : (upd cA5 cp6 (HO.tup [.ref cp5])) cp6 = some (HO.tup [.ref cp5]) := upd_same
    generalize upd cA5 cp6 (HO.tup [.ref cp5]) = cA6 at ct6 ch6 ⊢
    have cu6 := Same.refl cA6
    have cu5 := ct6.trans cu6
    have cu4 := ct5.trans cu5
    have cu3 := ct4.trans cu4
    have cu2 := ct3.trans cu3
    have cu1 := ct2.trans cu2
    have cu0 := ct1.trans cu1
    have cg0 : Gp K cA6 (.ref cp1) (.tuple (([x] : List Str).map sD)) := .tup (SqT.of (cu1 _ _ ch1)) (.cons (.str _) .nil)
    have cg1 : Gp K cA6 (.ref cp2) (.tuple []) := .tup (SqT.of (cu2 _ _ ch2)) .nil
    have cg2 : Gp K cA6 (.ref cp3) (prsD []) := .tup (SqT.of (cu3 _ _ ch3)) .nil
    have cg3 : Gp K cA6 (.ref cp6) (.tuple [.tuple [.str "if", oneE.D, .tuple [], bD (nest 7)]]) := .tup (SqT.of (cu6 _ _ ch6)) (.cons (.tup (SqT.of (cu5 _ _ ch5)) (.cons (.str _) (.cons ((g2.same cu0)) (.cons (.tup (SqT.of (cu4 _ _ ch4)) .nil) (.cons ((hb2.same cu0)) .nil))))) .nil)
    rw [eD] at cg3
    refine ⟨.ref cp1, .ref cp2, .ref cp3, .ref cp6, _, _, _, _, rfl, cg0, cg1, cg2, cg3, nx, n0, init_main (gs := [x]) (vs := []) (ps := []) vo pv0 px0 bx_deep (no_deep hx) (fun cZ cs => ?_)⟩
    refine ⟨rfl, _, rfl, ?_⟩
    rw [eqs]
    refine iteF ?_
    have sC := sB.trans (cu0.trans cs)
    have g3 := g2.same (cu0.trans cs)
    refine ⟨_, rfl, small (by show 2 ≤ 5000; decide), fun e1 m1 => ?_⟩
    have t1 := same_new (o := HO.tup [.str "print", .ref o2]) m1
    have h1 : (upd cZ e1 (HO.tup [.str "print", .ref o2])) e1 = some (HO.tup [.str "print", .ref o2]) := upd_same
    generalize upd cZ e1 (HO.tup [.str "print", .ref o2]) = E1 at t1 h1 ⊢
    refine ⟨small (by show 1 ≤ 5000; decide), fun e2 m2 => ?_⟩
    have t2 := same_new (o := HO.tup [.ref e1]) m2
    have h2 : (upd E1 e2 (HO.tup [.ref e1])) e2 = some (HO.tup [.ref e1]) := upd_same
    generalize upd E1 e2 (HO.tup [.ref e1]) = E2 at t2 h2 ⊢
    refine ⟨e2, 119, [.ref e1], rfl, rfl, SqT.of h2, (fun z => by cases z), by decide, by decide, by show 1 ≤ 1000; decide, fun fl fm => ?_⟩
    generalize hX : upd E2 fl _ = E3
    have t3 : Same E2 E3 := hX ▸ same_new fm
    have h3 : E3 fl = some (.tup (List.replicate 119 (.ref e1))) := by
      rw [← hX, upd_same, List.flatten_replicate_singleton]
      rfl
    clear hX
    have gp : Gp K E3 (.ref e1) (St.print oneE).D := by
      simp only [St.D]
      exact .tup (SqT.of ((t2.trans t3) _ _ h1)) (.cons (.str _) (.cons (g3.same ((t1.trans t2).trans t3)) .nil))
    have sE := sC.trans ((t1.trans t2).trans t3)
    have g4 := g3.same ((t1.trans t2).trans t3)
    have gf : Gp K E3 (.ref fl) (bD (prints 119)) := gp_rep (SqT.of h3) gp
    clear cg0 cg1 cg2 cg3 ag0 ag1 ag2 ag3
    refine ⟨_, rfl, small (by show 1 ≤ 5000; decide), fun dp1 dn1 => ?_⟩
    have dt1 := same_new (o := HO.tup [.str x]) dn1
    have dh1 : (upd E3 dp1 (HO.tup [.str x])) dp1 = some (HO.tup [.str x]) := upd_same
    generalize upd E3 dp1 (HO.tup [.str x]) = dA1 at dt1 dh1 ⊢
    refine ⟨small (by show 0 ≤ 5000; decide), fun dp2 dn2 => ?_⟩
    have dt2 := same_new (o := HO.tup []) dn2
    have dh2 : (upd dA1 dp2 (HO.tup [])) dp2 = some (HO.tup []) := upd_same
    generalize upd dA1 dp2 (HO.tup []) = dA2 at dt2 dh2 ⊢
    refine ⟨small (by show 0 ≤ 5000; decide), fun dp3 dn3 => ?_⟩
    have dt3 := same_new (o := HO.tup []) dn3
    have dh3 : (upd dA2 dp3 (HO.tup [])) dp3 = some (HO.tup []) := upd_same
    generalize upd dA2 dp3 (HO.tup []) = dA3 at dt3 dh3 ⊢
    have du3 := Same.refl dA3
    have du2 := dt3.trans du3
    have du1 := dt2.trans du2
    have du0 := dt1.trans du1
    have dg0 : Gp K dA3 (.ref dp1) (.tuple (([x] : List Str).map sD)) := .tup (SqT.of (du1 _ _ dh1)) (.cons (.str _) .nil)
    have dg1 : Gp K dA3 (.ref dp2) (.tuple []) := .tup (SqT.of (du2 _ _ dh2)) .nil
    have dg2 : Gp K dA3 (.ref dp3) (prsD []) := .tup (SqT.of (du3 _ _ dh3)) .nil
    have dg3 : Gp K dA3 (.ref fl) (bD (prints 119)) := (gf.same du0)
    refine ⟨_, rfl, .ref dp1, .ref dp2, .ref dp3, .ref fl, _, _, _, _, rfl, dg0, dg1, dg2, dg3, nx, n0, init_done (p := ⟨[x], [], [], prints 119⟩) (lim_fine hx (prs0 _) (prints_ok _ _ 7 119) (show blSz (prints 119) ≤ 1000 from by decide +kernel)) px0 bx_prints.1 (fun q h => by cases h) (show blSz (prints 119) ≤ 600 from by decide +kernel) ⟨(fun _ dZ ds => ?_), fun ns => absurd (sm_prints x) ns⟩⟩
    refine ⟨rfl, _, rfl, ?_⟩
    rw [decide_eq_true rfl]
    refine iteF ?_
    have sF := sE.trans (du0.trans ds)
    have e3F := du0.trans ds
    refine ⟨_, rfl, small (by show 1 ≤ 5000; decide), fun f1 m4 => ?_⟩
    have t4 := same_new (o := HO.tup [.str x]) m4
    have h4 : (upd dZ f1 (HO.tup [.str x])) f1 = some (HO.tup [.str x]) := upd_same
    generalize upd dZ f1 (HO.tup [.str x]) = F1 at t4 h4 ⊢
    refine ⟨small (by show 0 ≤ 5000; decide), fun f2 m5 => ?_⟩
    have t5 := same_new (o := HO.tup []) m5
    have h5 : (upd F1 f2 (HO.tup [])) f2 = some (HO.tup []) := upd_same
    generalize upd F1 f2 (HO.tup []) = F2 at t5 h5 ⊢
    refine ⟨small (by show 0 ≤ 5000; decide), fun f3 m6 => ?_⟩
    have t6 := same_new (o := HO.tup []) m6
    have h6 : (upd F2 f3 (HO.tup [])) f3 = some (HO.tup []) := upd_same
    generalize upd F2 f3 (HO.tup []) = F3 at t6 h6 ⊢
    have e3F3 := e3F.trans ((t4.trans t5).trans t6)
    refine ⟨_, rfl, _, rfl, _, rfl, fl, _, rfl, SqT.of (e3F3 _ _ h3), fun q1 F4 t7 h7 => ?_⟩
    rw [show ((1 : Int)) = ((1 : Nat) : Int) from rfl, cut_to, List.take_replicate] at h7
    refine ⟨fl, q1, _, _, rfl, rfl, Same.sqt t7 (SqT.of (e3F3 _ _ h3)), h7, by rw [List.length_replicate, List.length_replicate, sizeLine_eq]; decide, fun q2 F5 t8 h8 => ?_⟩
    rw [List.replicate_append_replicate] at h8
    have e3F5 := (e3F3.trans t7).trans t8
    have gf2 : Gp K F5 (.ref q2) (bD (prints 120)) := gp_rep h8 (gp.same e3F5)
    refine ⟨.ref f1, .ref f2, .ref f3, .ref q2, .tuple (([x] : List Str).map sD), .tuple [], prsD [], _, rfl, .tup (SqT.of ((t5.trans (t6.trans (t7.trans t8))) _ _ h4)) (.cons (.str _) .nil), .tup (SqT.of ((t6.trans (t7.trans t8)) _ _ h5)) .nil, .tup (SqT.of ((t7.trans t8) _ _ h6)) .nil, gf2, nx, n0,
      init_done (p := ⟨[x], [], [], prints 120⟩) (lim_fine hx (prs0 _) (prints_ok _ _ 7 120) (show blSz (prints 120) ≤ 1000 from by decide +kernel)) px0 bx_prints.2 (fun q h => by cases h) (show blSz (prints 120) ≤ 600 from by decide +kernel) ⟨fun sm => absurd sm (no_prints x), fun _ F6 t9 => ?_⟩⟩
    refine ⟨rfl, _, rfl, ?_⟩
    rw [eqs]
    refine iteF ?_
    have sG := sE.trans (e3F5.trans t9)
    have e3F6 := e3F5.trans t9
    have gf3 := gf.same e3F6
    clear dg0 dg1 dg2 dg3 gf2

    refine ⟨_, rfl, small (by show 1 ≤ 5000; decide), fun up1 un1 => ?_⟩
    have ut1 := same_new (o := HO.tup [.str x]) un1
    have uh1 : (upd F6 up1 (HO.tup [.str x])) up1 = some (HO.tup [.str x]) := upd_same
    generalize upd F6 up1 (HO.tup [.str x]) = uA1 at ut1 uh1 ⊢
    refine ⟨small (by show 0 ≤ 5000; decide), fun up2 un2 => ?_⟩
    have ut2 := same_new (o := HO.tup []) un2
    have uh2 : (upd uA1 up2 (HO.tup [])) up2 = some (HO.tup []) := upd_same
    generalize upd uA1 up2 (HO.tup []) = uA2 at ut2 uh2 ⊢
    refine ⟨small (by show 0 ≤ 5000; decide), fun up3 un3 => ?_⟩
    have ut3 := same_new (o := HO.tup []) un3
    have uh3 : (upd uA2 up3 (HO.tup [])) up3 = some (HO.tup []) := upd_same
    generalize upd uA2 up3 (HO.tup []) = uA3 at ut3 uh3 ⊢
    refine ⟨small (by show 2 ≤ 5000; decide), fun up4 un4 => ?_⟩
    have ut4 := same_new (o := HO.tup [.str "p", .ref up3]) un4
    have uh4 : (upd uA3 up4 (HO.tup [.str "p", .ref up3])) up4 = some (HO.tup [.str "p", .ref up3]) := upd_same
    generalize upd uA3 up4 (HO.tup [.str "p", .ref up3]) = uA4 at ut4 uh4 ⊢
    refine ⟨small (by show 1 ≤ 5000; decide), fun up5 un5 => ?_⟩
    have ut5 := same_new (o := HO.tup [.ref up4]) un5
    have uh5 : (upd uA4 up5 (HO.tup [.ref up4])) up5 = some (HO.tup [.ref up4]) := upd_same
    generalize upd uA4 up5 (HO.tup [.ref up4]) = uA5 at ut5 uh5 ⊢
    have uu5 := Same.refl uA5
    have uu4 := ut5.trans uu5
    have uu3 := ut4.trans uu4
    have uu2 := ut3.trans uu3
    have uu1 := ut2.trans uu2
    have uu0 := ut1.trans uu1
    have ug0 : Gp K uA5 (.ref up1) (.tuple (([x] : List Str).map sD)) := .tup (SqT.of (uu1 _ _ uh1)) (.cons (.str _) .nil)
    have ug1 : Gp K uA5 (.ref up2) (.tuple []) := .tup (SqT.of (uu2 _ _ uh2)) .nil
    have ug2 : Gp K uA5 (.ref up5) (prsD ps1) := .tup (SqT.of (uu5 _ _ uh5)) (.cons (.tup (SqT.of (uu4 _ _ uh4)) (.cons (.str _) (.cons (.tup (SqT.of (uu3 _ _ uh3)) .nil) .nil))) .nil)
    have ug3 : Gp K uA5 (.ref fl) (bD (prints 119)) := (gf3.same uu0)
    refine ⟨_, rfl, .ref up1, .ref up2, .ref up5, .ref fl, _, _, _, _, rfl, ug0, ug1, ug2, ug3, nx, n0, init_done (p := ⟨[x], [], ps1, prints 119⟩) (lim_fine hx (prs1 _) (prints_ok _ _ 7 119) (show blSz (prints 119) ≤ 1000 from by decide +kernel)) px1 bx_prints.1 (fun q h => by rw [List.mem_singleton.mp h]; show 0 ≤ 600; decide) (show blSz (prints 119) ≤ 600 from by decide +kernel) ⟨fun sm => absurd sm (no_prints1 x), (fun _ uZ us => ?_)⟩⟩
    refine ⟨rfl, _, rfl, ?_⟩
    rw [eqs]
    refine iteF ?_
    have sI := sG.trans (uu0.trans us)
    clear ug0 ug1 ug2 ug3 gf gf3 h3 h1 h2 g4 g3 hb hb2 gp
    refine ⟨small (by show 2 ≤ 5000; decide), fun e3 m7 => ?_⟩
    have t1 := same_new (o := HO.tup [.str "call", .str "p"]) m7
    have h1 : (upd uZ e3 (HO.tup [.str "call", .str "p"])) e3 = some (HO.tup [.str "call", .str "p"]) := upd_same
    generalize upd uZ e3 (HO.tup [.str "call", .str "p"]) = L1 at t1 h1 ⊢
    refine ⟨small (by show 1 ≤ 5000; decide), fun e4 m8 => ?_⟩
    have t2 := same_new (o := HO.tup [.ref e3]) m8
    have h2 : (upd L1 e4 (HO.tup [.ref e3])) e4 = some (HO.tup [.ref e3]) := upd_same
    generalize upd L1 e4 (HO.tup [.ref e3]) = L2' at t2 h2 ⊢
    refine ⟨e4, 8, [.ref e3], rfl, rfl, SqT.of h2, (fun z => by cases z), by decide, by decide, by show 1 ≤ 1000; decide, fun cl cm => ?_⟩
    generalize hX : upd L2' cl _ = L3
    have t3 : Same L2' L3 := hX ▸ same_new cm
    have h3 : L3 cl = some (.tup (List.replicate 8 (.ref e3))) := by
      rw [← hX, upd_same, List.flatten_replicate_singleton]
      rfl
    clear hX
    have gp : Gp K L3 (.ref e3) (Pg.St.call "p").D := by
      simp only [St.D]
      exact .tup (SqT.of ((t2.trans t3) _ _ h1)) (.cons (.str _) (.cons (.str _) .nil))
    have gc : Gp K L3 (.ref cl) (bD (calls 8)) := gp_rep (SqT.of h3) gp
    have sJ := sI.trans ((t1.trans t2).trans t3)
    refine ⟨_, rfl, small (by show 1 ≤ 5000; decide), fun vp1 vn1 => ?_⟩
    have vt1 := same_new (o := HO.tup [.str x]) vn1
    have vh1 : (upd L3 vp1 (HO.tup [.str x])) vp1 = some (HO.tup [.str x]) := upd_same
    generalize upd L3 vp1 (HO.tup [.str x]) = vA1 at vt1 vh1 ⊢
    refine ⟨small (by show 0 ≤ 5000; decide), fun vp2 vn2 => ?_⟩
    have vt2 := same_new (o := HO.tup []) vn2
    have vh2 : (upd vA1 vp2 (HO.tup [])) vp2 = some (HO.tup []) := upd_same
    generalize upd vA1 vp2 (HO.tup []) = vA2 at vt2 vh2 ⊢
    refine ⟨small (by show 0 ≤ 5000; decide), fun vp3 vn3 => ?_⟩
    have vt3 := same_new (o := HO.tup []) vn3
    have vh3 : (upd vA2 vp3 (HO.tup [])) vp3 = some (HO.tup []) := upd_same
    generalize upd vA2 vp3 (HO.tup []) = vA3 at vt3 vh3 ⊢
    refine ⟨small (by show 2 ≤ 5000; decide), fun vp4 vn4 => ?_⟩
    have vt4 := same_new (o := HO.tup [.str "p", .ref vp3]) vn4
    have vh4 : (upd vA3 vp4 (HO.tup [.str "p", .ref vp3])) vp4 = some (HO.tup [.str "p", .ref vp3]) := upd_same
    generalize upd vA3 vp4 (HO.tup [.str "p", .ref vp3]) = vA4 at vt4 vh4 ⊢
    refine ⟨small (by show 1 ≤ 5000; decide), fun vp5 vn5 => ?_⟩
    have vt5 := same_new (o := HO.tup [.ref vp4]) vn5
    have vh5 : (upd vA4 vp5 (HO.tup [.ref vp4])) vp5 = some (HO.tup [.ref vp4]) := upd_same
    generalize upd vA4 vp5 (HO.tup [.ref vp4]) = vA5 at vt5 vh5 ⊢
    have vu5 := Same.refl vA5
    have vu4 := vt5.trans vu5
    have vu3 := vt4.trans vu4
    have vu2 := vt3.trans vu3
    have vu1 := vt2.trans vu2
    have vu0 := vt1.trans vu1
    have vg0 : Gp K vA5 (.ref vp1) (.tuple (([x] : List Str).map sD)) := .tup (SqT.of (vu1 _ _ vh1)) (.cons (.str _) .nil)
    have vg1 : Gp K vA5 (.ref vp2) (.tuple []) := .tup (SqT.of (vu2 _ _ vh2)) .nil
    have vg2 : Gp K vA5 (.ref vp5) (prsD ps1) := .tup (SqT.of (vu5 _ _ vh5)) (.cons (.tup (SqT.of (vu4 _ _ vh4)) (.cons (.str _) (.cons (.tup (SqT.of (vu3 _ _ vh3)) .nil) .nil))) .nil)
    have vg3 : Gp K vA5 (.ref cl) (bD (calls 8)) := (gc.same vu0)
    refine ⟨_, rfl, .ref vp1, .ref vp2, .ref vp5, .ref cl, _, _, _, _, rfl, vg0, vg1, vg2, vg3, nx, n0, init_done (p := ⟨[x], [], ps1, calls 8⟩) (lim_fine hx (prs1 _) (calls_ok _ List.mem_cons_self 7 8) (show blSz (calls 8) ≤ 1000 from by decide +kernel)) px1 bx_calls (fun q h => by rw [List.mem_singleton.mp h]; show 0 ≤ 600; decide) (show blSz (calls 8) ≤ 600 from by decide +kernel) ⟨(fun _ vZ vs => ?_), fun ns => absurd (sm_calls x) ns⟩⟩
    refine ⟨rfl, _, rfl, ?_⟩
    rw [decide_eq_true rfl]
    refine iteF ?_
    have sK := sJ.trans (vu0.trans vs)
    have e3K := vu0.trans vs
    refine ⟨_, rfl, small (by show 1 ≤ 5000; decide), fun f1 m4 => ?_⟩
    have t4 := same_new (o := HO.tup [.str x]) m4
    have h4 : (upd vZ f1 (HO.tup [.str x])) f1 = some (HO.tup [.str x]) := upd_same
    generalize upd vZ f1 (HO.tup [.str x]) = F1 at t4 h4 ⊢
    refine ⟨small (by show 0 ≤ 5000; decide), fun f2 m5 => ?_⟩
    have t5 := same_new (o := HO.tup []) m5
    have h5 : (upd F1 f2 (HO.tup [])) f2 = some (HO.tup []) := upd_same
    generalize upd F1 f2 (HO.tup []) = F2 at t5 h5 ⊢
    have e3F3 := e3K.trans (t4.trans t5)
    refine ⟨_, rfl, _, rfl, cl, _, rfl, SqT.of (e3F3 _ _ h3), fun q1 F4 t7 h7 => ?_⟩
    rw [show ((1 : Int)) = ((1 : Nat) : Int) from rfl, cut_to, List.take_replicate] at h7
    refine ⟨small (by show 2 ≤ 5000; decide), fun f3 m6 => ?_⟩
    have t6 := same_new (o := HO.tup [.str "p", .ref q1]) m6
    have h6 : (upd F4 f3 (HO.tup [.str "p", .ref q1])) f3 = some (HO.tup [.str "p", .ref q1]) := upd_same
    generalize upd F4 f3 (HO.tup [.str "p", .ref q1]) = F5 at t6 h6 ⊢
    refine ⟨small (by show 1 ≤ 5000; decide), fun f4 m9 => ?_⟩
    have t8 := same_new (o := HO.tup [.ref f3]) m9
    have h8 : (upd F5 f4 (HO.tup [.ref f3])) f4 = some (HO.tup [.ref f3]) := upd_same
    generalize upd F5 f4 (HO.tup [.ref f3]) = F6 at t8 h8 ⊢
    have e3F6 := (e3F3.trans t7).trans (t6.trans t8)
    have gq : Gp K F6 (.ref q1) (bD (calls 1)) := gp_rep (Same.sqt (t6.trans t8) h7) (gp.same e3F6)
    refine ⟨_, rfl, .ref f1, .ref f2, .ref f4, .ref cl, .tuple (([x] : List Str).map sD), .tuple [], prsD psC, bD (calls 8), rfl, .tup (SqT.of ((t5.trans (t7.trans (t6.trans t8))) _ _ h4)) (.cons (.str _) .nil), .tup (SqT.of ((t7.trans (t6.trans t8)) _ _ h5)) .nil, .tup (SqT.of h8) (.cons (.tup (SqT.of (t8 _ _ h6)) (.cons (.str _) (.cons gq .nil))) .nil), gc.same e3F6, nx, n0,
      init_done (p := ⟨[x], [], psC, calls 8⟩) (lim_fine hx (prsC _) (calls_ok _ List.mem_cons_self 7 8) (show blSz (calls 8) ≤ 1000 from by decide +kernel)) pxC bx_calls (fun q h => by rw [List.mem_singleton.mp h]; show 1 ≤ 600; decide) (show blSz (calls 8) ≤ 600 from by decide +kernel) ⟨fun sm => absurd sm (no_calls x), fun _ F7 t9 => ?_⟩⟩
    refine ⟨rfl, ?_⟩
    rw [decide_eq_true rfl]
    exact q _ (sJ.trans (e3F6.trans t9))
end
end Sp1

set_option Elab.async false
set_option linter.all false
set_option maxRecDepth 100000
set_option maxHeartbeats 1000000
namespace Sp1
open PySem PySem.Spec PyProof.Rows L2 Pg Sp1X
abbrev s_law : Stmt := top 64
abbrev N_law : List Str := ["_law_script", "_law_k", "_law_stream_here", "_law_parts_here"]
theorem sc_law : FnScope N_law ["_law_script"] (defScope s_law) := ⟨rfl, rfl, rfl, by decide +kernel, rfl, by decide +kernel, by decide +kernel⟩
section
variable {P : Program} {w : World} {K : PySem.W.Frag} {mg : Str → Option Value} {base : Heap}
def sp_law (K : PySem.W.Frag) : Sp := fun vs H Q _ => ∃ (a : Addr) (ns : List Int), vs = [.ref a] ∧ SqL K H a (ns.map V.int) ∧ ns.length ≤ 63 ∧ ∀ H', Q (.bl true) H'
theorem ok_law {f : Addr} {fd : FuncData} (D0 : Dn K mg "law" s_law ["_law_script"] f fd) (TP : PgF K mg) (C : PgC K mg) (U : PgI K mg) (M : VeF K U.U) (T : LxF K mg) : FnOk P w K mg base CX0 38 f fd ["_law_script"] (sp_law K) := by
  refine D0.F.ok sc_law (fun vs H Q E h => ?_) (fun cdv A outer s H vs Q E hr h => ?_)
  · obtain ⟨a, ns, rfl, _⟩ := h
    rfl
  · obtain ⟨a, ns, rfl, hS, hlen, q⟩ := h
    have nd := sc_law.nd
    refine ⟨_, (pss_cons (ps_for PassesOwn.never rfl (pi_range1 (by rfl) T.m_range (pa_cons (pe_callB (call_max2 rfl) (by rfl) T.m_max (by decide +kernel) (pa_cons pe_int (pa_cons (pe_callB (call_min2 rfl) (by rfl) T.m_min (by decide +kernel) (pa_cons pe_int (pa_cons (pe_callB call_len_seq (by rfl) T.m_len PySem.boot_len (pa_cons (pv 0) pa_nil)) pa_nil))) pa_nil))) pa_nil)) (pg_name (i := 1) nd rfl (.inl rfl))
      (pss_cons (ps_set (i := 2) nd rfl (.inl rfl) (pe_call ((ok__law_stream T.toLwF).mono (by decide)) hr (by rfl) T.D__law_stream.g T.D__law_stream.kp T.D__law_stream.b .nil pass0 (pa_cons (pv 0) (pa_cons (pv 1) pa_nil))))
        (pss_cons (ps_set (i := 3) nd rfl (.inl rfl) (pe_call ((ok__law_drawn T.toLwF).mono (by decide)) hr (by rfl) T.D__law_drawn.g T.D__law_drawn.kp T.D__law_drawn.b .nil pass0 (pa_cons (pv 2) pa_nil)))
        (pss_cons (ps_if (PW.pt (pw_or (pt_not (pt_val (pe_call ((ok__law_parts_hold TP C U M T).mono (by decide)) hr (by rfl) T.D__law_parts_hold.g T.D__law_parts_hold.kp T.D__law_parts_hold.b .nil pass0 (pa_cons (pv 3) pa_nil)))) (pw_or1 (pt_not (pt_val (pe_call ((ok__law_statements_hold TP C U M T).mono (by decide)) hr (by rfl) T.D__law_statements_hold.g T.D__law_statements_hold.kp T.D__law_statements_hold.b .nil pass0 (pa_cons (pv 3) pa_nil)))))))
        (pss_one (ps_ret pe_bl))
        pss_nil)
        (pss_one (ps_if (PW.pt (pw_and (pt_cmpR op_eq (pv 1) pe_int (nomark _)) (pw_and1 (pt_not (pt_val (pe_call ((ok__law_limits_hold TP C U M T).mono (by decide)) hr (by rfl) T.D__law_limits_hold.g T.D__law_limits_hold.kp T.D__law_limits_hold.b .nil pass0 (pa_cons (pe_ix (r := rIxT K) ix_tup (pe_op op_catU (pe_ix (r := rIxT K) ix_tup (pv 3) pe_int (fun _ _ => rfl)) (pe_ix (r := rIxT K) ix_tup (pv 3) pe_int (fun _ _ => rfl))) pe_int (fun _ _ => rfl)) pa_nil)))))))
        (pss_one (ps_ret pe_bl))
        pss_nil))))))
      (pss_one (ps_ret pe_bl))), ?_⟩
    obtain ⟨m, hm1, hm2, hm3⟩ : ∃ m : Int, (if (if (ns.length : Int) < 6 then (ns.length : Int) else 6) > 1 then (if (ns.length : Int) < 6 then (ns.length : Int) else 6) else 1) = m ∧ 1 ≤ m ∧ m ≤ 6 := ⟨_, rfl, by split <;> split <;> omega, by split <;> split <;> omega⟩
    refine ⟨_, rfl, a, _, rfl, .inl hS, _, _, rfl, _, _, rfl, ?_⟩
    rw [List.length_map]
    refine ⟨m, by rw [← hm1], by omega, by omega, ?_⟩
    refine for_range (lo := 0) (n := m.toNat) (fun i σ H' => Same H H' ∧ ∃ (y1 y2 y3 : Option V), σ = [some (.ref a), y1, y2, y3]) ⟨Same.refl _, _, _, _, rfl⟩ ?_ ?_
    · rintro i σ H0 hi ⟨s0, y1, y2, y3, rfl⟩
      rw [Int.zero_add]
      refine ⟨_, rfl, _, rfl, a, ns, i, rfl, s0.seq hS, by omega, fun p H1 s1 np hp1 => ?_⟩
      refine ⟨_, rfl, p, rfl, hp1, fun v H2 pt sx2 hp2 hd2 f sm src => ?_⟩
      have s02 : Same H0 H2 := fun b o e => sx2 b o (ne_of_none e np) (s1 b o e)
      have pt_at : ∀ {H' : Hp}, Same H2 H' → Dp K H' v pt.D := fun s' => dp_keep (Same.tk s') hd2 f.tup
      refine ⟨_, rfl, v, pt, rfl, hd2, f, sm, src, fun H3 s3 => ⟨_, rfl, iteF ?_⟩⟩
      refine ⟨_, rfl, v, pt, rfl, pt_at s3, f, sm, src, fun H4 s4 => ⟨_, rfl, iteF ?_⟩⟩
      have s24 := s3.trans s4
      have fin : ∀ {H'}, Same H4 H' → Same H H' := fun s => s0.trans (s02.trans (s24.trans s))
      refine ⟨_, rfl, rfl, _, rfl, ite2 (fun e => ?_) (fun e => ⟨fin (.refl _), _, _, _, rfl⟩)⟩
      obtain ⟨pa, gv, vv, qv, mv, rfl, hPS, hP⟩ := dp_pt (pt_at s24)
      obtain ⟨ga, rfl, hga⟩ := hP.g
      obtain ⟨va, rfl, hva⟩ := hP.v
      have l4 := f.l4
      have l1 := f.l1
      refine ⟨_, rfl, pa, _, _, _, rfl, rfl, hPS, atI_nat (j := 0) rfl, _, rfl, pa, _, _, _, rfl, rfl, hPS, atI_nat (j := 1) rfl, ga, va, _, _, rfl, rfl, hga, hva, by rw [List.length_map, List.length_map, sizeLine_eq]; omega, fun g H5 s5 hg => ?_⟩
      rw [← List.map_append] at hg
      obtain ⟨x, r, hxr⟩ : ∃ x r, pt.given ++ pt.vars = x :: r := by
        have : 1 ≤ (pt.given ++ pt.vars).length := by rw [List.length_append]; exact l1
        cases h : pt.given ++ pt.vars with
        | nil => rw [h] at this; exact absurd this (by decide)
        | cons x r => exact ⟨x, r, rfl⟩
      have hx : x ∈ baseNames := src.names x (by rw [hxr]; exact List.mem_cons_self)
      rw [hxr] at hg
      refine ⟨g, _, _, .str x, rfl, rfl, hg, atI_nat (j := 0) rfl, x, rfl, hx, fun H6 s6 => ⟨_, rfl, iteF ⟨fin (s5.trans s6), _, _, _, rfl⟩⟩⟩
    · rintro σ H1 ⟨s1, y1, y2, y3, rfl⟩
      exact q _
end
end Sp1

set_option Elab.async false
set_option linter.all false
set_option maxRecDepth 100000
set_option maxHeartbeats 8000000
namespace Sp1
open PySem PySem.Spec PyProof.Rows L2 Pg Sp1X
theorem exm_self {K : PySem.W.Frag} {S : Addr} (h1 : PySem.W.subIn K (.ref S) (.type "BaseException") = some true) (h2 : PySem.W.isClsIn K S = true) (h3 : PySem.W.typeIn K (.ref S) = some (.type "type")) (h4 : PySem.W.subIn K (.ref S) (.ref S) = some true) :
    PySem.W.exmOne K (.ref S) (.ref S) = some true := by
  have e1 : (PySem.W.subIn K (.ref S) (.type "BaseException") == some true) = true := by
    rw [h1]
    rfl
  have e2 : ((PySem.W.clsIn K S).isSome && PySem.W.typeIn K (.ref S) == some (.type "type")) = true := by
    have q : (PySem.W.clsIn K S).isSome = true := h2
    rw [q, h3]
    rfl
  show (if _ = true then (if _ = true then _ else none) else none) = some true
  rw [if_pos e1, if_pos e2]
  exact h4
theorem kit_builtin {K : PySem.W.Frag} {S : Addr} {T : String} {b : Bool} (m : PySem.W.kitMeta T = true) (h : PySem.W.subIn K (.ref S) (.type T) = some b) : PySem.W.kitOne K (.ref S) (.type T) = some b := by
  unfold PySem.W.kitOne
  rw [if_neg (by simp)]
  show (if PySem.W.kitMeta T = true then _ else none) = _
  rw [if_pos m]
  exact h
theorem kit_not {K : PySem.W.Frag} {C : Addr} {T : String} (h1 : PySem.W.isClsIn K C = true) (h2 : PySem.W.typeIn K (.ref C) = some (.type "type")) (h3 : PySem.W.subIn K (.type T) (.ref C) = some false) : PySem.W.kitOne K (.type T) (.ref C) = some false := by
  unfold PySem.W.kitOne
  rw [if_neg (by simp)]
  unfold PySem.W.kitCls
  have e : ((PySem.W.clsIn K C).isSome && PySem.W.typeIn K (.ref C) == some (.type "type")) = true := by
    have h1' : (PySem.W.clsIn K C).isSome = true := h1
    rw [h1', h2]
    simp
  show (if _ = true then _ else _) = _
  rw [if_pos e]
  exact h3
theorem all_mk {l : PySem.W.OpenLaw} {w : World} {K : PySem.W.Frag} {h : Heap} {mg : Str → Option Value} {fa : Addr} {fxis_integer : Addr} {fdxis_integer : FuncData}
    {fxis_short : Addr} {fdxis_short : FuncData}
    {fxcommon_divisor : Addr} {fdxcommon_divisor : FuncData}
    {fxis_name : Addr} {fdxis_name : FuncData}
    {fxare_names : Addr} {fdxare_names : FuncData}
    {fxis_term : Addr} {fdxis_term : FuncData}
    {fxare_terms : Addr} {fdxare_terms : FuncData}
    {fxsum_numbers : Addr} {fdxsum_numbers : FuncData}
    {fxis_long_sum : Addr} {fdxis_long_sum : FuncData}
    {fxis_sum : Addr} {fdxis_sum : FuncData}
    {fxis_expression : Addr} {fdxis_expression : FuncData}
    {fxis_statement : Addr} {fdxis_statement : FuncData}
    {fxis_writing : Addr} {fdxis_writing : FuncData}
    {fxis_compound : Addr} {fdxis_compound : FuncData}
    {fxare_procedures : Addr} {fdxare_procedures : FuncData}
    {fxblock_code : Addr} {fdxblock_code : FuncData}
    {fxstatement_code : Addr} {fdxstatement_code : FuncData}
    {fxif_code : Addr} {fdxif_code : FuncData}
    {fxwhile_code : Addr} {fdxwhile_code : FuncData}
    {fxrepeat_code : Addr} {fdxrepeat_code : FuncData}
    {fxprogram_code : Addr} {fdxprogram_code : FuncData}
    {fxcheck_names : Addr} {fdxcheck_names : FuncData}
    {fxcheck_blocks : Addr} {fdxcheck_blocks : FuncData}
    {fxcheck_size : Addr} {fdxcheck_size : FuncData}
    {fx_law_stream : Addr} {fdx_law_stream : FuncData}
    {fx_law_draw : Addr} {fdx_law_draw : FuncData}
    {fx_law_choose : Addr} {fdx_law_choose : FuncData}
    {fx_law_sum : Addr} {fdx_law_sum : FuncData}
    {fx_law_expression : Addr} {fdx_law_expression : FuncData}
    {fx_law_statement : Addr} {fdx_law_statement : FuncData}
    {fx_law_block : Addr} {fdx_law_block : FuncData}
    {fx_law_parts : Addr} {fdx_law_parts : FuncData}
    {fx_law_code_of : Addr} {fdx_law_code_of : FuncData}
    {fx_law_compiled : Addr} {fdx_law_compiled : FuncData}
    {fx_law_is_small : Addr} {fdx_law_is_small : FuncData}
    {fx_law_drawn : Addr} {fdx_law_drawn : FuncData}
    {fx_law_told : Addr} {fdx_law_told : FuncData}
    {fx_law_statements : Addr} {fdx_law_statements : FuncData}
    {fx_law_parts_hold : Addr} {fdx_law_parts_hold : FuncData}
    {fx_law_statements_hold : Addr} {fdx_law_statements_hold : FuncData}
    {fx_law_limits_hold : Addr} {fdx_law_limits_hold : FuncData}
    {fxlaw : Addr} {fdxlaw : FuncData}
    {fB TD : Addr} {ocB kVB dcB pmB cdB ctB : Value} {odB anB : Option Addr} {slB : Array (Option Value)} {oT : Obj} {nT : Nat} {t0 : Tok}
    {zSHORT_BOUND : Int} {tSHORT_BOUND : Tok}
    {zMAX_LETTERS : Int} {tMAX_LETTERS : Tok}
    {zMAX_DEPTH : Int} {tMAX_DEPTH : Tok}
    {zMAX_PROCEDURES : Int} {tMAX_PROCEDURES : Tok}
    {zMAX_NAMES : Int} {tMAX_NAMES : Tok}
    {zMAX_CODE : Int} {tMAX_CODE : Tok}
    {zMAX_CALLS : Int} {tMAX_CALLS : Tok}
    {aWORDS : Addr} {oWORDS : Obj} {itsWORDS : Array Value} {nWORDS : Nat}
    {aPAIRS : Addr} {oPAIRS : Obj} {itsPAIRS : Array Value} {nPAIRS : Nat}
    {aCOMPOUND : Addr} {oCOMPOUND : Obj} {itsCOMPOUND : Array Value} {nCOMPOUND : Nat}
    {C : Addr}
    {fMi : Addr} {fdMi : FuncData}
    {fMe : Addr} {fdMe : FuncData}
    {pPgiven fPgiven : Addr} {fdPgiven : FuncData}
    {pPvariables fPvariables : Addr} {fdPvariables : FuncData}
    {pPprocedures fPprocedures : Addr} {fdPprocedures : FuncData}
    {pPmain fPmain : Addr} {fdPmain : FuncData}
    {pPnames fPnames : Addr} {fdPnames : FuncData}
    {pPcode fPcode : Addr} {fdPcode : FuncData}
    {CInvalidProgram iInvalidProgram : Addr} {nmInvalidProgram qInvalidProgram : Str} {NInvalidProgram : Addr} {bsInvalidProgram : List Value} {snInvalidProgram : List Str} {subInvalidProgram : List Value} {abInvalidProgram : Bool} {colInvalidProgram : Option Bool} {ddInvalidProgram : Option Addr} {m0InvalidProgram m1InvalidProgram m2InvalidProgram m3InvalidProgram m5InvalidProgram : Option Value} {ocInvalidProgram dcInvalidProgram pmInvalidProgram cdInvalidProgram ctInvalidProgram : Value} {odInvalidProgram anInvalidProgram : Option Addr} {slInvalidProgram : Array (Option Value)} {MInvalidProgramTapeError : Addr}
    (X : K.In h) (G : h.Ns mainGlobals mg) (hfa : mg "law" = some (.ref fa))
    (axis_integer : PySem.W.nsIn K mainGlobals "is_integer" = some (some (.ref fxis_integer)))
    (Fxis_integer : Fun K "is_integer" "is_integer" s_is_integer fxis_integer fdxis_integer)
    (axis_short : PySem.W.nsIn K mainGlobals "is_short" = some (some (.ref fxis_short)))
    (Fxis_short : Fun K "is_short" "is_short" s_is_short fxis_short fdxis_short)
    (axcommon_divisor : PySem.W.nsIn K mainGlobals "common_divisor" = some (some (.ref fxcommon_divisor)))
    (Fxcommon_divisor : Fun K "common_divisor" "common_divisor" s_common_divisor fxcommon_divisor fdxcommon_divisor)
    (axis_name : PySem.W.nsIn K mainGlobals "is_name" = some (some (.ref fxis_name)))
    (Fxis_name : Fun K "is_name" "is_name" s_is_name fxis_name fdxis_name)
    (axare_names : PySem.W.nsIn K mainGlobals "are_names" = some (some (.ref fxare_names)))
    (Fxare_names : Fun K "are_names" "are_names" s_are_names fxare_names fdxare_names)
    (axis_term : PySem.W.nsIn K mainGlobals "is_term" = some (some (.ref fxis_term)))
    (Fxis_term : Fun K "is_term" "is_term" s_is_term fxis_term fdxis_term)
    (axare_terms : PySem.W.nsIn K mainGlobals "are_terms" = some (some (.ref fxare_terms)))
    (Fxare_terms : Fun K "are_terms" "are_terms" s_are_terms fxare_terms fdxare_terms)
    (axsum_numbers : PySem.W.nsIn K mainGlobals "sum_numbers" = some (some (.ref fxsum_numbers)))
    (Fxsum_numbers : Fun K "sum_numbers" "sum_numbers" s_sum_numbers fxsum_numbers fdxsum_numbers)
    (axis_long_sum : PySem.W.nsIn K mainGlobals "is_long_sum" = some (some (.ref fxis_long_sum)))
    (Fxis_long_sum : Fun K "is_long_sum" "is_long_sum" s_is_long_sum fxis_long_sum fdxis_long_sum)
    (axis_sum : PySem.W.nsIn K mainGlobals "is_sum" = some (some (.ref fxis_sum)))
    (Fxis_sum : Fun K "is_sum" "is_sum" s_is_sum fxis_sum fdxis_sum)
    (axis_expression : PySem.W.nsIn K mainGlobals "is_expression" = some (some (.ref fxis_expression)))
    (Fxis_expression : Fun K "is_expression" "is_expression" s_is_expression fxis_expression fdxis_expression)
    (axis_statement : PySem.W.nsIn K mainGlobals "is_statement" = some (some (.ref fxis_statement)))
    (Fxis_statement : Fun K "is_statement" "is_statement" s_is_statement fxis_statement fdxis_statement)
    (axis_writing : PySem.W.nsIn K mainGlobals "is_writing" = some (some (.ref fxis_writing)))
    (Fxis_writing : Fun K "is_writing" "is_writing" s_is_writing fxis_writing fdxis_writing)
    (axis_compound : PySem.W.nsIn K mainGlobals "is_compound" = some (some (.ref fxis_compound)))
    (Fxis_compound : Fun K "is_compound" "is_compound" s_is_compound fxis_compound fdxis_compound)
    (axare_procedures : PySem.W.nsIn K mainGlobals "are_procedures" = some (some (.ref fxare_procedures)))
    (Fxare_procedures : Fun K "are_procedures" "are_procedures" s_are_procedures fxare_procedures fdxare_procedures)
    (axblock_code : PySem.W.nsIn K mainGlobals "block_code" = some (some (.ref fxblock_code)))
    (Fxblock_code : Fun K "block_code" "block_code" s_block_code fxblock_code fdxblock_code)
    (axstatement_code : PySem.W.nsIn K mainGlobals "statement_code" = some (some (.ref fxstatement_code)))
    (Fxstatement_code : Fun K "statement_code" "statement_code" s_statement_code fxstatement_code fdxstatement_code)
    (axif_code : PySem.W.nsIn K mainGlobals "if_code" = some (some (.ref fxif_code)))
    (Fxif_code : Fun K "if_code" "if_code" s_if_code fxif_code fdxif_code)
    (axwhile_code : PySem.W.nsIn K mainGlobals "while_code" = some (some (.ref fxwhile_code)))
    (Fxwhile_code : Fun K "while_code" "while_code" s_while_code fxwhile_code fdxwhile_code)
    (axrepeat_code : PySem.W.nsIn K mainGlobals "repeat_code" = some (some (.ref fxrepeat_code)))
    (Fxrepeat_code : Fun K "repeat_code" "repeat_code" s_repeat_code fxrepeat_code fdxrepeat_code)
    (axprogram_code : PySem.W.nsIn K mainGlobals "program_code" = some (some (.ref fxprogram_code)))
    (Fxprogram_code : Fun K "program_code" "program_code" s_program_code fxprogram_code fdxprogram_code)
    (axcheck_names : PySem.W.nsIn K mainGlobals "check_names" = some (some (.ref fxcheck_names)))
    (Fxcheck_names : Fun K "check_names" "check_names" s_check_names fxcheck_names fdxcheck_names)
    (axcheck_blocks : PySem.W.nsIn K mainGlobals "check_blocks" = some (some (.ref fxcheck_blocks)))
    (Fxcheck_blocks : Fun K "check_blocks" "check_blocks" s_check_blocks fxcheck_blocks fdxcheck_blocks)
    (axcheck_size : PySem.W.nsIn K mainGlobals "check_size" = some (some (.ref fxcheck_size)))
    (Fxcheck_size : Fun K "check_size" "check_size" s_check_size fxcheck_size fdxcheck_size)
    (ax_law_stream : PySem.W.nsIn K mainGlobals "_law_stream" = some (some (.ref fx_law_stream)))
    (Fx_law_stream : Fun K "_law_stream" "_law_stream" s_l_stream fx_law_stream fdx_law_stream)
    (ax_law_draw : PySem.W.nsIn K mainGlobals "_law_draw" = some (some (.ref fx_law_draw)))
    (Fx_law_draw : Fun K "_law_draw" "_law_draw" s_l_draw fx_law_draw fdx_law_draw)
    (ax_law_choose : PySem.W.nsIn K mainGlobals "_law_choose" = some (some (.ref fx_law_choose)))
    (Fx_law_choose : Fun K "_law_choose" "_law_choose" s_l_choose fx_law_choose fdx_law_choose)
    (ax_law_sum : PySem.W.nsIn K mainGlobals "_law_sum" = some (some (.ref fx_law_sum)))
    (Fx_law_sum : Fun K "_law_sum" "_law_sum" s_l_sum fx_law_sum fdx_law_sum)
    (ax_law_expression : PySem.W.nsIn K mainGlobals "_law_expression" = some (some (.ref fx_law_expression)))
    (Fx_law_expression : Fun K "_law_expression" "_law_expression" s_l_expression fx_law_expression fdx_law_expression)
    (ax_law_statement : PySem.W.nsIn K mainGlobals "_law_statement" = some (some (.ref fx_law_statement)))
    (Fx_law_statement : Fun K "_law_statement" "_law_statement" s_l_statement fx_law_statement fdx_law_statement)
    (ax_law_block : PySem.W.nsIn K mainGlobals "_law_block" = some (some (.ref fx_law_block)))
    (Fx_law_block : Fun K "_law_block" "_law_block" s_l_block fx_law_block fdx_law_block)
    (ax_law_parts : PySem.W.nsIn K mainGlobals "_law_parts" = some (some (.ref fx_law_parts)))
    (Fx_law_parts : Fun K "_law_parts" "_law_parts" s_l_parts fx_law_parts fdx_law_parts)
    (ax_law_code_of : PySem.W.nsIn K mainGlobals "_law_code_of" = some (some (.ref fx_law_code_of)))
    (Fx_law_code_of : Fun K "_law_code_of" "_law_code_of" s_l_code_of fx_law_code_of fdx_law_code_of)
    (ax_law_compiled : PySem.W.nsIn K mainGlobals "_law_compiled" = some (some (.ref fx_law_compiled)))
    (Fx_law_compiled : Fun K "_law_compiled" "_law_compiled" s_l_compiled fx_law_compiled fdx_law_compiled)
    (ax_law_is_small : PySem.W.nsIn K mainGlobals "_law_is_small" = some (some (.ref fx_law_is_small)))
    (Fx_law_is_small : Fun K "_law_is_small" "_law_is_small" s_l_is_small fx_law_is_small fdx_law_is_small)
    (ax_law_drawn : PySem.W.nsIn K mainGlobals "_law_drawn" = some (some (.ref fx_law_drawn)))
    (Fx_law_drawn : Fun K "_law_drawn" "_law_drawn" s_l_drawn fx_law_drawn fdx_law_drawn)
    (ax_law_told : PySem.W.nsIn K mainGlobals "_law_told" = some (some (.ref fx_law_told)))
    (Fx_law_told : Fun K "_law_told" "_law_told" s_l_told fx_law_told fdx_law_told)
    (ax_law_statements : PySem.W.nsIn K mainGlobals "_law_statements" = some (some (.ref fx_law_statements)))
    (Fx_law_statements : Fun K "_law_statements" "_law_statements" s_l_statements fx_law_statements fdx_law_statements)
    (ax_law_parts_hold : PySem.W.nsIn K mainGlobals "_law_parts_hold" = some (some (.ref fx_law_parts_hold)))
    (Fx_law_parts_hold : Fun K "_law_parts_hold" "_law_parts_hold" s_l_parts_hold fx_law_parts_hold fdx_law_parts_hold)
    (ax_law_statements_hold : PySem.W.nsIn K mainGlobals "_law_statements_hold" = some (some (.ref fx_law_statements_hold)))
    (Fx_law_statements_hold : Fun K "_law_statements_hold" "_law_statements_hold" s_l_statements_hold fx_law_statements_hold fdx_law_statements_hold)
    (ax_law_limits_hold : PySem.W.nsIn K mainGlobals "_law_limits_hold" = some (some (.ref fx_law_limits_hold)))
    (Fx_law_limits_hold : Fun K "_law_limits_hold" "_law_limits_hold" s_l_limits_hold fx_law_limits_hold fdx_law_limits_hold)
    (axlaw : PySem.W.nsIn K mainGlobals "law" = some (some (.ref fxlaw)))
    (Fxlaw : Fun K "law" "law" s_law fxlaw fdxlaw)
    (aB : PySem.W.nsIn K mainGlobals "is_block" = some (some (.ref fB)))
    (lB : K.lookup fB = some ⟨ocB, odB, .func (PySem.W.fnOf "is_block" "is_block" (defArgs s_is_block) (defBody s_is_block) (defScope s_is_block) (.ref TD) kVB dcB pmB anB cdB ctB), slB⟩)
    (cB : PySem.W.codeIn K cdB "is_block" = true)
    (kB : PySem.W.keepIn K (.ref fB) = true)
    (lT : K.lookup TD = some oT)
    (dT : oT.data = .seq #[.int 1 t0] nT)
    (gGcd : PySem.W.nsIn K mainGlobals "gcd" = some (some (.builtin "math.gcd")))
    (cSHORT_BOUND : PySem.W.nsIn K mainGlobals "SHORT_BOUND" = some (some (.int zSHORT_BOUND tSHORT_BOUND)))
    (eSHORT_BOUND : zSHORT_BOUND = Pg.great)
    (cMAX_LETTERS : PySem.W.nsIn K mainGlobals "MAX_LETTERS" = some (some (.int zMAX_LETTERS tMAX_LETTERS)))
    (eMAX_LETTERS : zMAX_LETTERS = 8)
    (cMAX_DEPTH : PySem.W.nsIn K mainGlobals "MAX_DEPTH" = some (some (.int zMAX_DEPTH tMAX_DEPTH)))
    (eMAX_DEPTH : zMAX_DEPTH = 8)
    (cMAX_PROCEDURES : PySem.W.nsIn K mainGlobals "MAX_PROCEDURES" = some (some (.int zMAX_PROCEDURES tMAX_PROCEDURES)))
    (eMAX_PROCEDURES : zMAX_PROCEDURES = 6)
    (cMAX_NAMES : PySem.W.nsIn K mainGlobals "MAX_NAMES" = some (some (.int zMAX_NAMES tMAX_NAMES)))
    (eMAX_NAMES : zMAX_NAMES = 4)
    (cMAX_CODE : PySem.W.nsIn K mainGlobals "MAX_CODE" = some (some (.int zMAX_CODE tMAX_CODE)))
    (eMAX_CODE : zMAX_CODE = 120)
    (cMAX_CALLS : PySem.W.nsIn K mainGlobals "MAX_CALLS" = some (some (.int zMAX_CALLS tMAX_CALLS)))
    (eMAX_CALLS : zMAX_CALLS = 8)
    (gWORDS : PySem.W.nsIn K mainGlobals "WORDS" = some (some (.ref aWORDS)))
    (lWORDS : K.lookup aWORDS = some oWORDS)
    (sWORDS : oWORDS.cls = .type "tuple")
    (dWORDS : oWORDS.data = .seq itsWORDS nWORDS)
    (vWORDS : Vals (Pg.words.map V.str) itsWORDS.toList)
    (gPAIRS : PySem.W.nsIn K mainGlobals "PAIRS" = some (some (.ref aPAIRS)))
    (lPAIRS : K.lookup aPAIRS = some oPAIRS)
    (sPAIRS : oPAIRS.cls = .type "tuple")
    (dPAIRS : oPAIRS.data = .seq itsPAIRS nPAIRS)
    (vPAIRS : Vals (Pg.pairWords.map V.str) itsPAIRS.toList)
    (gCOMPOUND : PySem.W.nsIn K mainGlobals "COMPOUND" = some (some (.ref aCOMPOUND)))
    (lCOMPOUND : K.lookup aCOMPOUND = some oCOMPOUND)
    (sCOMPOUND : oCOMPOUND.cls = .type "tuple")
    (dCOMPOUND : oCOMPOUND.data = .seq itsCOMPOUND nCOMPOUND)
    (vCOMPOUND : Vals (Pg.compound.map V.str) itsCOMPOUND.toList)
    (aC : PySem.W.nsIn K mainGlobals "Program" = some (some (.ref C)))
    (pg : PySem.W.plainGet K C Str.empty = true)
    (hd : PySem.W.hasDictIn K C = true)
    (po : PySem.W.plainOver K C = true)
    (sa : PySem.W.findIn K (.ref C) "__setattr__" = some (some (.builtin "object.__setattr__")))
    (mk : PySem.W.makesIn K C = true)
    (kc : PySem.W.keepIn K (.ref C) = true)
    (ha : PySem.W.findIn K (.ref C) "__class__" = some (some (.builtin "object.__class__")))
    (hn : PySem.W.specialIn K (.builtin "object.__class__") "__get__" = some (some (.builtin "getset_descriptor.__get__")))
    (ht : PySem.W.takesIn K (.builtin "object.__class__") = some true)
    (hm : PySem.W.mroIn K C (.type "object") = some true)
    (aNe : PySem.W.findIn K (.ref C) "__ne__" = some (some (.builtin "object.__ne__")))
    (n_code : PySem.W.findIn K (.ref C) "_code" = some none)
    (n_entries : PySem.W.findIn K (.ref C) "_entries" = some none)
    (n_given : PySem.W.findIn K (.ref C) "_given" = some none)
    (n_variables : PySem.W.findIn K (.ref C) "_variables" = some none)
    (n_procedures : PySem.W.findIn K (.ref C) "_procedures" = some none)
    (n_main : PySem.W.findIn K (.ref C) "_main" = some none)
    (atMi : PySem.W.findIn K (.ref C) "__init__" = some (some (.ref fMi)))
    (isMi : PySem.W.isFn K (.ref fMi) = true)
    (FMi : Fun K "__init__" "Program.__init__" s_init fMi fdMi)
    (atMe : PySem.W.findIn K (.ref C) "__eq__" = some (some (.ref fMe)))
    (isMe : PySem.W.isFn K (.ref fMe) = true)
    (FMe : Fun K "__eq__" "Program.__eq__" s_eq fMe fdMe)
    (aPgiven : PySem.W.findIn K (.ref C) "given" = some (some (.ref pPgiven)))
    (gtPgiven : PySem.W.specialIn K (.ref pPgiven) "__get__" = some (some (.builtin "property.__get__")))
    (tkPgiven : PySem.W.takesIn K (.ref pPgiven) = some true)
    (rcPgiven : ∃ rest, PySem.W.recIn K pPgiven "property" = some (.ref fPgiven :: rest))
    (FPgiven : Fun K "given" "Program.given" s_given fPgiven fdPgiven)
    (aPvariables : PySem.W.findIn K (.ref C) "variables" = some (some (.ref pPvariables)))
    (gtPvariables : PySem.W.specialIn K (.ref pPvariables) "__get__" = some (some (.builtin "property.__get__")))
    (tkPvariables : PySem.W.takesIn K (.ref pPvariables) = some true)
    (rcPvariables : ∃ rest, PySem.W.recIn K pPvariables "property" = some (.ref fPvariables :: rest))
    (FPvariables : Fun K "variables" "Program.variables" s_variables fPvariables fdPvariables)
    (aPprocedures : PySem.W.findIn K (.ref C) "procedures" = some (some (.ref pPprocedures)))
    (gtPprocedures : PySem.W.specialIn K (.ref pPprocedures) "__get__" = some (some (.builtin "property.__get__")))
    (tkPprocedures : PySem.W.takesIn K (.ref pPprocedures) = some true)
    (rcPprocedures : ∃ rest, PySem.W.recIn K pPprocedures "property" = some (.ref fPprocedures :: rest))
    (FPprocedures : Fun K "procedures" "Program.procedures" s_procedures fPprocedures fdPprocedures)
    (aPmain : PySem.W.findIn K (.ref C) "main" = some (some (.ref pPmain)))
    (gtPmain : PySem.W.specialIn K (.ref pPmain) "__get__" = some (some (.builtin "property.__get__")))
    (tkPmain : PySem.W.takesIn K (.ref pPmain) = some true)
    (rcPmain : ∃ rest, PySem.W.recIn K pPmain "property" = some (.ref fPmain :: rest))
    (FPmain : Fun K "main" "Program.main" s_main fPmain fdPmain)
    (aPnames : PySem.W.findIn K (.ref C) "names" = some (some (.ref pPnames)))
    (gtPnames : PySem.W.specialIn K (.ref pPnames) "__get__" = some (some (.builtin "property.__get__")))
    (tkPnames : PySem.W.takesIn K (.ref pPnames) = some true)
    (rcPnames : ∃ rest, PySem.W.recIn K pPnames "property" = some (.ref fPnames :: rest))
    (FPnames : Fun K "names" "Program.names" s_names fPnames fdPnames)
    (aPcode : PySem.W.findIn K (.ref C) "code" = some (some (.ref pPcode)))
    (gtPcode : PySem.W.specialIn K (.ref pPcode) "__get__" = some (some (.builtin "property.__get__")))
    (tkPcode : PySem.W.takesIn K (.ref pPcode) = some true)
    (rcPcode : ∃ rest, PySem.W.recIn K pPcode "property" = some (.ref fPcode :: rest))
    (FPcode : Fun K "code" "Program.code" s_code fPcode fdPcode)
    (egInvalidProgram : PySem.W.nsIn K mainGlobals "InvalidProgram" = some (some (.ref CInvalidProgram)))
    (elInvalidProgram : K.lookup CInvalidProgram = some (excClassObj nmInvalidProgram qInvalidProgram CInvalidProgram NInvalidProgram bsInvalidProgram (.ref MInvalidProgramTapeError :: [.type "ValueError", .type "Exception", .type "BaseException", .type "object"]) true snInvalidProgram subInvalidProgram abInvalidProgram colInvalidProgram ddInvalidProgram m0InvalidProgram m1InvalidProgram m2InvalidProgram m3InvalidProgram m5InvalidProgram "ValueError.__new__"))
    (esInvalidProgram : PySem.W.findIn K (.ref CInvalidProgram) "__setattr__" = some (some (.builtin "object.__setattr__")))
    (eaInvalidProgram : PySem.W.findIn K (.ref CInvalidProgram) "__getattribute__" = some (some (.builtin "BaseException.__getattribute__")))
    (etInvalidProgram : PySem.W.findIn K (.ref CInvalidProgram) "__getattr__" = some none)
    (enInvalidProgram : PySem.W.findIn K (.ref CInvalidProgram) "part" = some none)
    (eiInvalidProgram : PySem.W.findIn K (.ref CInvalidProgram) "__init__" = some (some (.ref iInvalidProgram)))
    (eyInvalidProgram : PySem.W.typeIn K (.ref iInvalidProgram) = some (.type "function"))
    (efInvalidProgram : K.lookup iInvalidProgram = some ⟨ocInvalidProgram, odInvalidProgram, .func (PySem.W.fnOf "__init__" "InvalidProgram.__init__" (iA_InvalidProgram ⟨147, 17, 147, 21⟩ ⟨147, 23, 147, 27⟩) (iB_InvalidProgram ⟨148, 8, 148, 12⟩ ⟨148, 8, 148, 17⟩ ⟨148, 20, 148, 24⟩ ⟨148, 8, 148, 24⟩) iS_InvalidProgram .none .none dcInvalidProgram pmInvalidProgram anInvalidProgram cdInvalidProgram ctInvalidProgram), slInvalidProgram⟩)
    (ecInvalidProgram : PySem.W.codeIn K cdInvalidProgram "InvalidProgram.__init__" = true)
    (ekInvalidProgram : PySem.W.keepIn K (.ref CInvalidProgram) = true)
    (ebInvalidProgram : PySem.W.subIn K (.ref CInvalidProgram) (.type "BaseException") = some true)
    (epInvalidProgram : PySem.W.typeIn K (.ref CInvalidProgram) = some (.type "type"))
    (ehInvalidProgram : PySem.W.hasDictIn K CInvalidProgram = true)
    (euInvalidProgram : PySem.W.isClsIn K CInvalidProgram = true)
    (evInvalidProgram : PySem.W.subIn K (.ref CInvalidProgram) (.ref CInvalidProgram) = some true)
    (ewInvalidProgram : PySem.W.findIn K (.ref CInvalidProgram) "__class__" = some (some (.builtin "object.__class__")))
    (exInvalidProgram : PySem.W.specialIn K (.builtin "object.__class__") "__get__" = some (some (.builtin "getset_descriptor.__get__")))
    (ezInvalidProgram : PySem.W.takesIn K (.builtin "object.__class__") = some true)
    (emInvalidProgram : PySem.W.mroIn K CInvalidProgram (.type "object") = some true)
    (kkU : PySem.W.subIn K (.ref CInvalidProgram) (.type "ValueError") = some true)
    (z_isinstance : PySem.W.nsIn K mainGlobals "isinstance" = some none) (z_int : PySem.W.nsIn K mainGlobals "int" = some none) (z_bool : PySem.W.nsIn K mainGlobals "bool" = some none) (z_str : PySem.W.nsIn K mainGlobals "str" = some none) (z_tuple : PySem.W.nsIn K mainGlobals "tuple" = some none) (z_len : PySem.W.nsIn K mainGlobals "len" = some none) (z_all : PySem.W.nsIn K mainGlobals "all" = some none) (z_set : PySem.W.nsIn K mainGlobals "set" = some none) (z_sorted : PySem.W.nsIn K mainGlobals "sorted" = some none) (z_max : PySem.W.nsIn K mainGlobals "max" = some none) (z_min : PySem.W.nsIn K mainGlobals "min" = some none) (z_range : PySem.W.nsIn K mainGlobals "range" = some none) (z_list : PySem.W.nsIn K mainGlobals "list" = some none) (z_ValueError : PySem.W.nsIn K mainGlobals "ValueError" = some none) :
    ∃ fd : FuncData, (∀ (s : Shared) (v : Value), BindsTo s fd ⟨[v], []⟩ [("_law_script", v)]) ∧ ∀ base : Heap, K.In base → base.Ns mainGlobals mg → FnOk l.prog w K mg base CX0 38 fa fd ["_law_script"] (sp_law K) := by
  have e := hfa.symm.trans (PySem.W.mg_of X G axlaw)
  cases e
  have m_isinstance := PySem.W.mg_none_of X G z_isinstance
  have m_int := PySem.W.mg_none_of X G z_int
  have m_bool := PySem.W.mg_none_of X G z_bool
  have m_str := PySem.W.mg_none_of X G z_str
  have m_tuple := PySem.W.mg_none_of X G z_tuple
  have m_len := PySem.W.mg_none_of X G z_len
  have m_all := PySem.W.mg_none_of X G z_all
  have m_set := PySem.W.mg_none_of X G z_set
  have m_sorted := PySem.W.mg_none_of X G z_sorted
  have m_max := PySem.W.mg_none_of X G z_max
  have m_min := PySem.W.mg_none_of X G z_min
  have m_range := PySem.W.mg_none_of X G z_range
  have m_list := PySem.W.mg_none_of X G z_list
  have m_ValueError := PySem.W.mg_none_of X G z_ValueError
  have Dxis_integer : Dn K mg "is_integer" s_is_integer ["value"] fxis_integer fdxis_integer := ⟨Fxis_integer, PySem.W.mg_of X G axis_integer, Fxis_integer.binds (ps := ["value"]) fun _ _ _ _ _ _ us hl => match us, hl with | [_], _ => rfl⟩
  have Dxis_short : Dn K mg "is_short" s_is_short ["value"] fxis_short fdxis_short := ⟨Fxis_short, PySem.W.mg_of X G axis_short, Fxis_short.binds (ps := ["value"]) fun _ _ _ _ _ _ us hl => match us, hl with | [_], _ => rfl⟩
  have Dxcommon_divisor : Dn K mg "common_divisor" s_common_divisor ["numbers"] fxcommon_divisor fdxcommon_divisor := ⟨Fxcommon_divisor, PySem.W.mg_of X G axcommon_divisor, Fxcommon_divisor.binds (ps := ["numbers"]) fun _ _ _ _ _ _ us hl => match us, hl with | [_], _ => rfl⟩
  have Dxis_name : Dn K mg "is_name" s_is_name ["candidate"] fxis_name fdxis_name := ⟨Fxis_name, PySem.W.mg_of X G axis_name, Fxis_name.binds (ps := ["candidate"]) fun _ _ _ _ _ _ us hl => match us, hl with | [_], _ => rfl⟩
  have Dxare_names : Dn K mg "are_names" s_are_names ["candidate"] fxare_names fdxare_names := ⟨Fxare_names, PySem.W.mg_of X G axare_names, Fxare_names.binds (ps := ["candidate"]) fun _ _ _ _ _ _ us hl => match us, hl with | [_], _ => rfl⟩
  have Dxis_term : Dn K mg "is_term" s_is_term ["candidate", "names"] fxis_term fdxis_term := ⟨Fxis_term, PySem.W.mg_of X G axis_term, Fxis_term.binds (ps := ["candidate", "names"]) fun _ _ _ _ _ _ us hl => match us, hl with | [_, _], _ => rfl⟩
  have Dxare_terms : Dn K mg "are_terms" s_are_terms ["candidate", "names"] fxare_terms fdxare_terms := ⟨Fxare_terms, PySem.W.mg_of X G axare_terms, Fxare_terms.binds (ps := ["candidate", "names"]) fun _ _ _ _ _ _ us hl => match us, hl with | [_, _], _ => rfl⟩
  have Dxsum_numbers : Dn K mg "sum_numbers" s_sum_numbers ["value"] fxsum_numbers fdxsum_numbers := ⟨Fxsum_numbers, PySem.W.mg_of X G axsum_numbers, Fxsum_numbers.binds (ps := ["value"]) fun _ _ _ _ _ _ us hl => match us, hl with | [_], _ => rfl⟩
  have Dxis_long_sum : Dn K mg "is_long_sum" s_is_long_sum ["candidate", "names"] fxis_long_sum fdxis_long_sum := ⟨Fxis_long_sum, PySem.W.mg_of X G axis_long_sum, Fxis_long_sum.binds (ps := ["candidate", "names"]) fun _ _ _ _ _ _ us hl => match us, hl with | [_, _], _ => rfl⟩
  have Dxis_sum : Dn K mg "is_sum" s_is_sum ["candidate", "names"] fxis_sum fdxis_sum := ⟨Fxis_sum, PySem.W.mg_of X G axis_sum, Fxis_sum.binds (ps := ["candidate", "names"]) fun _ _ _ _ _ _ us hl => match us, hl with | [_, _], _ => rfl⟩
  have Dxis_expression : Dn K mg "is_expression" s_is_expression ["candidate", "names"] fxis_expression fdxis_expression := ⟨Fxis_expression, PySem.W.mg_of X G axis_expression, Fxis_expression.binds (ps := ["candidate", "names"]) fun _ _ _ _ _ _ us hl => match us, hl with | [_, _], _ => rfl⟩
  have Dxis_statement : Dn K mg "is_statement" s_is_statement ["candidate", "names", "procedures", "depth"] fxis_statement fdxis_statement := ⟨Fxis_statement, PySem.W.mg_of X G axis_statement, Fxis_statement.binds (ps := ["candidate", "names", "procedures", "depth"]) fun _ _ _ _ _ _ us hl => match us, hl with | [_, _, _, _], _ => rfl⟩
  have Dxis_writing : Dn K mg "is_writing" s_is_writing ["candidate", "names"] fxis_writing fdxis_writing := ⟨Fxis_writing, PySem.W.mg_of X G axis_writing, Fxis_writing.binds (ps := ["candidate", "names"]) fun _ _ _ _ _ _ us hl => match us, hl with | [_, _], _ => rfl⟩
  have Dxis_compound : Dn K mg "is_compound" s_is_compound ["candidate", "names", "procedures", "depth"] fxis_compound fdxis_compound := ⟨Fxis_compound, PySem.W.mg_of X G axis_compound, Fxis_compound.binds (ps := ["candidate", "names", "procedures", "depth"]) fun _ _ _ _ _ _ us hl => match us, hl with | [_, _, _, _], _ => rfl⟩
  have Dxare_procedures : Dn K mg "are_procedures" s_are_procedures ["candidate", "names"] fxare_procedures fdxare_procedures := ⟨Fxare_procedures, PySem.W.mg_of X G axare_procedures, Fxare_procedures.binds (ps := ["candidate", "names"]) fun _ _ _ _ _ _ us hl => match us, hl with | [_, _], _ => rfl⟩
  have Dxblock_code : Dn K mg "block_code" s_block_code ["block", "start"] fxblock_code fdxblock_code := ⟨Fxblock_code, PySem.W.mg_of X G axblock_code, Fxblock_code.binds (ps := ["block", "start"]) fun _ _ _ _ _ _ us hl => match us, hl with | [_, _], _ => rfl⟩
  have Dxstatement_code : Dn K mg "statement_code" s_statement_code ["statement", "start"] fxstatement_code fdxstatement_code := ⟨Fxstatement_code, PySem.W.mg_of X G axstatement_code, Fxstatement_code.binds (ps := ["statement", "start"]) fun _ _ _ _ _ _ us hl => match us, hl with | [_, _], _ => rfl⟩
  have Dxif_code : Dn K mg "if_code" s_if_code ["statement", "start"] fxif_code fdxif_code := ⟨Fxif_code, PySem.W.mg_of X G axif_code, Fxif_code.binds (ps := ["statement", "start"]) fun _ _ _ _ _ _ us hl => match us, hl with | [_, _], _ => rfl⟩
  have Dxwhile_code : Dn K mg "while_code" s_while_code ["statement", "start"] fxwhile_code fdxwhile_code := ⟨Fxwhile_code, PySem.W.mg_of X G axwhile_code, Fxwhile_code.binds (ps := ["statement", "start"]) fun _ _ _ _ _ _ us hl => match us, hl with | [_, _], _ => rfl⟩
  have Dxrepeat_code : Dn K mg "repeat_code" s_repeat_code ["statement", "start"] fxrepeat_code fdxrepeat_code := ⟨Fxrepeat_code, PySem.W.mg_of X G axrepeat_code, Fxrepeat_code.binds (ps := ["statement", "start"]) fun _ _ _ _ _ _ us hl => match us, hl with | [_, _], _ => rfl⟩
  have Dxprogram_code : Dn K mg "program_code" s_program_code ["procedures", "main"] fxprogram_code fdxprogram_code := ⟨Fxprogram_code, PySem.W.mg_of X G axprogram_code, Fxprogram_code.binds (ps := ["procedures", "main"]) fun _ _ _ _ _ _ us hl => match us, hl with | [_, _], _ => rfl⟩
  have Dxcheck_names : Dn K mg "check_names" s_check_names ["given", "variables"] fxcheck_names fdxcheck_names := ⟨Fxcheck_names, PySem.W.mg_of X G axcheck_names, Fxcheck_names.binds (ps := ["given", "variables"]) fun _ _ _ _ _ _ us hl => match us, hl with | [_, _], _ => rfl⟩
  have Dxcheck_blocks : Dn K mg "check_blocks" s_check_blocks ["names", "procedures", "main"] fxcheck_blocks fdxcheck_blocks := ⟨Fxcheck_blocks, PySem.W.mg_of X G axcheck_blocks, Fxcheck_blocks.binds (ps := ["names", "procedures", "main"]) fun _ _ _ _ _ _ us hl => match us, hl with | [_, _, _], _ => rfl⟩
  have Dxcheck_size : Dn K mg "check_size" s_check_size ["code"] fxcheck_size fdxcheck_size := ⟨Fxcheck_size, PySem.W.mg_of X G axcheck_size, Fxcheck_size.binds (ps := ["code"]) fun _ _ _ _ _ _ us hl => match us, hl with | [_], _ => rfl⟩
  have Dx_law_stream : Dn K mg "_law_stream" s_l_stream ["_law_script", "_law_k"] fx_law_stream fdx_law_stream := ⟨Fx_law_stream, PySem.W.mg_of X G ax_law_stream, Fx_law_stream.binds (ps := ["_law_script", "_law_k"]) fun _ _ _ _ _ _ us hl => match us, hl with | [_, _], _ => rfl⟩
  have Dx_law_draw : Dn K mg "_law_draw" s_l_draw ["_law_stream_here", "_law_count"] fx_law_draw fdx_law_draw := ⟨Fx_law_draw, PySem.W.mg_of X G ax_law_draw, Fx_law_draw.binds (ps := ["_law_stream_here", "_law_count"]) fun _ _ _ _ _ _ us hl => match us, hl with | [_, _], _ => rfl⟩
  have Dx_law_choose : Dn K mg "_law_choose" s_l_choose ["_law_stream_here", "_law_items"] fx_law_choose fdx_law_choose := ⟨Fx_law_choose, PySem.W.mg_of X G ax_law_choose, Fx_law_choose.binds (ps := ["_law_stream_here", "_law_items"]) fun _ _ _ _ _ _ us hl => match us, hl with | [_, _], _ => rfl⟩
  have Dx_law_sum : Dn K mg "_law_sum" s_l_sum ["_law_stream_here", "_law_names"] fx_law_sum fdx_law_sum := ⟨Fx_law_sum, PySem.W.mg_of X G ax_law_sum, Fx_law_sum.binds (ps := ["_law_stream_here", "_law_names"]) fun _ _ _ _ _ _ us hl => match us, hl with | [_, _], _ => rfl⟩
  have Dx_law_expression : Dn K mg "_law_expression" s_l_expression ["_law_stream_here", "_law_names"] fx_law_expression fdx_law_expression := ⟨Fx_law_expression, PySem.W.mg_of X G ax_law_expression, Fx_law_expression.binds (ps := ["_law_stream_here", "_law_names"]) fun _ _ _ _ _ _ us hl => match us, hl with | [_, _], _ => rfl⟩
  have Dx_law_statement : Dn K mg "_law_statement" s_l_statement ["_law_stream_here", "_law_names", "_law_called", "_law_depth"] fx_law_statement fdx_law_statement := ⟨Fx_law_statement, PySem.W.mg_of X G ax_law_statement, Fx_law_statement.binds (ps := ["_law_stream_here", "_law_names", "_law_called", "_law_depth"]) fun _ _ _ _ _ _ us hl => match us, hl with | [_, _, _, _], _ => rfl⟩
  have Dx_law_block : Dn K mg "_law_block" s_l_block ["_law_stream_here", "_law_names", "_law_called", "_law_depth"] fx_law_block fdx_law_block := ⟨Fx_law_block, PySem.W.mg_of X G ax_law_block, Fx_law_block.binds (ps := ["_law_stream_here", "_law_names", "_law_called", "_law_depth"]) fun _ _ _ _ _ _ us hl => match us, hl with | [_, _, _, _], _ => rfl⟩
  have Dx_law_parts : Dn K mg "_law_parts" s_l_parts ["_law_stream_here"] fx_law_parts fdx_law_parts := ⟨Fx_law_parts, PySem.W.mg_of X G ax_law_parts, Fx_law_parts.binds (ps := ["_law_stream_here"]) fun _ _ _ _ _ _ us hl => match us, hl with | [_], _ => rfl⟩
  have Dx_law_code_of : Dn K mg "_law_code_of" s_l_code_of ["_law_block_here", "_law_start"] fx_law_code_of fdx_law_code_of := ⟨Fx_law_code_of, PySem.W.mg_of X G ax_law_code_of, Fx_law_code_of.binds (ps := ["_law_block_here", "_law_start"]) fun _ _ _ _ _ _ us hl => match us, hl with | [_, _], _ => rfl⟩
  have Dx_law_compiled : Dn K mg "_law_compiled" s_l_compiled ["_law_parts_here"] fx_law_compiled fdx_law_compiled := ⟨Fx_law_compiled, PySem.W.mg_of X G ax_law_compiled, Fx_law_compiled.binds (ps := ["_law_parts_here"]) fun _ _ _ _ _ _ us hl => match us, hl with | [_], _ => rfl⟩
  have Dx_law_is_small : Dn K mg "_law_is_small" s_l_is_small ["_law_parts_here"] fx_law_is_small fdx_law_is_small := ⟨Fx_law_is_small, PySem.W.mg_of X G ax_law_is_small, Fx_law_is_small.binds (ps := ["_law_parts_here"]) fun _ _ _ _ _ _ us hl => match us, hl with | [_], _ => rfl⟩
  have Dx_law_drawn : Dn K mg "_law_drawn" s_l_drawn ["_law_stream_here"] fx_law_drawn fdx_law_drawn := ⟨Fx_law_drawn, PySem.W.mg_of X G ax_law_drawn, Fx_law_drawn.binds (ps := ["_law_stream_here"]) fun _ _ _ _ _ _ us hl => match us, hl with | [_], _ => rfl⟩
  have Dx_law_told : Dn K mg "_law_told" s_l_told ["_law_given", "_law_variables", "_law_procedures", "_law_main"] fx_law_told fdx_law_told := ⟨Fx_law_told, PySem.W.mg_of X G ax_law_told, Fx_law_told.binds (ps := ["_law_given", "_law_variables", "_law_procedures", "_law_main"]) fun _ _ _ _ _ _ us hl => match us, hl with | [_, _, _, _], _ => rfl⟩
  have Dx_law_statements : Dn K mg "_law_statements" s_l_statements ["_law_name", "_law_procedure"] fx_law_statements fdx_law_statements := ⟨Fx_law_statements, PySem.W.mg_of X G ax_law_statements, Fx_law_statements.binds (ps := ["_law_name", "_law_procedure"]) fun _ _ _ _ _ _ us hl => match us, hl with | [_, _], _ => rfl⟩
  have Dx_law_parts_hold : Dn K mg "_law_parts_hold" s_l_parts_hold ["_law_parts_here"] fx_law_parts_hold fdx_law_parts_hold := ⟨Fx_law_parts_hold, PySem.W.mg_of X G ax_law_parts_hold, Fx_law_parts_hold.binds (ps := ["_law_parts_here"]) fun _ _ _ _ _ _ us hl => match us, hl with | [_], _ => rfl⟩
  have Dx_law_statements_hold : Dn K mg "_law_statements_hold" s_l_statements_hold ["_law_parts_here"] fx_law_statements_hold fdx_law_statements_hold := ⟨Fx_law_statements_hold, PySem.W.mg_of X G ax_law_statements_hold, Fx_law_statements_hold.binds (ps := ["_law_parts_here"]) fun _ _ _ _ _ _ us hl => match us, hl with | [_], _ => rfl⟩
  have Dx_law_limits_hold : Dn K mg "_law_limits_hold" s_l_limits_hold ["_law_name"] fx_law_limits_hold fdx_law_limits_hold := ⟨Fx_law_limits_hold, PySem.W.mg_of X G ax_law_limits_hold, Fx_law_limits_hold.binds (ps := ["_law_name"]) fun _ _ _ _ _ _ us hl => match us, hl with | [_], _ => rfl⟩
  have FB : FunD K "is_block" "is_block" (defArgs s_is_block) (defBody s_is_block) (defScope s_is_block) [V.int 1] [] fB (PySem.W.fnOf "is_block" "is_block" (defArgs s_is_block) (defBody s_is_block) (defScope s_is_block) (.ref TD) kVB dcB pmB anB cdB ctB) := ⟨⟨ocB, odB, .ref TD, kVB, dcB, pmB, anB, cdB, ctB, slB, rfl, lB, cB, .inr ⟨by simp, TD, oT, [.int 1 t0], nT, rfl, lT, dT, .cons ⟨t0, rfl⟩ .nil⟩, .inl rfl⟩, kB⟩
  obtain ⟨dsB, v3B, b3B⟩ := FunD.binds1 (ps := ["candidate", "names", "procedures", "depth"]) FB 3 0 (by simp) rfl fun _ _ _ _ _ _ _ us its hl hi => match us, its, hl, hi with | [_, _, _], [_], _, _ => ⟨_, rfl, rfl⟩
  have b4B : Binds K (PySem.W.fnOf "is_block" "is_block" (defArgs s_is_block) (defBody s_is_block) (defScope s_is_block) (.ref TD) kVB dcB pmB anB cdB ctB) ["candidate", "names", "procedures", "depth"] [] := by
    obtain ⟨ds, rv, hb⟩ := FunD.binds1 (ps := ["candidate", "names", "procedures", "depth"]) FB 4 1 (by simp) rfl fun _ _ _ _ _ _ _ us its hl hi => match us, its, hl, hi with | [_, _, _, _], [_], _, _ => ⟨_, rfl, rfl⟩
    cases rv
    exact hb
  have bMi := FMi.binds (ps := ["self", "given", "variables", "procedures", "main"]) fun _ _ _ _ _ _ us hl => match us, hl with | [_, _, _, _, _], _ => rfl
  have bMe := FMe.binds (ps := ["self", "other"]) fun _ _ _ _ _ _ us hl => match us, hl with | [_, _], _ => rfl
  have bPgiven := FPgiven.binds (ps := ["self"]) fun _ _ _ _ _ _ us hl => match us, hl with | [_], _ => rfl
  have bPvariables := FPvariables.binds (ps := ["self"]) fun _ _ _ _ _ _ us hl => match us, hl with | [_], _ => rfl
  have bPprocedures := FPprocedures.binds (ps := ["self"]) fun _ _ _ _ _ _ us hl => match us, hl with | [_], _ => rfl
  have bPmain := FPmain.binds (ps := ["self"]) fun _ _ _ _ _ _ us hl => match us, hl with | [_], _ => rfl
  have bPnames := FPnames.binds (ps := ["self"]) fun _ _ _ _ _ _ us hl => match us, hl with | [_], _ => rfl
  have bPcode := FPcode.binds (ps := ["self"]) fun _ _ _ _ _ _ us hl => match us, hl with | [_], _ => rfl
  have EInvalidProgram : Txt_InvalidProgram K mg CInvalidProgram iInvalidProgram := { gC := PySem.W.mg_of X G egInvalidProgram, cls := ⟨nmInvalidProgram, qInvalidProgram, NInvalidProgram, bsInvalidProgram, _, snInvalidProgram, subInvalidProgram, abInvalidProgram, colInvalidProgram, ddInvalidProgram, m0InvalidProgram, m1InvalidProgram, m2InvalidProgram, m3InvalidProgram, m5InvalidProgram, elInvalidProgram, (bm_value.ref MInvalidProgramTapeError)⟩, sa := esInvalidProgram, ga := eaInvalidProgram, gg := etInvalidProgram, noN := enInvalidProgram, iC := eiInvalidProgram, tC := eyInvalidProgram, kC := ekInvalidProgram, exC := ebInvalidProgram, tyC := epInvalidProgram, hdC := ehInvalidProgram, te := exm_self ebInvalidProgram euInvalidProgram epInvalidProgram evInvalidProgram, kcls := ewInvalidProgram, kget := exInvalidProgram, ktak := ezInvalidProgram, kmro := emInvalidProgram, fn := ⟨_, _, _, _, _, _, _, _, _, _, _, _, _, _, efInvalidProgram, ecInvalidProgram⟩ }
  have DL : Dn K mg "law" s_law ["_law_script"] fa fdxlaw := ⟨Fxlaw, PySem.W.mg_of X G axlaw, Fxlaw.binds (ps := ["_law_script"]) fun _ _ _ _ _ _ us hl => match us, hl with | [_], _ => rfl⟩
  let TP : PgF K mg := {
    m_isinstance := m_isinstance
    m_int := m_int
    m_bool := m_bool
    m_str := m_str
    m_tuple := m_tuple
    m_len := m_len
    m_all := m_all
    m_set := m_set
    m_sorted := m_sorted
    m_gcd := PySem.W.mg_of X G gGcd
    t_SHORT_BOUND := tSHORT_BOUND
    c_SHORT_BOUND := by rw [← eSHORT_BOUND]; exact PySem.W.mg_of X G cSHORT_BOUND
    t_MAX_LETTERS := tMAX_LETTERS
    c_MAX_LETTERS := by rw [← eMAX_LETTERS]; exact PySem.W.mg_of X G cMAX_LETTERS
    t_MAX_DEPTH := tMAX_DEPTH
    c_MAX_DEPTH := by rw [← eMAX_DEPTH]; exact PySem.W.mg_of X G cMAX_DEPTH
    t_MAX_PROCEDURES := tMAX_PROCEDURES
    c_MAX_PROCEDURES := by rw [← eMAX_PROCEDURES]; exact PySem.W.mg_of X G cMAX_PROCEDURES
    t_MAX_NAMES := tMAX_NAMES
    c_MAX_NAMES := by rw [← eMAX_NAMES]; exact PySem.W.mg_of X G cMAX_NAMES
    t_MAX_CODE := tMAX_CODE
    c_MAX_CODE := by rw [← eMAX_CODE]; exact PySem.W.mg_of X G cMAX_CODE
    t_MAX_CALLS := tMAX_CALLS
    c_MAX_CALLS := by rw [← eMAX_CALLS]; exact PySem.W.mg_of X G cMAX_CALLS
    a_WORDS := aWORDS
    g_WORDS := PySem.W.mg_of X G gWORDS
    w_WORDS := fun H => .inr ⟨oWORDS, itsWORDS, nWORDS, lWORDS, sWORDS, dWORDS, by rw [← Array.length_toList, ← vWORDS.length, List.length_map]; exact small (by decide), vWORDS⟩
    a_PAIRS := aPAIRS
    g_PAIRS := PySem.W.mg_of X G gPAIRS
    w_PAIRS := fun H => .inr ⟨oPAIRS, itsPAIRS, nPAIRS, lPAIRS, sPAIRS, dPAIRS, by rw [← Array.length_toList, ← vPAIRS.length, List.length_map]; exact small (by decide), vPAIRS⟩
    a_COMPOUND := aCOMPOUND
    g_COMPOUND := PySem.W.mg_of X G gCOMPOUND
    w_COMPOUND := fun H => .inr ⟨oCOMPOUND, itsCOMPOUND, nCOMPOUND, lCOMPOUND, sCOMPOUND, dCOMPOUND, by rw [← Array.length_toList, ← vCOMPOUND.length, List.length_map]; exact small (by decide), vCOMPOUND⟩
    f_is_integer := fxis_integer
    fd_is_integer := fdxis_integer
    D_is_integer := Dxis_integer
    f_is_short := fxis_short
    fd_is_short := fdxis_short
    D_is_short := Dxis_short
    f_common_divisor := fxcommon_divisor
    fd_common_divisor := fdxcommon_divisor
    D_common_divisor := Dxcommon_divisor
    f_is_name := fxis_name
    fd_is_name := fdxis_name
    D_is_name := Dxis_name
    f_are_names := fxare_names
    fd_are_names := fdxare_names
    D_are_names := Dxare_names
    f_is_term := fxis_term
    fd_is_term := fdxis_term
    D_is_term := Dxis_term
    f_are_terms := fxare_terms
    fd_are_terms := fdxare_terms
    D_are_terms := Dxare_terms
    f_sum_numbers := fxsum_numbers
    fd_sum_numbers := fdxsum_numbers
    D_sum_numbers := Dxsum_numbers
    f_is_long_sum := fxis_long_sum
    fd_is_long_sum := fdxis_long_sum
    D_is_long_sum := Dxis_long_sum
    f_is_sum := fxis_sum
    fd_is_sum := fdxis_sum
    D_is_sum := Dxis_sum
    f_is_expression := fxis_expression
    fd_is_expression := fdxis_expression
    D_is_expression := Dxis_expression
    f_is_statement := fxis_statement
    fd_is_statement := fdxis_statement
    D_is_statement := Dxis_statement
    f_is_writing := fxis_writing
    fd_is_writing := fdxis_writing
    D_is_writing := Dxis_writing
    f_is_compound := fxis_compound
    fd_is_compound := fdxis_compound
    D_is_compound := Dxis_compound
    f_are_procedures := fxare_procedures
    fd_are_procedures := fdxare_procedures
    D_are_procedures := Dxare_procedures
    f_block_code := fxblock_code
    fd_block_code := fdxblock_code
    D_block_code := Dxblock_code
    f_statement_code := fxstatement_code
    fd_statement_code := fdxstatement_code
    D_statement_code := Dxstatement_code
    f_if_code := fxif_code
    fd_if_code := fdxif_code
    D_if_code := Dxif_code
    f_while_code := fxwhile_code
    fd_while_code := fdxwhile_code
    D_while_code := Dxwhile_code
    f_repeat_code := fxrepeat_code
    fd_repeat_code := fdxrepeat_code
    D_repeat_code := Dxrepeat_code
    f_program_code := fxprogram_code
    fd_program_code := fdxprogram_code
    D_program_code := Dxprogram_code
    f_check_names := fxcheck_names
    fd_check_names := fdxcheck_names
    D_check_names := Dxcheck_names
    f_check_blocks := fxcheck_blocks
    fd_check_blocks := fdxcheck_blocks
    D_check_blocks := Dxcheck_blocks
    f_check_size := fxcheck_size
    fd_check_size := fdxcheck_size
    D_check_size := Dxcheck_size
    f_is_block := fB
    fd_is_block := (PySem.W.fnOf "is_block" "is_block" (defArgs s_is_block) (defBody s_is_block) (defScope s_is_block) (.ref TD) kVB dcB pmB anB cdB ctB)
    F_is_block := FB
    g_is_block := PySem.W.mg_of X G aB
    b4_is_block := b4B
    ds_is_block := dsB
    v3_is_block := v3B
    b3_is_block := b3B }
  let T : LwF K mg := {
    m_isinstance := m_isinstance
    m_int := m_int
    m_bool := m_bool
    m_tuple := m_tuple
    m_len := m_len
    m_all := m_all
    m_sorted := m_sorted
    m_max := m_max
    m_min := m_min
    m_range := m_range
    m_list := m_list
    m_str := m_str
    m_set := m_set
    f__law_stream := fx_law_stream
    fd__law_stream := fdx_law_stream
    D__law_stream := Dx_law_stream
    f__law_draw := fx_law_draw
    fd__law_draw := fdx_law_draw
    D__law_draw := Dx_law_draw
    f__law_choose := fx_law_choose
    fd__law_choose := fdx_law_choose
    D__law_choose := Dx_law_choose
    f__law_sum := fx_law_sum
    fd__law_sum := fdx_law_sum
    D__law_sum := Dx_law_sum
    f__law_expression := fx_law_expression
    fd__law_expression := fdx_law_expression
    D__law_expression := Dx_law_expression
    f__law_statement := fx_law_statement
    fd__law_statement := fdx_law_statement
    D__law_statement := Dx_law_statement
    f__law_block := fx_law_block
    fd__law_block := fdx_law_block
    D__law_block := Dx_law_block
    f__law_parts := fx_law_parts
    fd__law_parts := fdx_law_parts
    D__law_parts := Dx_law_parts
    f__law_code_of := fx_law_code_of
    fd__law_code_of := fdx_law_code_of
    D__law_code_of := Dx_law_code_of
    f__law_compiled := fx_law_compiled
    fd__law_compiled := fdx_law_compiled
    D__law_compiled := Dx_law_compiled
    f__law_is_small := fx_law_is_small
    fd__law_is_small := fdx_law_is_small
    D__law_is_small := Dx_law_is_small
    f__law_drawn := fx_law_drawn
    fd__law_drawn := fdx_law_drawn
    D__law_drawn := Dx_law_drawn }
  let CC : PgC K mg := {
    C := C
    g := PySem.W.mg_of X G aC
    cl := ⟨pg, hd, po, sa⟩
    is := ⟨ha, hn, ht, hm⟩
    n_code := n_code
    n_entries := n_entries
    n_given := n_given
    n_variables := n_variables
    n_procedures := n_procedures
    n_main := n_main
    f_init := fMi
    fd_init := fdMi
    M := ⟨mk, atMi, isMi, kc⟩
    F_init := FMi
    b_init := bMi
    f_eq := fMe
    fd_eq := fdMe
    F_eq := FMe
    b_eq := bMe
    a_eq := atMe
    i_eq := isMe
    a_ne := aNe
    p_given := pPgiven
    f_given := fPgiven
    fd_given := fdPgiven
    P_given := ⟨aPgiven, gtPgiven, tkPgiven, rcPgiven⟩
    F_given := FPgiven
    b_given := bPgiven
    p_variables := pPvariables
    f_variables := fPvariables
    fd_variables := fdPvariables
    P_variables := ⟨aPvariables, gtPvariables, tkPvariables, rcPvariables⟩
    F_variables := FPvariables
    b_variables := bPvariables
    p_procedures := pPprocedures
    f_procedures := fPprocedures
    fd_procedures := fdPprocedures
    P_procedures := ⟨aPprocedures, gtPprocedures, tkPprocedures, rcPprocedures⟩
    F_procedures := FPprocedures
    b_procedures := bPprocedures
    p_main := pPmain
    f_main := fPmain
    fd_main := fdPmain
    P_main := ⟨aPmain, gtPmain, tkPmain, rcPmain⟩
    F_main := FPmain
    b_main := bPmain
    p_names := pPnames
    f_names := fPnames
    fd_names := fdPnames
    P_names := ⟨aPnames, gtPnames, tkPnames, rcPnames⟩
    F_names := FPnames
    b_names := bPnames
    p_code := pPcode
    f_code := fPcode
    fd_code := fdPcode
    P_code := ⟨aPcode, gtPcode, tkPcode, rcPcode⟩
    F_code := FPcode
    b_code := bPcode }
  obtain ⟨oc, od, kV, doc, pm, an, cdv, ct, osl, rfl, _, _⟩ := id Fxlaw.ex
  refine ⟨PySem.W.fnOf "law" "law" (defArgs s_law) (defBody s_law) (defScope s_law) .none kV doc pm an cdv ct, fun s v => .of_eq rfl, fun base _ _ => ?_⟩
  let U : PgI K mg := { U := CInvalidProgram, fU := iInvalidProgram, X := EInvalidProgram }
  let TV : LxF K mg := { toLwF := T, m_ValueError := m_ValueError, f__law_told := fx_law_told, fd__law_told := fdx_law_told, D__law_told := Dx_law_told, f__law_statements := fx_law_statements, fd__law_statements := fdx_law_statements, D__law_statements := Dx_law_statements, f__law_parts_hold := fx_law_parts_hold, fd__law_parts_hold := fdx_law_parts_hold, D__law_parts_hold := Dx_law_parts_hold, f__law_statements_hold := fx_law_statements_hold, fd__law_statements_hold := fdx_law_statements_hold, D__law_statements_hold := Dx_law_statements_hold, f__law_limits_hold := fx_law_limits_hold, fd__law_limits_hold := fdx_law_limits_hold, D__law_limits_hold := Dx_law_limits_hold }
  exact ok_law DL TP CC U ⟨kit_builtin (by decide +kernel) kkU⟩ TV
end Sp1

set_option Elab.async false
set_option linter.all false
set_option maxRecDepth 100000
open PySem PySem.W PyProof.Rows in
set_option maxRecDepth 100000 in
set_option maxHeartbeats 0 in
theorem PySem.Challenge.cw_frugaltape_k52_invalid_programs_holds : PySem.Challenge.rw_frugaltape_k52_invalid_programs.Holds := by
  w_on; o_law; k_head; (case hw => w_witness2)
  k_fill
  refine L2.walk_of (l := PySem.Challenge.rw_frugaltape_k52_invalid_programs) (n := 63) (k := 38) (x := "_law_script") (CX := fun _ => L2.CX0) (sp := fun w => Sp1.sp_law _) rfl (by decide) rfl ⟨rfl, by decide, by decide⟩ (fun w h Y => PySem.W.kIn_of Y) ?F (fun _ _ a ns hl _ hS => ⟨a, ns, rfl, hS, hl, fun _ => rfl⟩) fun _ _ _ _ _ z => z
  case F =>
    intro w mg fa h KX G hmg
    refine' Sp1.all_mk KX G hmg ?axis_integer ?Fxis_integer ?axis_short ?Fxis_short ?axcommon_divisor ?Fxcommon_divisor ?axis_name ?Fxis_name ?axare_names ?Fxare_names ?axis_term ?Fxis_term ?axare_terms ?Fxare_terms ?axsum_numbers ?Fxsum_numbers ?axis_long_sum ?Fxis_long_sum ?axis_sum ?Fxis_sum ?axis_expression ?Fxis_expression ?axis_statement ?Fxis_statement ?axis_writing ?Fxis_writing ?axis_compound ?Fxis_compound ?axare_procedures ?Fxare_procedures ?axblock_code ?Fxblock_code ?axstatement_code ?Fxstatement_code ?axif_code ?Fxif_code ?axwhile_code ?Fxwhile_code ?axrepeat_code ?Fxrepeat_code ?axprogram_code ?Fxprogram_code ?axcheck_names ?Fxcheck_names ?axcheck_blocks ?Fxcheck_blocks ?axcheck_size ?Fxcheck_size ?ax_law_stream ?Fx_law_stream ?ax_law_draw ?Fx_law_draw ?ax_law_choose ?Fx_law_choose ?ax_law_sum ?Fx_law_sum ?ax_law_expression ?Fx_law_expression ?ax_law_statement ?Fx_law_statement ?ax_law_block ?Fx_law_block ?ax_law_parts ?Fx_law_parts ?ax_law_code_of ?Fx_law_code_of ?ax_law_compiled ?Fx_law_compiled ?ax_law_is_small ?Fx_law_is_small ?ax_law_drawn ?Fx_law_drawn ?ax_law_told ?Fx_law_told ?ax_law_statements ?Fx_law_statements ?ax_law_parts_hold ?Fx_law_parts_hold ?ax_law_statements_hold ?Fx_law_statements_hold ?ax_law_limits_hold ?Fx_law_limits_hold ?axlaw ?Fxlaw ?aB ?lB ?cB ?kB ?lT ?dT ?gGcd ?cSHORT_BOUND ?eSHORT_BOUND ?cMAX_LETTERS ?eMAX_LETTERS ?cMAX_DEPTH ?eMAX_DEPTH ?cMAX_PROCEDURES ?eMAX_PROCEDURES ?cMAX_NAMES ?eMAX_NAMES ?cMAX_CODE ?eMAX_CODE ?cMAX_CALLS ?eMAX_CALLS ?gWORDS ?lWORDS ?sWORDS ?dWORDS ?vWORDS ?gPAIRS ?lPAIRS ?sPAIRS ?dPAIRS ?vPAIRS ?gCOMPOUND ?lCOMPOUND ?sCOMPOUND ?dCOMPOUND ?vCOMPOUND ?aC ?pg ?hd ?po ?sa ?mk ?kc ?ha ?hn ?ht ?hm ?aNe ?n_code ?n_entries ?n_given ?n_variables ?n_procedures ?n_main ?atMi ?isMi ?FMi ?atMe ?isMe ?FMe ?aPgiven ?gtPgiven ?tkPgiven ?rcPgiven ?FPgiven ?aPvariables ?gtPvariables ?tkPvariables ?rcPvariables ?FPvariables ?aPprocedures ?gtPprocedures ?tkPprocedures ?rcPprocedures ?FPprocedures ?aPmain ?gtPmain ?tkPmain ?rcPmain ?FPmain ?aPnames ?gtPnames ?tkPnames ?rcPnames ?FPnames ?aPcode ?gtPcode ?tkPcode ?rcPcode ?FPcode ?egInvalidProgram ?elInvalidProgram ?esInvalidProgram ?eaInvalidProgram ?etInvalidProgram ?enInvalidProgram ?eiInvalidProgram ?eyInvalidProgram ?efInvalidProgram ?ecInvalidProgram ?ekInvalidProgram ?ebInvalidProgram ?epInvalidProgram ?ehInvalidProgram ?euInvalidProgram ?evInvalidProgram ?ewInvalidProgram ?exInvalidProgram ?ezInvalidProgram ?emInvalidProgram ?kkU ?z_isinstance ?z_int ?z_bool ?z_str ?z_tuple ?z_len ?z_all ?z_set ?z_sorted ?z_max ?z_min ?z_range ?z_list ?z_ValueError
    (case axis_integer => k_is)
    (case Fxis_integer => exact L2.fun_mk (by k_is) (by k_is) (by k_is))
    (case axis_short => k_is)
    (case Fxis_short => exact L2.fun_mk (by k_is) (by k_is) (by k_is))
    (case axcommon_divisor => k_is)
    (case Fxcommon_divisor => exact L2.fun_mk (by k_is) (by k_is) (by k_is))
    (case axis_name => k_is)
    (case Fxis_name => exact L2.fun_mk (by k_is) (by k_is) (by k_is))
    (case axare_names => k_is)
    (case Fxare_names => exact L2.fun_mk (by k_is) (by k_is) (by k_is))
    (case axis_term => k_is)
    (case Fxis_term => exact L2.fun_mk (by k_is) (by k_is) (by k_is))
    (case axare_terms => k_is)
    (case Fxare_terms => exact L2.fun_mk (by k_is) (by k_is) (by k_is))
    (case axsum_numbers => k_is)
    (case Fxsum_numbers => exact L2.fun_mk (by k_is) (by k_is) (by k_is))
    (case axis_long_sum => k_is)
    (case Fxis_long_sum => exact L2.fun_mk (by k_is) (by k_is) (by k_is))
    (case axis_sum => k_is)
    (case Fxis_sum => exact L2.fun_mk (by k_is) (by k_is) (by k_is))
    (case axis_expression => k_is)
    (case Fxis_expression => exact L2.fun_mk (by k_is) (by k_is) (by k_is))
    (case axis_statement => k_is)
    (case Fxis_statement => exact L2.fun_mk (by k_is) (by k_is) (by k_is))
    (case axis_writing => k_is)
    (case Fxis_writing => exact L2.fun_mk (by k_is) (by k_is) (by k_is))
    (case axis_compound => k_is)
    (case Fxis_compound => exact L2.fun_mk (by k_is) (by k_is) (by k_is))
    (case axare_procedures => k_is)
    (case Fxare_procedures => exact L2.fun_mk (by k_is) (by k_is) (by k_is))
    (case axblock_code => k_is)
    (case Fxblock_code => exact L2.fun_mk (by k_is) (by k_is) (by k_is))
    (case axstatement_code => k_is)
    (case Fxstatement_code => exact L2.fun_mk (by k_is) (by k_is) (by k_is))
    (case axif_code => k_is)
    (case Fxif_code => exact L2.fun_mk (by k_is) (by k_is) (by k_is))
    (case axwhile_code => k_is)
    (case Fxwhile_code => exact L2.fun_mk (by k_is) (by k_is) (by k_is))
    (case axrepeat_code => k_is)
    (case Fxrepeat_code => exact L2.fun_mk (by k_is) (by k_is) (by k_is))
    (case axprogram_code => k_is)
    (case Fxprogram_code => exact L2.fun_mk (by k_is) (by k_is) (by k_is))
    (case axcheck_names => k_is)
    (case Fxcheck_names => exact L2.fun_mk (by k_is) (by k_is) (by k_is))
    (case axcheck_blocks => k_is)
    (case Fxcheck_blocks => exact L2.fun_mk (by k_is) (by k_is) (by k_is))
    (case axcheck_size => k_is)
    (case Fxcheck_size => exact L2.fun_mk (by k_is) (by k_is) (by k_is))
    (case ax_law_stream => k_is)
    (case Fx_law_stream => exact L2.fun_mk (by k_is) (by k_is) (by k_is))
    (case ax_law_draw => k_is)
    (case Fx_law_draw => exact L2.fun_mk (by k_is) (by k_is) (by k_is))
    (case ax_law_choose => k_is)
    (case Fx_law_choose => exact L2.fun_mk (by k_is) (by k_is) (by k_is))
    (case ax_law_sum => k_is)
    (case Fx_law_sum => exact L2.fun_mk (by k_is) (by k_is) (by k_is))
    (case ax_law_expression => k_is)
    (case Fx_law_expression => exact L2.fun_mk (by k_is) (by k_is) (by k_is))
    (case ax_law_statement => k_is)
    (case Fx_law_statement => exact L2.fun_mk (by k_is) (by k_is) (by k_is))
    (case ax_law_block => k_is)
    (case Fx_law_block => exact L2.fun_mk (by k_is) (by k_is) (by k_is))
    (case ax_law_parts => k_is)
    (case Fx_law_parts => exact L2.fun_mk (by k_is) (by k_is) (by k_is))
    (case ax_law_code_of => k_is)
    (case Fx_law_code_of => exact L2.fun_mk (by k_is) (by k_is) (by k_is))
    (case ax_law_compiled => k_is)
    (case Fx_law_compiled => exact L2.fun_mk (by k_is) (by k_is) (by k_is))
    (case ax_law_is_small => k_is)
    (case Fx_law_is_small => exact L2.fun_mk (by k_is) (by k_is) (by k_is))
    (case ax_law_drawn => k_is)
    (case Fx_law_drawn => exact L2.fun_mk (by k_is) (by k_is) (by k_is))
    (case ax_law_told => k_is)
    (case Fx_law_told => exact L2.fun_mk (by k_is) (by k_is) (by k_is))
    (case ax_law_statements => k_is)
    (case Fx_law_statements => exact L2.fun_mk (by k_is) (by k_is) (by k_is))
    (case ax_law_parts_hold => k_is)
    (case Fx_law_parts_hold => exact L2.fun_mk (by k_is) (by k_is) (by k_is))
    (case ax_law_statements_hold => k_is)
    (case Fx_law_statements_hold => exact L2.fun_mk (by k_is) (by k_is) (by k_is))
    (case ax_law_limits_hold => k_is)
    (case Fx_law_limits_hold => exact L2.fun_mk (by k_is) (by k_is) (by k_is))
    (case axlaw => k_is)
    (case Fxlaw => exact L2.fun_mk (by k_is) (by k_is) (by k_is))
    (case aB => k_is)
    (case lB => k_is)
    (case cB => k_is)
    (case kB => k_is)
    (case lT => k_is)
    (case dT => rfl)
    (case gGcd => k_is)
    (case cSHORT_BOUND => k_is)
    (case eSHORT_BOUND => (first | rfl | decide +kernel))
    (case cMAX_LETTERS => k_is)
    (case eMAX_LETTERS => (first | rfl | decide +kernel))
    (case cMAX_DEPTH => k_is)
    (case eMAX_DEPTH => (first | rfl | decide +kernel))
    (case cMAX_PROCEDURES => k_is)
    (case eMAX_PROCEDURES => (first | rfl | decide +kernel))
    (case cMAX_NAMES => k_is)
    (case eMAX_NAMES => (first | rfl | decide +kernel))
    (case cMAX_CODE => k_is)
    (case eMAX_CODE => (first | rfl | decide +kernel))
    (case cMAX_CALLS => k_is)
    (case eMAX_CALLS => (first | rfl | decide +kernel))
    (case gWORDS => k_is)
    (case lWORDS => k_is)
    (case sWORDS => rfl)
    (case dWORDS => rfl)
    (case vWORDS => (repeat (first | exact .nil | refine .cons ⟨_, rfl⟩ ?_)))
    (case gPAIRS => k_is)
    (case lPAIRS => k_is)
    (case sPAIRS => rfl)
    (case dPAIRS => rfl)
    (case vPAIRS => (repeat (first | exact .nil | refine .cons ⟨_, rfl⟩ ?_)))
    (case gCOMPOUND => k_is)
    (case lCOMPOUND => k_is)
    (case sCOMPOUND => rfl)
    (case dCOMPOUND => rfl)
    (case vCOMPOUND => (repeat (first | exact .nil | refine .cons ⟨_, rfl⟩ ?_)))
    (case aC => k_is)
    (case pg => k_is)
    (case hd => k_is)
    (case po => k_is)
    (case sa => k_is)
    (case mk => k_is)
    (case kc => k_is)
    (case ha => k_is)
    (case hn => k_is)
    (case ht => k_is)
    (case hm => k_is)
    (case aNe => k_is)
    (case n_code => k_is)
    (case n_entries => k_is)
    (case n_given => k_is)
    (case n_variables => k_is)
    (case n_procedures => k_is)
    (case n_main => k_is)
    (case atMi => k_is)
    (case isMi => k_is)
    (case FMi => exact L2.fun_mk (by k_is) (by k_is) (by k_is))
    (case atMe => k_is)
    (case isMe => k_is)
    (case FMe => exact L2.fun_mk (by k_is) (by k_is) (by k_is))
    (case aPgiven => k_is)
    (case gtPgiven => k_is)
    (case tkPgiven => k_is)
    (case rcPgiven => exact ⟨_, by k_is⟩)
    (case FPgiven => exact L2.fun_mk (by k_is) (by k_is) (by k_is))
    (case aPvariables => k_is)
    (case gtPvariables => k_is)
    (case tkPvariables => k_is)
    (case rcPvariables => exact ⟨_, by k_is⟩)
    (case FPvariables => exact L2.fun_mk (by k_is) (by k_is) (by k_is))
    (case aPprocedures => k_is)
    (case gtPprocedures => k_is)
    (case tkPprocedures => k_is)
    (case rcPprocedures => exact ⟨_, by k_is⟩)
    (case FPprocedures => exact L2.fun_mk (by k_is) (by k_is) (by k_is))
    (case aPmain => k_is)
    (case gtPmain => k_is)
    (case tkPmain => k_is)
    (case rcPmain => exact ⟨_, by k_is⟩)
    (case FPmain => exact L2.fun_mk (by k_is) (by k_is) (by k_is))
    (case aPnames => k_is)
    (case gtPnames => k_is)
    (case tkPnames => k_is)
    (case rcPnames => exact ⟨_, by k_is⟩)
    (case FPnames => exact L2.fun_mk (by k_is) (by k_is) (by k_is))
    (case aPcode => k_is)
    (case gtPcode => k_is)
    (case tkPcode => k_is)
    (case rcPcode => exact ⟨_, by k_is⟩)
    (case FPcode => exact L2.fun_mk (by k_is) (by k_is) (by k_is))
    (case egInvalidProgram => k_is)
    (case elInvalidProgram => k_is)
    (case esInvalidProgram => k_is)
    (case eaInvalidProgram => k_is)
    (case etInvalidProgram => k_is)
    (case enInvalidProgram => k_is)
    (case eiInvalidProgram => k_is)
    (case eyInvalidProgram => k_is)
    (case efInvalidProgram => k_is)
    (case ecInvalidProgram => k_is)
    (case ekInvalidProgram => k_is)
    (case ebInvalidProgram => k_is)
    (case epInvalidProgram => k_is)
    (case ehInvalidProgram => k_is)
    (case euInvalidProgram => k_is)
    (case evInvalidProgram => (first | rfl | k_is))
    (case ewInvalidProgram => k_is)
    (case exInvalidProgram => k_is)
    (case ezInvalidProgram => k_is)
    (case emInvalidProgram => k_is)
    (case kkU => k_is)
    (case z_isinstance => k_is)
    (case z_int => k_is)
    (case z_bool => k_is)
    (case z_str => k_is)
    (case z_tuple => k_is)
    (case z_len => k_is)
    (case z_all => k_is)
    (case z_set => k_is)
    (case z_sorted => k_is)
    (case z_max => k_is)
    (case z_min => k_is)
    (case z_range => k_is)
    (case z_list => k_is)
    (case z_ValueError => k_is)

