import PyProof.Rows.All
import Wide.All
import OpenK.AllK
import Wide.FinOn
import HandS.ForMost
import HandS.Walk
import HandS.Zip
import HandS.Gcd
import HandS.Wide
import HandS.WideMore
import HandS.Defaults
import HandS.Property
import HandS.Style
import HandS.Star
import HandS.TupAny
import HandS.IsInst
import HandS.Flow
import HandS.EndBits
import HandS.SetFor
import HandS.Strs
import HandS.TryOnly
import HandS.ForExc
import HandS.ExcInit
import HandS.RaiseMore
import KE.SortKeyHeap
import KE.DatumOrd
import KE.DataMinMax
import PySem.Challenge.RW_frugaltape_k82_cheapest_ways
set_option Elab.async false
set_option linter.all false
set_option maxRecDepth 100000
namespace Sp1
open PySem PySem.Spec PyProof.Rows L2
/-- a def of the top: where it stands -/
structure Dn (K : PySem.W.Frag) (mg : Str → Option Value) (name : Str) (st : Stmt) (ps : List Str) (f : Addr) (fd : FuncData) : Prop where
  F : Fun K name name st f fd
  g : mg name = some (.ref f)
  b : Binds K fd ps []
theorem Dn.kp {K : PySem.W.Frag} {mg : Str → Option Value} {name : Str} {st : Stmt} {ps : List Str} {f : Addr} {fd : FuncData} (D : Dn K mg name st ps f fd) : PySem.W.keepIn K (.ref f) = true := D.F.kp
/-! heaps -/
theorem Same.sqt {K : PySem.W.Frag} {H H' : Hp} {a : Addr} {xs : List V} (e : Same H H') (h : SqT K H a xs) : SqT K H' a xs := by
  rcases h with (h | ⟨o, h⟩) | h
  · exact .inl (.inl (e _ _ h))
  · exact .inl (.inr ⟨o, e _ _ h⟩)
  · exact .inr h
theorem same_new {H : Hp} {p : Addr} {o : HO} (h : H p = none) : Same H (upd H p o) := fun b x e => by
  rw [upd_ne (ne_of_none e h)]
  exact e
theorem same_at {H0 H : Hp} {p : Addr} {o : HO} (h0 : H0 p = none) (s : Same H0 H) : Same H0 (upd H p o) := fun b x e => by
  rw [upd_ne (ne_of_none e h0)]
  exact s b x e
theorem pe_ty {X : Cx} {x : Str} {n : String} {pos : Pos} (hg : Gl X x) (hm : X.mg x = none) (hb : bootBuiltins x = some (.type n)) (hn : x ≠ "__name__" := by decide) (hd : (x == ("__debug__" : Str)) = false := by decide) : PE X (.Name x pos) (tC (.ty n)) := pe_bltn hg hm hb rfl hn hd
/-! tuples stay -/
def TK (H H' : Hp) : Prop := (∀ b xs, H b = some (.tup xs) → H' b = some (.tup xs)) ∧ ∀ b o u, H b = some (.frz o u) → H' b = some (.frz o u)
theorem TK.refl (H : Hp) : TK H H := ⟨fun _ _ h => h, fun _ _ _ h => h⟩
theorem TK.trans {H H1 H2 : Hp} (a : TK H H1) (b : TK H1 H2) : TK H H2 := ⟨fun c xs h => b.1 c xs (a.1 c xs h), fun c o u h => b.2 c o u (a.2 c o u h)⟩
theorem Same.tk {H H' : Hp} (s : Same H H') : TK H H' := ⟨fun b xs h => s b _ h, fun b o u h => s b _ h⟩
theorem tk_lst {H : Hp} {D : Addr} {xs : List V} {o : HO} (h : H D = some (.lst xs)) : TK H (upd H D o) := ⟨fun b ys e => by rw [upd_ne (ne_of e h (by intro z; cases z))]; exact e, fun b ob u e => by rw [upd_ne (ne_of e h (by intro z; cases z))]; exact e⟩
theorem TK.sqt {K : PySem.W.Frag} {H H' : Hp} {a : Addr} {xs : List V} (e : TK H H') (h : SqT K H a xs) : SqT K H' a xs := by
  rcases h with (h | ⟨o, h⟩) | h
  · exact .inl (.inl (e.1 _ _ h))
  · exact .inl (.inr ⟨o, e.2 _ _ _ h⟩)
  · exact .inr h
/-- all but p stands as it stood -/
def SX (p : Addr) (H H' : Hp) : Prop := ∀ b o, b ≠ p → H b = some o → H' b = some o
theorem SX.refl (p : Addr) (H : Hp) : SX p H H := fun _ _ _ h => h
theorem SX.trans {p : Addr} {H H1 H2 : Hp} (a : SX p H H1) (b : SX p H1 H2) : SX p H H2 := fun c o hc h => b c o hc (a c o hc h)
theorem Same.sx {p : Addr} {H H' : Hp} (s : Same H H') : SX p H H' := fun b o _ h => s b o h
theorem SX.new {p q : Addr} {H H' : Hp} {o : HO} (a : SX p H H') (n : H q = none) : SX p H (upd H' q o) := fun b u hb e => by
  rw [upd_ne (ne_of_none e n)]
  exact a b u hb e
theorem sx_put {r : Addr} {H : Hp} {o : HO} : SX r H (upd H r o) := fun b u hb e => by rw [upd_ne hb]; exact e
theorem Same.free {H H' : Hp} {p : Addr} (s : Same H H') (n : H' p = none) : H p = none := by
  cases e : H p with
  | none => rfl
  | some o =>
    rw [s _ _ e] at n
    cases n
theorem SX.free {p q : Addr} {H H' : Hp} (s : SX p H H') (hq : q ≠ p) (n : H' q = none) : H q = none := by
  cases e : H q with
  | none => rfl
  | some o =>
    rw [s _ _ hq e] at n
    cases n
/-- a place of two ints, the second below a bound -/
def PoolAt (H : Hp) (p : Addr) : Prop := ∃ a b : Int, H p = some (.lst [.int a, .int b]) ∧ 0 ≤ a ∧ 0 ≤ b ∧ b < 2147483647
theorem PoolAt.lst {H : Hp} {p : Addr} (h : PoolAt H p) : ∃ xs, H p = some (.lst xs) := by
  obtain ⟨a, b, h, _⟩ := h
  exact ⟨_, h⟩
theorem PoolAt.new {H : Hp} {p q : Addr} {o : HO} (h : PoolAt H p) (n : H q = none) : PoolAt (upd H q o) p := by
  obtain ⟨a, b, e, r⟩ := h
  exact ⟨a, b, by rw [upd_ne (ne_of_none e n)]; exact e, r⟩
theorem PoolAt.put {H : Hp} {p q : Addr} {o : HO} (h : PoolAt H p) (n : p ≠ q) : PoolAt (upd H q o) p := by
  obtain ⟨a, b, e, r⟩ := h
  exact ⟨a, b, by rw [upd_ne n]; exact e, r⟩
theorem PoolAt.ne {H : Hp} {p q : Addr} (h : PoolAt H p) (n : H q = none) : p ≠ q := by
  obtain ⟨xs, e⟩ := h.lst
  exact ne_of_none e n
theorem PoolAt.same {H H' : Hp} {p : Addr} (h : PoolAt H p) (s : Same H H') : PoolAt H' p := by
  obtain ⟨a, b, e, r⟩ := h
  exact ⟨a, b, s _ _ e, r⟩
theorem small1000 {n : Nat} (h : n ≤ 1000) : n < sizeLine := by rw [sizeLine_eq]; omega
/-! a comprehension's new list: its items known -/
def Acc (H1 : Hp) (D : Addr) (f : Nat → V) (i : Nat) (H : Hp) : Prop := Same H1 H ∧ H D = some (.lst ((List.range i).map f))
theorem Acc.start {H1 : Hp} {D : Addr} {f : Nat → V} (nD : H1 D = none) : Acc H1 D f 0 (upd H1 D (.lst [])) := ⟨same_new nD, upd_same⟩
theorem Acc.turn {H1 H H4 : Hp} {D : Addr} {f : Nat → V} {i : Nat} {y : V} (h : Acc H1 D f i H) (nD : H1 D = none) (s : Same H H4) (hi : i ≤ 1000) (hy : y = f i) :
    ∃ acc, H4 D = some (.lst acc) ∧ acc.length < sizeLine ∧ Acc H1 D f (i + 1) (upd H4 D (.lst (acc ++ [y]))) := by
  refine ⟨_, s _ _ h.2, ?_, same_at nD (h.1.trans s), ?_⟩
  · rw [List.length_map, List.length_range]
    exact small1000 hi
  · rw [upd_same, List.range_succ, List.map_append, hy]
    rfl
theorem int_at {u : List Int} {i : Nat} (h : i < u.length) : (u.map V.int)[i]? = some (.int u[i]) := by
  rw [List.getElem?_map, List.getElem?_eq_getElem h]
  rfl
theorem int_of {u : List Int} {i : Nat} {x : V} (h : (u.map V.int)[i]? = some x) : ∃ hi : i < u.length, x = .int u[i] := by
  have h1 := (List.getElem?_eq_some_iff.mp h).1
  rw [List.length_map] at h1
  rw [int_at h1] at h
  exact ⟨h1, (Option.some.inj h).symm⟩
theorem ixn {n j : Nat} (h : j < n) : ixN n (j : Int) = some j := by
  unfold ixN
  rw [if_pos (Int.natCast_nonneg j), if_pos (by omega)]
  rfl
abbrev rListOf (K : PySem.W.Frag) : List V → Hp → VK → Prop := fun xs H Q => ∃ p ys, xs = [V.ref p] ∧ (SqL K H p ys ∨ SqT K H p ys) ∧ ∀ l, H l = none → Q (V.ref l) (upd H l (.lst ys))
abbrev rLenSq (K : PySem.W.Frag) : List V → Hp → VK → Prop := fun xs H Q => ∃ p ys, xs = [V.ref p] ∧ (SqL K H p ys ∨ SqT K H p ys) ∧ Q (V.int ys.length) H
theorem dp_ints {K : PySem.W.Frag} {H : Hp} : ∀ u : List Int, DpAll K H (u.map V.int) (u.map PyData.int)
  | [] => .nil
  | x :: r => .cons (.int x) (dp_ints r)
theorem lay_ints : ∀ u : List Int, PyData.canLayAll0 (u.map PyData.int) = true ∧ PyData.depthAll (u.map PyData.int) = 0
  | [] => ⟨rfl, rfl⟩
  | x :: r => by
    obtain ⟨h1, h2⟩ := lay_ints r
    constructor
    · show (PyData.canLay0 (.int x) && PyData.canLayAll0 (r.map PyData.int)) = true
      rw [h1]
      rfl
    · show max (PyData.depth (.int x)) (PyData.depthAll (r.map PyData.int)) = 0
      rw [h2]
      rfl
theorem shaped_i (u : List Int) : SeqAt.shaped (.list (u.map PyData.int)) = true := by
  obtain ⟨h1, h2⟩ := lay_ints u
  exact Bool.and_eq_true_iff.mpr ⟨h1, decide_eq_true (by show PyData.depthAll _ + 1 ≤ 64; omega)⟩
theorem eqv_same {d : PyData} (h : SeqAt.shaped d = true) : PyData.eqv d d = true := PySem.SeqAt.eqv_refl _ (Bool.and_eq_true_iff.mp h).1
theorem ne_same {d : PyData} (h : SeqAt.shaped d = true) : (!PyData.eqv d d) = false := by rw [eqv_same h]; rfl
end Sp1

set_option Elab.async false
set_option linter.all false
set_option maxRecDepth 100000
set_option maxHeartbeats 4000000
namespace Sp1
open PySem PySem.Spec PyProof.Rows L2
theorem tyx_lst {K : PySem.W.Frag} {H : Hp} {l : Addr} {xs : List V} (h : H l = some (.lst xs)) : TyX K H (.ref l) (.type "list") := .base (.lst h)
theorem tyx_tup {K : PySem.W.Frag} {H : Hp} {a : Addr} {xs : List V} (h : H a = some (.tup xs)) : TyX K H (.ref a) (.type "tuple") := .base (.tup h)
/-! repr of data: how long its text is -/
mutual
theorem leaves_of_show : ∀ d : PyData, d.showable = true → d.canLay0 = true → d.hasDict = false → d.leavesShort 1921 = true
  | .none, _, _, _ => rfl
  | .bool _, _, _, _ => rfl
  | .int i, h, _, _ => by
    have h1 : i.natAbs.log2 < 1920 := by simpa only [PyData.showable, decide_eq_true_eq] using h
    have h2 := PyProof.Rows.int_text_len_1921 h1
    simp only [PyData.leavesShort, decide_eq_true_eq]
    exact h2
  | .str x, _, h, _ => PyData.leavesShort_of_canLay0 1921 (.str x) h (by simp [PyData.intsShort])
  | .list xs, h, h2, h3 => by
    simp only [PyData.leavesShort]
    exact leaves_all xs (by simpa only [PyData.showable] using h) (by simpa only [PyData.canLay0] using h2) (by simpa only [PyData.hasDict] using h3)
  | .tuple xs, h, h2, h3 => by
    simp only [PyData.leavesShort]
    exact leaves_all xs (by simpa only [PyData.showable] using h) (by simpa only [PyData.canLay0] using h2) (by simpa only [PyData.hasDict] using h3)
  | .dict kvs, _, _, h3 => by simp [PyData.hasDict] at h3
theorem leaves_all : ∀ ds : List PyData, PyData.showableAll ds = true → PyData.canLayAll0 ds = true → PyData.hasDictAll ds = false → PyData.leavesShortAll 1921 ds = true
  | [], _, _, _ => rfl
  | d :: ds, h, h2, h3 => by
    simp only [PyData.showableAll, Bool.and_eq_true] at h
    simp only [PyData.canLayAll0, Bool.and_eq_true] at h2
    simp only [PyData.hasDictAll, Bool.or_eq_false_iff] at h3
    simp only [PyData.leavesShortAll, Bool.and_eq_true]
    exact ⟨leaves_of_show d h.1 h2.1 h3.1, leaves_all ds h.2 h2.2 h3.2⟩
end
/-- what can be shown: its numbers below 2 ^ 1920, no dict, not too heavy -/
structure Shows (d : PyData) : Prop where
  sh : d.showable = true
  ly : d.canLay0 = true
  nd : d.hasDict = false
  dp : d.depth ≤ 60
  wt : d.weight ≤ 8000
theorem Shows.fits {d : PyData} (S : Shows d) : d.shown.length ≤ sizeLine := by
  have h := PyData.shown_le 1921 (by decide) d (leaves_of_show d S.sh S.ly S.nd)
  have h2 : (1921 + 2) * d.weight ≤ (1921 + 2) * 8000 := Nat.mul_le_mul_left _ S.wt
  rw [sizeLine_eq]
  omega
theorem Shows.shaped {d : PyData} (S : Shows d) : SeqAt.shaped d = true := Bool.and_eq_true_iff.mpr ⟨S.ly, decide_eq_true (by have := S.dp; omega)⟩
section
variable {X : Cx}
/-- repr(x) of a list or a tuple -/
def rRepr (K : PySem.W.Frag) : List V → Hp → VK → Prop := fun xs H Q => ∃ a d, xs = [V.ref a] ∧ Dp K H (.ref a) d ∧ Shows d ∧ Q (.str d.shown) H
theorem cr_repr (hg : X.A.guards = some []) (hu : X.A.units + 64 < cLine) : CallR X (.builtin "repr") (rRepr X.K) := by
  intro pins s σ H xs us Q I r h
  obtain ⟨a, d, rfl, hd, S, q⟩ := h
  rw [Vals.ref1 r]
  obtain ⟨as, rd⟩ := Dp.reads I d (.ref a) (.ref a) hd rfl
  have := S.dp
  refine repr_of_reads' rd S.sh (fun e => by rw [S.nd] at e; cases e) hg (by omega) (fun _ _ e => e) (fun h' u tk hk => ?_) S.fits
  exact ⟨.str d.shown, H, I.kept hk, ⟨u, rfl⟩, q⟩
end
end Sp1

set_option Elab.async false
set_option linter.all false
set_option maxRecDepth 100000
set_option maxHeartbeats 4000000
namespace Sp1
open PySem PySem.W PySem.Spec PyProof.Rows L2
section
variable {prog : Program} {w : World} {A : Around} {E : Value → Shared → Prop} {s : Shared}
/-- min(a, b) of two alike data -/
theorem min_pair_data {a b : Value} {d e : PyData} {as bs : List Addr} {Q : Value → Shared → Prop} (hh : A.handled = none) (ra : Reads s.heap a d as) (rb : Reads s.heap b e bs) (al : AlikeAll [d, e])
    (hu : A.units + 1 + PyData.depthAll [d, e] < cLine) (q : ∀ h' tk, (∀ c o, s.heap.get? c = some o → h'.get? c = some o) → Q (if dataLt e d = true then b else a) { s with heap := h', toks := tk }) :
    wpAny (model prog w) A (call (.builtin "min") [a, b]) Q E s := by
  have nm : (toString "min" ++ toString ".loop" : String) = "min.loop" := by decide
  refine call_function_tree PySem.F.kind_min PySem.F.plain_min PySem.F.entry_min (PySem.F.args_min2 _ _) (wpAny_bind (m := Builtin.Builtins.bindParams "min" ["key", "default"] 0 ⟨[], []⟩) (wpAny_of_eq (a := [none, none]) rfl ?_))
  refine wpAny_bind (m := newTuple [a, b]) (wpAny_newObj_type ?_)
  have hk1 : ∀ c o, s.heap.get? c = some o → (s.heap.push { cls := .type "tuple", data := .seq #[a, b] }).get? c = some o := fun c o x => Heap.get?_push_of_some _ x
  have hT : (s.heap.push { cls := .type "tuple", data := .seq #[a, b] }).IsTuple s.heap.objs.size #[a, b] := ⟨_, Heap.get?_push_size _ rfl, rfl, 0, rfl⟩
  have hr : ReadsAll (s.heap.push { cls := .type "tuple", data := .seq #[a, b] }) (#[a, b] : Array Value).toList [d, e] (as ++ (bs ++ [])) := .cons (Reads.keeps hk1 ra) (.cons (Reads.keeps hk1 rb) .nil)
  generalize s.heap.push { cls := .type "tuple", data := .seq #[a, b] } = h1 at hk1 hT hr ⊢
  refine wpAny_bind (iter_tupleW (A := A.in1) (s := { s with heap := h1, toks := s.toks }) hh hT fun s₂ e2 W st hfp hw hk => wpAny_bind (wpAny_newObj_type ?_))
  rw [nm]
  have nS : s₂.heap.objs.size ∉ [h1.objs.size, s.heap.objs.size] := fun hm => Nat.lt_irrefl _ (hfp _ hm)
  have W0 := W.frame 0 s₂ (s₂.heap.push { cls := .type "list", data := .seq #[] 0 }) s₂.toks st (Nat.le_refl _) fun c _ o x => Heap.get?_push_of_some _ x
  refine wpAny_pure ⟨plainId_quiet PySem.F.plain_min_loop _, codeAny_min_loop_firstH (n := (#[a, b] : Array Value).size) W h1 hw _ (cmpIn_lt (A := A.in1) (s := { s with heap := h1, toks := s.toks }) hr al (by show A.units + 1 + _ < _; exact hu)) s₂.heap.objs.size nS (fresh_in hk) _ (Nat.succ_pos 1)
    (fun c o x => Heap.get?_push_of_some _ (hk c o x)) W0 (Heap.get?_push_size _ rfl) fun v s' hP hm => ?_⟩
  obtain ⟨h', tk, rfl, hk'⟩ := moved_old (s := { s with heap := h1, toks := s.toks }) e2 rfl (Moved.drop_new (tk := s₂.toks) hm (Nat.le_refl _))
  have hv : v = if dataLt e d = true then b else a := by
    have hP' : (#[a, b] : Array Value)[argBest (fun i j => dataLt ([d, e].getD i PyData.none) ([d, e].getD j PyData.none)) 1]? = some v := hP
    have e1 : argBest (fun i j => dataLt ([d, e].getD i PyData.none) ([d, e].getD j PyData.none)) 1 = if dataLt e d = true then 1 else 0 := rfl
    rw [e1] at hP'
    cases hb : dataLt e d
    · rw [hb] at hP'
      exact (Option.some.inj hP').symm
    · rw [hb] at hP'
      exact (Option.some.inj hP').symm
  rw [hv]
  exact q h' tk fun c o x => hk' c o (hk1 c o x)
end
end Sp1

set_option Elab.async false
set_option linter.all false
set_option maxRecDepth 100000
set_option maxHeartbeats 4000000
namespace Sp1
open PySem PySem.W PySem.Spec PyProof.Rows L2
/-- a new, empty set -/
abbrev set0 (w : World) : Obj := { cls := .type "set", dict := none, data := .set #[] 0 (.fresh 0 0 (!w.params.followText "set-order")) }
section
variable {P : Program} {w : World} {A : Around} {E : Value → Shared → Prop} {s : Shared}
/-- filling a new set from a list of ints -/
theorem fill_list {l S : Addr} {vs : Array Value} {h : Heap} (ns : List Int) {R : Result → Shared → Prop} (hh : A.handled = none) (hl : h.IsList l vs) (hS : h.get? S = some (set0 w)) (hlS : l ≠ S) (hv : IntsAre vs.toList ns) (hb : ns.length + 1 < scanBound)
    (h1 : ∀ (h' : Heap) (tk c : Nat), SetR w h' S (fun j => decide (j ∈ ns)) c → c ≤ ns.length → (∀ b o, b ≠ S → h.get? b = some o → h'.get? b = some o) → R (.ok (.ret .none)) { s with heap := h', toks := tk }) :
    codeAny (model P w) A (.builtin "set.update.loop" ⟨[.ref S, .ref h.objs.size], []⟩) R { s with heap := h.push { cls := .type "list_iterator", data := .fields #[.ref l, .int 0 0] }, toks := s.toks } := by
  have lh : l < h.objs.size := by obtain ⟨_, e, _⟩ := hl; exact Heap.lt_size e
  have Sh : S < h.objs.size := Heap.lt_size hS
  have size : vs.size = ns.length := (Array.length_toList.symm).trans (IntsAre.length hv)
  have nS : S ∉ [h.objs.size, l] := fun z => by
    rcases List.mem_cons.mp z with z | z
    · exact absurd z (Nat.ne_of_lt Sh)
    · exact hlS (List.mem_singleton.mp z).symm
  refine set_update_ints (P := P) (A := A) (Walks.list (A := A.in1) hh h.objs.size l (Nat.ne_of_lt lh) vs).toS S nS ns size hb (fun i v e => ?_) vs.size 0 _ rfl (Nat.zero_le _)
    ⟨⟨_, Heap.get?_push_size _ rfl, rfl, rfl⟩, hl.push _⟩ ⟨0, Nat.le_refl 0, setR_new_at (Heap.get?_push_of_some _ hS)⟩ fun s' c m hc r => ?_
  · have hi : i < ns.length := by
      have := (Array.getElem?_eq_some_iff.mp e).1
      omega
    obtain ⟨t, x⟩ := IntsAre.int_at hv i v (by rw [Array.getElem?_toList]; exact e)
    rw [List.getD_eq_getElem?_getD, List.getElem?_eq_getElem hi] at x
    exact ⟨_, t, List.getElem?_eq_getElem hi, x⟩
  · obtain ⟨hp, g, d, tk, os⟩ := s'
    obtain ⟨mh, mg, md, mo, _⟩ := m
    dsimp only at mg md mo mh r
    subst mg md mo
    refine h1 hp tk c r (by omega) fun b o hb e => mh b o (fun z => ?_) (Heap.get?_push_of_some _ e)
    rcases List.mem_cons.mp z with z | z
    · exact hb z
    · exact absurd (List.mem_singleton.mp z) (Nat.ne_of_lt (Heap.lt_size e))
set_option maxHeartbeats 3200000 in
/-- set(l) of a list of ints -/
theorem set_of_list {l : Addr} {vs : Array Value} (ns : List Int) {Q : Value → Shared → Prop} (hh : A.handled = none) (hl : s.heap.IsList l vs) (hv : IntsAre vs.toList ns) (hb : ns.length + 1 < scanBound)
    (q : ∀ (h' : Heap) (tk c : Nat), SetR w h' s.heap.objs.size (fun j => decide (j ∈ ns)) c → c ≤ ns.length → (∀ b o, s.heap.get? b = some o → h'.get? b = some o) → Q (.ref s.heap.objs.size) { s with heap := h', toks := tk }) :
    wpAny (model P w) A (call (.type "set") [.ref l]) Q E s := by
  obtain ⟨c, tl, mro⟩ := PySem.F.called_set.mro
  have f1 := PySem.F.called_set.made
  have f2 := PySem.F.called_set.sub
  have f3 := PySem.F.called_set.notType
  have f4 := PySem.F.called_set.canCreate
  have f5 := PySem.F.typeCall_set_1 (.ref l)
  refine wpAny_call (codeAny_of_tree (wpAny_pure ⟨Code.quiet_builtin _ (by decide +kernel), codeAny_builtin PySem.F.entry_type_call ?_⟩))
  rw [Around.under_plain (weight_type_call_type "set" [.ref l] []) rfl]
  repeat (any_goals (first | assumption | wp_step))
  have hS : (s.heap.push (set0 w)).get? s.heap.objs.size = some (set0 w) := Heap.get?_push_size _ rfl
  have hk : ∀ b o, s.heap.get? b = some o → (s.heap.push (set0 w)).get? b = some o := fun b o e => Heap.get?_push_of_some _ e
  have hlt : ∀ b o, s.heap.get? b = some o → b ≠ s.heap.objs.size := fun b o e => Nat.ne_of_lt (Heap.lt_size e)
  refine codeAny_mono (code_set_led1 (w := w) (.ref l) (E := E) (Q₁ := fun x z => x = .ref s.heap.objs.size ∧ z = { s with heap := s.heap.push (set0 w) }) ⟨rfl, rfl⟩) fun r z hr => ?_
  cases r with
  | error e => exact hr
  | ok fl =>
    cases fl with
    | next => exact hr.elim
    | brk => exact hr.elim
    | cont => exact hr.elim
    | ret x =>
      obtain ⟨rfl, rfl⟩ := hr
      have ty : Shared.TypeIs { s with heap := s.heap.push (set0 w) } (.ref s.heap.objs.size) "set" := ⟨_, hS, rfl⟩
      have f6 := PySem.F.called_set.init.lookup
      have f7 := PySem.F.called_set.init.bind (.ref s.heap.objs.size)
      repeat (any_goals (first | assumption | wp_step))
      refine codeAny_mono (codeAny_call_builtin (R := wants (fun r z => r = .none ∧ ∃ h' tk c, z = { s with heap := h', toks := tk } ∧ SetR w h' s.heap.objs.size (fun j => decide (j ∈ ns)) c ∧ c ≤ ns.length ∧ ∀ b o, s.heap.get? b = some o → h'.get? b = some o) E)
        PySem.F.called_set.init.plain PySem.F.entry_set_init (check_set_init_1 ty ?fill)) fun r z hr => ?back
      case back =>
        cases r with
        | error e => exact hr
        | ok fl =>
          cases fl with
          | next => exact hr.elim
          | brk => exact hr.elim
          | cont => exact hr.elim
          | ret x =>
            obtain ⟨rfl, h', tk, c, rfl, r1, r2, r3⟩ := hr
            repeat (any_goals (first | assumption | wp_step))
            exact q h' tk c r1 r2 r3
      case fill =>
        obtain ⟨⟨oc, od, dt, os⟩, e1, e2, n, e3⟩ := hl
        dsimp only at e2 e3
        subst e2 e3
        have e4 := hk _ _ e1
        have f8 := PySem.F.sub_list_set
        have f9 := PySem.F.sub_list_frozenset
        have ne : (Value.type "list" == Value.type "dict") = false := by decide
        have hl1 : (s.heap.push (set0 w)).IsList l vs := ⟨_, e4, rfl, n, rfl⟩
        unfold Builtin.«set.__init__» noKeywords Builtin.Frozenset.updateFrom
        generalize hp : pyIter = PI
        wp_walk
        subst hp
        refine wpAny_pyIter_list hl1 (wpAny_bind (wpAny_runValue ?_))
        refine fill_list (s := { s with heap := s.heap.push (set0 w) }) (h := s.heap.push (set0 w)) ns (by simp [hh]) hl1 hS (hlt _ _ e1) hv hb fun h' tk c r hc k => ?_
        show wpAny _ _ _ _ _ _
        refine wpAny_pure ?_
        show wpAny _ _ (ret Value.none) _ _ _
        exact wpAny_pure ⟨rfl, h', tk, c, rfl, r, hc, fun b o e => k b o (hlt b o e) (hk b o e)⟩
end
end Sp1

set_option Elab.async false
set_option linter.all false
set_option maxRecDepth 100000
set_option maxHeartbeats 4000000
namespace Sp1
open PySem PySem.Spec PyProof.Rows L2
section
variable {X : Cx}
/-- set(l) of a list of ints -/
def rSetI (K : PySem.W.Frag) (w : World) : List V → Hp → VK → Prop := fun xs H Q => ∃ (l : Addr) (ns : List Int), xs = [V.ref l] ∧ SqL K H l (ns.map V.int) ∧ ns.length ≤ 1000 ∧
  ∀ (a : Addr) (n : Nat), H a = none → n ≤ ns.length → Q (.ref a) (upd H a (SetO w a (fun j => decide (j ∈ ns)) n))
theorem cr_setI (hc : X.calm = true) : CallR X (.type "set") (rSetI X.K X.w) := by
  intro pins s σ H xs us Q I r h
  obtain ⟨l, ns, rfl, hl, h1000, q⟩ := h
  rw [Vals.ref1 r]
  obtain ⟨its, rv, pl, hz⟩ := I.list hl
  refine set_of_list ns (I.ok.hd hc) pl.isList (by simpa using RZ.intsAre_vals rv) (by unfold scanBound; omega) fun h' tk c S hcn k => ?_
  exact ⟨.ref _, upd H s.heap.objs.size (SetO X.w s.heap.objs.size (fun j => decide (j ∈ ns)) c), I.laid (t' := tk) k (Nat.le_refl _) (setO_new S), rfl, q _ _ (I.hok.fresh (Nat.le_refl _)) hcn⟩
/-- min(x, y) of two alike data -/
def rMin2D (K : PySem.W.Frag) : List V → Hp → VK → Prop := fun xs H Q => ∃ (x y : V) (d e : PyData), xs = [x, y] ∧ Dp K H x d ∧ Dp K H y e ∧ PySem.W.AlikeAll [d, e] ∧ PyData.depthAll [d, e] ≤ 60 ∧ Q (if PySem.W.dataLt e d = true then y else x) H
theorem cr_min2D (hc : X.calm = true) (hu : X.A.units + 64 < cLine) : CallR X (.builtin "min") (rMin2D X.K) := by
  intro pins s σ H xs us Q I r h
  obtain ⟨x, y, d, e, rfl, hx, hy, al, hd, q⟩ := h
  match us, r with
  | [u, v], .cons r1 (.cons r2 .nil) =>
    obtain ⟨as, ra⟩ := Dp.reads I d x u hx r1
    obtain ⟨bs, rb⟩ := Dp.reads I e y v hy r2
    refine min_pair_data (I.ok.hd hc) ra rb al (by omega) fun h' tk k => ?_
    refine ⟨_, H, I.kept k, ?_, q⟩
    split
    · exact r2
    · exact r1
end
end Sp1

set_option Elab.async false
set_option linter.all false
set_option maxRecDepth 100000
set_option maxHeartbeats 4000000
namespace Sp1
open PySem PySem.Spec PyProof.Rows L2
/-! a def that asks which lists and tuples are being shown: its promise where none is -/
structure FnOkG (P : Program) (w : World) (K : PySem.W.Frag) (mg : Str → Option Value) (base : Heap) (CX : CXT) (k : Nat) (f : Addr) (fd : FuncData) (ps : List Str) (sp : Sp) : Prop where
  len : ∀ vs H Q E, sp vs H Q E → vs.length = ps.length
  run : ∀ (A : Around) (outer : List Env) (s : Shared) (H : Hp) (args : Args) (us : List Value) (vs : List V) (Q : VK) (E : XK), A.guards = some [] → Room k A → Env0 P w K mg base A outer s H → BindsTo s fd args (ps.zip us) → Vals vs us →
    sp vs H Q E → codeAny (model P w) A (.call (.ref f) args) (CR CX outer P w H s Q E) s
theorem FnOk.toG {P : Program} {w : World} {K : PySem.W.Frag} {mg : Str → Option Value} {base : Heap} {CX : CXT} {k : Nat} {f : Addr} {fd : FuncData} {ps : List Str} {sp : Sp} (F : FnOk P w K mg base CX k f fd ps sp) : FnOkG P w K mg base CX k f fd ps sp :=
  ⟨F.len, fun A outer s H args us vs Q E _ => F.run A outer s H args us vs Q E⟩
theorem FnOkG.mono {P : Program} {w : World} {K : PySem.W.Frag} {mg : Str → Option Value} {base : Heap} {CX : CXT} {j k : Nat} {f : Addr} {fd : FuncData} {ps : List Str} {sp : Sp} (F : FnOkG P w K mg base CX j f fd ps sp) (h : j ≤ k) : FnOkG P w K mg base CX k f fd ps sp :=
  ⟨F.len, fun A outer s H args us vs Q E g hr => F.run A outer s H args us vs Q E g (hr.mono h)⟩
theorem fnG_of {CX : CXT} {P : Program} {w : World} {K : PySem.W.Frag} {mg : Str → Option Value} {base : Heap} {k : Nat} {f : Addr} {name qual : Str} {params : Arguments} {body : List Stmt} {scope : Scope} {dV kV doc pm cdv ct oc : Value} {an od : Option Addr} {osl : Array (Option Value)} {N ps : List Str} {sp : Sp}
    (lk : K.lookup f = some ⟨oc, od, .func (PySem.W.fnOf name qual params body scope dV kV doc pm an cdv ct), osl⟩) (hcd : PySem.W.codeIn K cdv qual = true) (S : FnScope N ps scope) (len : ∀ vs H Q E, sp vs H Q E → vs.length = ps.length)
    (hbody : ∀ (A : Around) (outer : List Env) (s : Shared) (H : Hp) (vs : List V) (Q : VK) (E : XK), A.guards = some [] → Room k (A.deeper (envOfC qual scope s.heap.objs.size f cdv)) → sp vs H Q E →
      ∃ t, PSs (cxOf CX P w K mg base N qual scope f cdv A outer s H E) body t ∧ t { nx := fun _ H' => Q .non H', rt := Q } (start N vs) H) :
    FnOkG P w K mg base CX (k + 1) f (PySem.W.fnOf name qual params body scope dV kV doc pm an cdv ct) ps sp := by
  refine ⟨len, fun A outer s H args us vs Q E hg hr e0 hb r hsp => ?_⟩
  have keep : ∀ b o, base.get? b = some o → s.heap.get? b = some o := fun b o e => (e0.bs b o e).1
  have hkind : ∀ y ∈ ps.zip us, scope.names.lookup y.1 = some .local ∨ (scope.names.lookup y.1 = some .cell ∧ ((cellsFrom (s.heap.objs.size + 1) scope.names []).lookup y.1).isSome = true) := fun y hy =>
    (S.par y.1 (List.of_mem_zip hy).1).imp id fun q => ⟨q, PySem.W.cellsFrom_some _ _ _ (.inl q)⟩
  refine codeAny_call_function hr.depth ((e0.mod.kin.keeps keep) _ _ lk) rfl S.co S.gen rfl (PySem.W.codeRec_of (e0.mod.kin.keeps keep) hcd) (hb _ _ _ _ (wpAny_newFunctionEnv_cells S.kind hkind fun env he s1 x => ?_))
  subst he
  refine ⟨(e0.mod.nolimit.keeps keep).keeps x.toInCall.keep, codeAny_func ?_⟩
  obtain ⟨t, ht, hq⟩ := hbody A outer s H vs Q E hg (hr.deeper _) hsp
  refine wpAny_mono (ht.run [] s1 (start N vs) H _ (inv_start S hr.hd e0 (len _ _ _ _ hsp) r x) hq) (fun fl s' hs => ?_) fun e s' hs => hs
  match fl, hs with
  | .ret u, ⟨v, σ', H', J, rv, q⟩ => exact ⟨v, H', J.os, J.bare, J.base, J.hok, rv, q⟩
  | .next, ⟨σ', H', J, q⟩ => exact ⟨V.non, H', J.os, J.bare, J.base, J.hok, rfl, q⟩
  | .brk, ⟨_, _, _, q⟩ => exact False.elim q
  | .cont, ⟨_, _, _, q⟩ => exact False.elim q
section
variable {P : Program} {w : World} {K : PySem.W.Frag} {mg : Str → Option Value} {base : Heap}
theorem Fun.okG {x qual : Str} {st : Stmt} {f : Addr} {fd : FuncData} {N ps : List Str} {k : Nat} {sp : Sp} (F : Fun K x qual st f fd) (S : FnScope N ps (defScope st)) (len : ∀ vs H Q E, sp vs H Q E → vs.length = ps.length)
    (hbody : ∀ (cdv : Value) (A : Around) (outer : List Env) (s : Shared) (H : Hp) (vs : List V) (Q : VK) (E : XK), A.guards = some [] → Room k (A.deeper (envOfC qual (defScope st) s.heap.objs.size f cdv)) → sp vs H Q E →
      ∃ t, PSs (cxOf CX0 P w K mg base N qual (defScope st) f cdv A outer s H E).nox (defBody st) t ∧ t { nx := fun _ H' => Q .non H', rt := Q } (start N vs) H) : FnOkG P w K mg base CX0 (k + 1) f fd ps sp := by
  obtain ⟨oc, od, kV, doc, pm, an, cdv, ct, osl, rfl, lk, hcd⟩ := F.ex
  exact fnG_of lk hcd S len fun A outer s H vs Q E hg hr hsp => (hbody cdv A outer s H vs Q E hg hr hsp).imp fun t h => ⟨h.1.nox, h.2⟩
end
section
variable {X : Cx} {CX : CXT} {k : Nat} {f C : Addr} {fd : FuncData} {ps : List Str} {sp : Sp} {dvs : List V} {ds : List Value} {E : XK} {x m : Str} {p pos apos : Pos} {e o : Expr} {es : List Expr} {ta : TE} {t : TA}
theorem run_fnG {pins : List (Addr × Obj)} {σ : L2.St} {H : Hp} {s : Shared} {Q : VK} {us : List Value} {vs : List V} (F : FnOkG X.prog X.w X.K X.mg X.base CX k f fd ps sp) (g : X.A.guards = some []) (hr : Room k X.A) (hb : Binds X.K fd ps ds) (hd : Vals dvs ds) (hx : Passes CX X E)
    (I : Inv X pins σ H s) (r : Vals vs us) (h : sp (vs ++ dvs) H Q E) : wpAny (model X.prog X.w) X.A (call (.ref f) us) (EP X pins σ Q) X.xe s := by
  have r2 := r.append hd
  refine wpAny_call (codeAny_mono (F.run X.A X.stack s H ⟨us, []⟩ (us ++ ds) (vs ++ dvs) Q E g hr I.env0 (hb s us I.kIn (by rw [← r2.length]; exact F.len _ _ _ _ h)) r2 h) fun r s' hq => ?_)
  match r, hq with
  | .error e, hq => exact hx pins σ H s e s' I hq
  | .ok (.ret u), hq => exact I.after hq
theorem pe_callG (F : FnOkG X.prog X.w X.K X.mg X.base CX k f fd ps sp) (g : X.A.guards = some []) (hr : Room k X.A) (hg : Gl X x) (hm : X.mg x = some (.ref f)) (hk : PySem.W.keepIn X.K (.ref f) = true) (hb : Binds X.K fd ps ds) (hd : Vals dvs ds) (hx : Passes CX X E)
    (ha : PA X (e :: es) t) (hdb : (x == ("__debug__" : Str)) = false := by decide) (he : starEach (e :: es) X.env = (false, eval e X.env) :: starEach es X.env := by rfl) (hpl : (backTo pos (starEach es X.env)).any (·.1) = false := by rfl) :
    PE X (.Call (.Name x p) (e :: es) [] pos) (tCall sp dvs E t) := ⟨fun pins s σ H Q I h => wpAny_Call_Name_kw (ld_glob I hg hm (PySem.W.callWith_K (h₀ := X.base) I.ok.mod.kin hk
    (thn (ha.run pos pins s σ H _ I h) fun us s1 ⟨vs, H1, I1, r, q⟩ => ⟨I1.kIn, run_fnG F g hr hb hd hx I1 r q⟩) he hpl) hdb)⟩
end
/-! the head -/
section
variable {P : Program} {w : World} {K : PySem.W.Frag} {mg mb : Str → Option Value}
/-- the state behind the top, the script alone told -/
theorem env_top {a : Addr} {vs : List Value} {z : Shared} {H : Hp} (KX : K.In z.heap) (hn : z.heap.Ns mainGlobals mg) (hb : z.heap.Ns builtinsNs mb) (hbb : ∀ x : Str, x ≠ "__name__" → mb x = bootBuiltins x) (hm : z.heap.NoLimit) (hg : z.gens = #[])
    (ha : z.heap.get? a = some { cls := .type "list", data := .seq vs.toArray }) (ok : HOk P w H z.heap) (hA : ∀ b, H b ≠ none → b = a) (hK : H a ≠ none → K.lookup a = none) : K.In (hidT z.heap H) ∧ (hidT z.heap H).Ns mainGlobals mg ∧ Env0 P w K mg (hidT z.heap H) callerA [] z H := by
  have off : ∀ {b : Addr} {o : Obj} {es : Array DictEntry} {n : Nat}, z.heap.get? b = some o → o.data = .dict es n → H b = none := fun {b o es n} e d => by
    rcases Option.eq_none_or_eq_some (H b) with q | ⟨u, q⟩
    · exact q
    · obtain rfl := hA b (by rw [q]; exact fun z => nomatch z)
      rw [ha] at e
      cases e
      cases d
  have ns : ∀ {b : Addr} {m : Str → Option Value}, z.heap.Ns b m → (hidT z.heap H).Ns b m := fun {b m} ⟨o, es, n, e, d, r⟩ => ⟨o, es, n, hidT_get e (off e d), d, r⟩
  have kin : K.In (hidT z.heap H) := fun b o e => by
    refine hidT_get (KX b o e) ?_
    rcases Option.eq_none_or_eq_some (H b) with q | ⟨u, q⟩
    · exact q
    · obtain rfl := hA b (by rw [q]; exact fun z => nomatch z)
      rw [hK (by rw [q]; exact fun z => nomatch z)] at e
      cases e
  obtain ⟨mc, l1, l2⟩ := hm
  exact ⟨kin, ns hn, rfl, ⟨kin, ns hn, ⟨mb, ns hb, hbb⟩, mc, ns l1, l2⟩, fun b o e => of_hidT e, Nat.le_of_eq (hidT_size _ _), trivial, (fun b hb => by cases hb), ok, .of_eq hg⟩
theorem law_callG {CX : CXT} {k : Nat} {fa a : Addr} {fd : FuncData} {x : Str} {sp : Sp} {z : Shared} {vs : List Value} {ns : List Int}
    (KX : K.In z.heap) (hn : z.heap.Ns mainGlobals mg) (hb : z.heap.Ns builtinsNs mb) (hbb : ∀ x : Str, x ≠ "__name__" → mb x = bootBuiltins x) (hm : z.heap.NoLimit) (hg : z.gens = #[])
    (ha : z.heap.get? a = some { cls := .type "list", data := .seq vs.toArray }) (hi : IntsAre vs ns) (hl : ns.length ≤ sizeLine) (hr : Room k callerA)
    (F : ∀ base : Heap, K.In base → base.Ns mainGlobals mg → FnOkG P w K mg base CX k fa fd [x] sp) (bind : ∀ (s : Shared) (u : Value), BindsTo s fd ⟨[u], []⟩ [(x, u)])
    (hsp : ∀ H : Hp, Only H → SqL K H a (ns.map V.int) → sp [.ref a] H (fun v _ => v = .bl true) fun _ _ _ => False) (hCX : ∀ H e s', CX [] H z (fun _ _ _ => False) e s' → False) :
    codeAny (model P w) callerA (.call (.ref fa) ⟨[.ref a], []⟩) (fun r s' => r = .ok (.ret (.bool true)) ∧ OldK z.heap s'.heap ∧ s'.os = z.os ∧ AllBare s'.gens) z := by
  have rv := vals_ints hi
  have from_ : ∀ H : Hp, Only H → SqL K H a (ns.map V.int) → HOk P w H z.heap → (∀ b, H b ≠ none → b = a) → (H a ≠ none → K.lookup a = none) →
      codeAny (model P w) callerA (.call (.ref fa) ⟨[.ref a], []⟩) (fun r s' => r = .ok (.ret (.bool true)) ∧ OldK z.heap s'.heap ∧ s'.os = z.os ∧ AllBare s'.gens) z := by
    intro H hO hS ok hA hK
    obtain ⟨k1, k2, e0⟩ := env_top KX hn hb hbb hm hg ha ok hA hK
    refine codeAny_mono ((F _ k1 k2).run callerA [] z H _ [.ref a] [.ref a] _ _ rfl hr e0 (bind z (.ref a)) (.cons rfl .nil) (hsp H hO hS)) fun r s' h => ?_
    match r, h with
    | .error e, h => exact (hCX H e s' h).elim
    | .ok (.ret u), ⟨v, H', os, bare, un, ok', r', (q : v = V.bl true)⟩ =>
      subst q
      refine ⟨congrArg (fun t => Except.ok (Flow.ret t)) (show u = Value.bool true from r'), OldK.of_keep fun b o e => ?_, os, bare⟩
      rcases hO b with q | ⟨ob, xs, q⟩
      · exact un.keep b o e q (fun y => nomatch y) (fun y => nomatch y)
      · obtain ⟨e1, _⟩ := ok b _ q
        obtain ⟨e2, _⟩ := ok' b _ (un.frzs b ob _ q)
        rw [← Option.some.inj (e.symm.trans e1)] at e2
        exact e2
  rcases Option.eq_none_or_eq_some (K.lookup a) with hk | ⟨o, hk⟩
  · refine from_ (fun b => if b = a then some (.frz { cls := .type "list", data := .seq vs.toArray } (.lst (ns.map V.int))) else none) (fun b => ?_) (.inl (.inr ⟨_, if_pos rfl⟩)) (fun b u y => ?_) (fun b y => ?_) fun _ => hk
    · rcases Decidable.em (b = a) with e | e
      · exact .inr ⟨_, _, if_pos e⟩
      · exact .inl (if_neg e)
    · rcases Decidable.em (b = a) with e | e
      · have y' := (if_pos e).symm.trans y
        cases y'
        subst e
        exact ⟨ha, by rw [List.length_map]; exact hl, vs, _, rv, ha⟩
      · have y' := (if_neg e).symm.trans y
        cases y'
    · rcases Decidable.em (b = a) with e | e
      · exact e
      · exact absurd (if_neg e) y
  · have e := Option.some.inj ((KX a o hk).symm.trans ha)
    subst e
    exact from_ (fun _ => none) (fun _ => .inl rfl) (.inr ⟨_, vs.toArray, _, hk, rfl, rfl, rfl, by rw [List.size_toArray, hi.length]; exact hl, by simpa using rv⟩) (fun b u y => by cases y) (fun b y => absurd rfl y) fun y => absurd rfl y
end
theorem walk_ofG {l : PySem.W.OpenLaw} {n k : Nat} {q : Program} {loose : List Str} {XP : (Str → Option Value) → Heap → Prop} {YP : World → Heap → Prop} {d : DefRec} {K : Params → PySem.W.Frag} {CX : World → CXT} {sp : World → Sp} {x : Str}
    (hn : l.most = some n) (hn2 : n ≤ sizeLine) (hdf : d.params.defaults = []) (hr : Room k callerA) (hY : ∀ (w : World) (h : Heap), YP w h → (K w.params).In h)
    (F : ∀ (w : World) (mg : Str → Option Value) (fa : Addr) (h : Heap), (K w.params).In h → h.Ns mainGlobals mg → mg d.name = some (.ref fa) →
      ∃ fd : FuncData, (∀ (s : Shared) (u : Value), BindsTo s fd ⟨[u], []⟩ [(x, u)]) ∧ ∀ base : Heap, (K w.params).In base → base.Ns mainGlobals mg → FnOkG l.prog w (K w.params) mg base (CX w) k fa fd [x] (sp w))
    (hsp : ∀ (w : World) (H : Hp) (a : Addr) (ns : List Int), ns.length ≤ n → (∀ z ∈ ns, Builtin.Int.intBits z ≤ 1048576) → Only H → SqL (K w.params) H a (ns.map V.int) → sp w [.ref a] H (fun v _ => v = .bl true) fun _ _ _ => False)
    (hCX : ∀ (w : World) (H : Hp) (s : Shared) (e : Value) (s' : Shared), CX w [] H s (fun _ _ _ => False) e s' → False) : PySem.W.WalkO q loose XP YP l.row.toRowW d [] (fun f vs => PySem.call f vs) :=
  Att.attach_callB hn hdf fun w s₀ s₁ mg mb fa o pm cd doc a vs ns G Y ho hd hcd hmg hobj hints hlen hbits hg =>
    have ⟨fd, hb, hF⟩ := F w mg fa _ (hY w _ Y) G.T.g hmg
    law_callG (hY w _ Y) G.T.g G.T.b G.T.builtins G.T.nolimit hg hobj hints (Nat.le_trans hlen hn2) hr hF hb (fun H hO hS => hsp w H a ns hlen hbits hO hS) fun H e s' => hCX w H s₁ e s'
end Sp1

set_option Elab.async false
set_option linter.all false
set_option maxRecDepth 100000
set_option maxHeartbeats 4000000
namespace Sp1
open PySem PySem.Spec PyProof.Rows L2
def top (i : Nat) : Stmt := PySem.Challenge.pw_frugaltape_k82_cheapest_ways.main.body.getD i (.Pass ⟨0, 0, 0, 0⟩)
section
variable {P : Program} {w : World} {K : PySem.W.Frag} {mg : Str → Option Value} {base : Heap}
/-! is_integer, check_count, check_step, check_steps -/
abbrev s_is_integer : Stmt := top 5
theorem sc_is_integer : FnScope ["value"] ["value"] (defScope s_is_integer) := ⟨rfl, rfl, rfl, by decide +kernel, rfl, by decide +kernel, by decide +kernel⟩
def sp_is_integer : Sp := fun vs H Q _ => ∃ i, vs = [.int i] ∧ Q (.bl true) H
theorem ok_is_integer {f : Addr} {fd : FuncData} {k : Nat} (D : Dn K mg "is_integer" s_is_integer ["value"] f fd) (m1 : mg "isinstance" = none) (m2 : mg "int" = none) (m3 : mg "bool" = none) : FnOk P w K mg base CX0 (k + 1) f fd ["value"] sp_is_integer := by
  refine D.F.ok sc_is_integer (fun vs H Q E h => ?_) (fun cdv A outer s H vs Q E hr h => ?_)
  · obtain ⟨i, rfl, _⟩ := h
    rfl
  · obtain ⟨i, rfl, q⟩ := h
    refine ⟨_, pss_one (ps_ret (pe_and (pe_callB call_isi (by rfl) m1 (by decide +kernel) (pa_cons (pv 0) (pa_cons (pe_ty (n := "int") (by rfl) m2 (by decide +kernel)) pa_nil)))
      (pe_one (pe_not (pe_callB call_isi (by rfl) m1 (by decide +kernel) (pa_cons (pv 0) (pa_cons (pe_ty (n := "bool") (by rfl) m3 (by decide +kernel)) pa_nil))))))), ?_⟩
    refine ⟨_, rfl, .int i, .ty "int", _, _, true, rfl, .ty _, .base (.int i), kit_ty (by decide +kernel), true, rfl, iteT ?_⟩
    exact ⟨_, rfl, .int i, .ty "bool", _, _, false, rfl, .ty _, .base (.int i), kit_ty (by decide +kernel), false, rfl, q⟩
abbrev s_check_count : Stmt := top 7
theorem sc_check_count : FnScope ["candidate"] ["candidate"] (defScope s_check_count) := ⟨rfl, rfl, rfl, by decide +kernel, rfl, by decide +kernel, by decide +kernel⟩
def sp_check_count : Sp := fun vs H Q _ => ∃ i : Int, vs = [.int i] ∧ 0 ≤ i ∧ Q .non H
theorem ok_check_count {f f1 : Addr} {fd fd1 : FuncData} {k : Nat} (D : Dn K mg "check_count" s_check_count ["candidate"] f fd) (D1 : Dn K mg "is_integer" s_is_integer ["value"] f1 fd1) (G1 : FnOk P w K mg base CX0 k f1 fd1 ["value"] sp_is_integer) :
    FnOk P w K mg base CX0 (k + 1) f fd ["candidate"] sp_check_count := by
  refine D.F.ok sc_check_count (fun vs H Q E h => ?_) (fun cdv A outer s H vs Q E hr h => ?_)
  · obtain ⟨i, rfl, _⟩ := h
    rfl
  · obtain ⟨i, rfl, h0, q⟩ := h
    refine ⟨_, pss_one (ps_if (PW.pt (pw_or (pt_not (pt_val (pe_call G1 hr (by rfl) D1.g D1.kp D1.b .nil pass0 (pa_cons (pv 0) pa_nil)))) (pw_or1 (pt_cmpR op_lt (pv 0) pe_int (nomark _))))) (pss_one ps_never) pss_nil), ?_⟩
    refine ⟨_, rfl, i, rfl, true, rfl, iteF ⟨_, rfl, _, _, rfl, rfl, _, rfl, ?_⟩⟩
    rw [decide_eq_false (by omega)]
    exact iteF q
abbrev s_check_step : Stmt := top 9
theorem sc_check_step : FnScope ["candidate", "lowest"] ["candidate", "lowest"] (defScope s_check_step) := ⟨rfl, rfl, rfl, by decide +kernel, rfl, by decide +kernel, by decide +kernel⟩
def sp_check_step : Sp := fun vs H Q _ => ∃ i l : Int, vs = [.int i, .int l] ∧ l ≤ i ∧ Q .non H
theorem ok_check_step {dvs : List V} {f f1 : Addr} {fd fd1 : FuncData} {k : Nat} (F : FunD K "check_step" "check_step" (defArgs s_check_step) (defBody s_check_step) (defScope s_check_step) dvs [] f fd) (D1 : Dn K mg "is_integer" s_is_integer ["value"] f1 fd1) (G1 : FnOk P w K mg base CX0 k f1 fd1 ["value"] sp_is_integer) :
    FnOk P w K mg base CX0 (k + 1) f fd ["candidate", "lowest"] sp_check_step := by
  refine F.ok sc_check_step (fun vs H Q E h => ?_) (fun cdv A outer s H vs Q E hr h => ?_)
  · obtain ⟨i, l, rfl, _⟩ := h
    rfl
  · obtain ⟨i, l, rfl, h0, q⟩ := h
    refine ⟨_, pss_one (ps_if (PW.pt (pw_or (pt_not (pt_val (pe_call G1 hr (by rfl) D1.g D1.kp D1.b .nil pass0 (pa_cons (pv 0) pa_nil)))) (pw_or1 (pt_cmpR op_lt (pv 0) (pv 1) (nomark _))))) (pss_one ps_never) pss_nil), ?_⟩
    refine ⟨_, rfl, i, rfl, true, rfl, iteF ⟨_, rfl, _, rfl, _, _, rfl, rfl, _, rfl, ?_⟩⟩
    rw [decide_eq_false (by omega)]
    exact iteF q
/-- from 0 on, each above the one before -/
def Asc (ns : List Int) : Prop := ns.Pairwise (· < ·) ∧ ∀ n ∈ ns, 0 ≤ n
abbrev s_check_steps : Stmt := top 10
theorem sc_check_steps : FnScope ["candidate", "lowest", "step"] ["candidate"] (defScope s_check_steps) := ⟨rfl, rfl, rfl, by decide +kernel, rfl, by decide +kernel, by decide +kernel⟩
def sp_check_steps (K : PySem.W.Frag) : Sp := fun vs H Q _ => ∃ (g : Addr) (ns : List Int), vs = [.ref g] ∧ H g = some (.lst (ns.map V.int)) ∧ Asc ns ∧ Q .non H
theorem asc_at {ns : List Int} (h : Asc ns) {i : Nat} (hi : i + 1 < ns.length) : ns[i] + 1 ≤ ns[i + 1] := by
  have := List.pairwise_iff_getElem.mp h.1 i (i + 1) (by omega) hi (Nat.lt_succ_self i)
  omega
theorem ok_check_steps {f f1 : Addr} {fd fd1 : FuncData} {k : Nat} (D : Dn K mg "check_steps" s_check_steps ["candidate"] f fd) (g1 : mg "check_step" = some (.ref f1)) (k1 : PySem.W.keepIn K (.ref f1) = true) (b1 : Binds K fd1 ["candidate", "lowest"] [])
    (G1 : FnOk P w K mg base CX0 k f1 fd1 ["candidate", "lowest"] sp_check_step) (m1 : mg "isinstance" = none) (m2 : mg "list" = none) : FnOk P w K mg base CX0 (k + 1) f fd ["candidate"] (sp_check_steps K) := by
  refine D.F.ok sc_check_steps (fun vs H Q E h => ?_) (fun cdv A outer s H vs Q E hr h => ?_)
  · obtain ⟨g, ns, rfl, _⟩ := h
    rfl
  · obtain ⟨g, ns, rfl, hS, asc, q⟩ := h
    have nd := sc_check_steps.nd
    refine ⟨_, pss_cons (ps_if (pt_not (pt_val (pe_callB call_isi (by rfl) m1 (by decide +kernel) (pa_cons (pv 0) (pa_cons (pe_ty (n := "list") (by rfl) m2 (by decide +kernel)) pa_nil))))) (pss_one ps_never) pss_nil)
      (pss_cons (ps_set (i := 1) nd rfl (.inl rfl) pe_int)
      (pss_one (ps_for PassesOwn.never rfl (pi_list (pv 0)) (pg_name (i := 2) nd rfl (.inl rfl))
        (pss_cons (ps_expr (pe_call G1 hr (by rfl) g1 k1 b1 .nil pass0 (pa_cons (pv 2) (pa_cons (pv 1) pa_nil))))
        (pss_one (ps_set (i := 1) nd rfl (.inl rfl) (pe_op op_add (pv 2) pe_int))))))), ?_⟩
    refine ⟨_, rfl, .ref g, .ty "list", _, _, true, rfl, .ty _, tyx_lst hS, kit_ty (by decide +kernel), true, rfl, iteF ?_⟩
    refine ⟨_, rfl, g, rfl, ⟨_, SqL.of hS⟩, for_list (K := K) (a := g) (xs := ns.map V.int) (fun i σ H' => H' = H ∧ ∃ (l : Int) (y : Option V), σ = [some (.ref g), some (.int l), y] ∧ ∀ hi : i < ns.length, l ≤ ns[i])
      ⟨rfl, 0, none, rfl, fun hi => asc.2 _ (List.getElem_mem hi)⟩ (fun i σ H' _ h => by rw [h.1]; exact SqL.of hS) ?_ ?_⟩
    · rintro i x σ H' hx ⟨rfl, l, y, rfl, hl⟩
      obtain ⟨hi, rfl⟩ := int_of hx
      refine ⟨_, rfl, _, rfl, ns[i], l, rfl, hl hi, _, rfl, _, _, rfl, rfl, rfl, _, _, rfl, fun hi2 => asc_at asc hi2⟩
    · rintro σ H' ⟨rfl, l, y, rfl, _⟩
      exact q
end
end Sp1

set_option Elab.async false
set_option linter.all false
set_option maxRecDepth 100000
set_option maxHeartbeats 4000000
namespace Sp1
open PySem PySem.Spec PyProof.Rows L2
def ab (c : Int) : Int := if c < 0 then -c else c
theorem ab_nn (c : Int) : 0 ≤ ab c := by unfold ab; split <;> omega
def sv : Option Int → V
  | none => .non
  | some s => .int s
/-- the best way so far -/
def ch (t j : Int) (b : Int × Option Int) (s : Int) : Int × Option Int := if j + ab (t - s) < b.1 then (j + ab (t - s), some s) else b
def best (p t j : Int) (ns : List Int) : Int × Option Int := ns.foldl (ch t j) (ab (t - p), none)
theorem best_snoc {p t j : Int} {ns : List Int} {i : Nat} (hi : i < ns.length) : best p t j (ns.take (i + 1)) = ch t j (best p t j (ns.take i)) ns[i] := by
  unfold best
  rw [List.take_add_one, List.getElem?_eq_getElem hi]
  show List.foldl _ _ (ns.take i ++ [ns[i]]) = _
  rw [List.foldl_append]
  rfl
section
variable {P : Program} {w : World} {K : PySem.W.Frag} {mg : Str → Option Value} {base : Heap}
abbrev s_cheapest : Stmt := top 11
abbrev N_cheapest : List Str := ["present", "target", "kept", "jump", "cost", "start", "step", "other"]
theorem sc_cheapest : FnScope N_cheapest ["present", "target", "kept", "jump"] (defScope s_cheapest) := ⟨rfl, rfl, rfl, by decide +kernel, rfl, by decide +kernel, by decide +kernel⟩
def sp_cheapest : Sp := fun vs H Q _ => ∃ (p t j : Int) (g : Addr) (ns : List Int), vs = [.int p, .int t, .ref g, .int j] ∧ 0 ≤ p ∧ 0 ≤ t ∧ 0 ≤ j ∧ H g = some (.lst (ns.map V.int)) ∧ Asc ns ∧
  ∀ a, H a = none → Q (.ref a) (upd H a (.tup [.int (best p t j ns).1, sv (best p t j ns).2]))
theorem ok_cheapest {f f1 f2 f3 : Addr} {fd fd1 fd2 fd3 : FuncData} {k : Nat} {ds : List Value} (D : Dn K mg "cheapest" s_cheapest ["present", "target", "kept", "jump"] f fd)
    (g1 : mg "check_step" = some (.ref f1)) (k1 : PySem.W.keepIn K (.ref f1) = true) (b1 : Binds K fd1 ["candidate", "lowest"] ds) (v1 : Vals [.int 0] ds) (G1 : FnOk P w K mg base CX0 k f1 fd1 ["candidate", "lowest"] sp_check_step)
    (D2 : Dn K mg "check_steps" s_check_steps ["candidate"] f2 fd2) (G2 : FnOk P w K mg base CX0 k f2 fd2 ["candidate"] (sp_check_steps K))
    (D3 : Dn K mg "check_count" s_check_count ["candidate"] f3 fd3) (G3 : FnOk P w K mg base CX0 k f3 fd3 ["candidate"] sp_check_count) (m1 : mg "abs" = none) :
    FnOk P w K mg base CX0 (k + 1) f fd ["present", "target", "kept", "jump"] sp_cheapest := by
  refine D.F.ok sc_cheapest (fun vs H Q E h => ?_) (fun cdv A outer s H vs Q E hr h => ?_)
  · obtain ⟨p, t, j, g, ns, rfl, _⟩ := h
    rfl
  · obtain ⟨p, t, j, g, ns, rfl, hp, ht, hj, hg, asc, q⟩ := h
    have nd := sc_cheapest.nd
    refine ⟨_, pss_cons (ps_expr (pe_call G1 hr (by rfl) g1 k1 b1 v1 pass0 (pa_cons (pv 0) pa_nil)))
      (pss_cons (ps_expr (pe_call G1 hr (by rfl) g1 k1 b1 v1 pass0 (pa_cons (pv 1) pa_nil)))
      (pss_cons (ps_expr (pe_call G2 hr (by rfl) D2.g D2.kp D2.b .nil pass0 (pa_cons (pv 2) pa_nil)))
      (pss_cons (ps_expr (pe_call G3 hr (by rfl) D3.g D3.kp D3.b .nil pass0 (pa_cons (pv 3) pa_nil)))
      (pss_cons (ps_par (i := 4) (j := 5) rfl nd rfl rfl (by decide) rfl rfl (pa_cons (pe_callB call_abs (by rfl) m1 (by decide +kernel) (pa_cons (pe_op op_sub (pv 1) (pv 0)) pa_nil)) (pa_cons pe_non pa_nil)) rfl)
      (pss_cons (ps_for PassesOwn.never rfl (pi_list (pv 2)) (pg_name (i := 6) nd rfl (.inl rfl))
        (pss_cons (ps_set (i := 7) nd rfl (.inl rfl) (pe_op op_add (pv 3) (pe_callB call_abs (by rfl) m1 (by decide +kernel) (pa_cons (pe_op op_sub (pv 1) (pv 6)) pa_nil))))
        (pss_one (ps_if (pt_cmpR op_lt (pv 7) (pv 4) (nomark _)) (pss_one (ps_par (i := 4) (j := 5) rfl nd rfl rfl (by decide) rfl rfl (pa_cons (pv 7) (pa_cons (pv 6) pa_nil)) rfl)) pss_nil))))
      (pss_one (ps_ret (pe_tup (pa_cons (pv 4) (pa_cons (pv 5) pa_nil)))))))))), ?_⟩
    refine ⟨_, rfl, p, 0, rfl, hp, ?_⟩
    refine ⟨_, rfl, t, 0, rfl, ht, ?_⟩
    refine ⟨_, rfl, g, ns, rfl, hg, asc, ?_⟩
    refine ⟨_, rfl, j, rfl, hj, ?_⟩
    refine ⟨_, rfl, _, rfl, _, _, rfl, rfl, _, rfl, _, _, rfl, ?_⟩
    refine ⟨_, rfl, g, rfl, ⟨_, SqL.of hg⟩, for_list (K := K) (a := g) (xs := ns.map V.int) (fun i σ H' => H' = H ∧ ∃ y6 y7 : Option V, σ = [some (.int p), some (.int t), some (.ref g), some (.int j), some (.int (best p t j (ns.take i)).1), some (sv (best p t j (ns.take i)).2), y6, y7])
      ⟨rfl, none, none, rfl⟩ (fun i σ H' _ h => by rw [h.1]; exact SqL.of hg) ?_ ?_⟩
    · rintro i x σ H' hx ⟨rfl, y6, y7, rfl⟩
      obtain ⟨hi, rfl⟩ := int_of hx
      rw [best_snoc hi]
      generalize best p t j (ns.take i) = b
      refine ⟨_, rfl, _, rfl, _, rfl, _, _, rfl, rfl, _, rfl, _, _, rfl, rfl, ?_⟩
      refine ⟨_, rfl, _, rfl, _, _, rfl, rfl, _, rfl, ?_⟩
      unfold ch
      refine ite2 (fun e => ?_) fun e => ?_
      · have e' : j + ab (t - ns[i]) < b.1 := of_decide_eq_true e
        rw [if_pos e']
        exact ⟨_, rfl, _, rfl, _, _, rfl, rfl, _, _, rfl⟩
      · have e' : ¬ j + ab (t - ns[i]) < b.1 := fun z => e (decide_eq_true z)
        rw [if_neg e']
        exact ⟨rfl, _, _, rfl⟩
    · rintro σ H' ⟨rfl, y6, y7, rfl⟩
      rw [List.length_map, List.take_length]
      exact ⟨_, rfl, _, rfl, by show 2 ≤ sizeLine; decide, fun a na => q a na⟩
end
end Sp1

set_option Elab.async false
set_option linter.all false
set_option maxRecDepth 100000
set_option maxHeartbeats 4000000
namespace Sp1
open PySem PySem.Spec PyProof.Rows L2
section
variable {P : Program} {w : World} {K : PySem.W.Frag} {mg : Str → Option Value} {base : Heap}
abbrev s_stream : Stmt := top 13
abbrev N_stream : List Str := ["_law_script", "_law_k", "_law_cell", "_law_size", "_law_mixed"]
theorem sc_stream : FnScope N_stream ["_law_script", "_law_k"] (defScope s_stream) := ⟨rfl, rfl, rfl, by decide +kernel, rfl, by decide +kernel, by decide +kernel⟩
def sp_stream (K : PySem.W.Frag) : Sp := fun vs H Q _ => ∃ (a : Addr) (ns : List Int) (k : Nat), vs = [.ref a, .int (k : Nat)] ∧ SqL K H a (ns.map V.int) ∧ k ≤ 1000 ∧ ∀ p H', Same H H' → H p = none → PoolAt H' p → Q (.ref p) H'
theorem ok_stream {f : Addr} {fd : FuncData} {k : Nat} (D : Dn K mg "_law_stream" s_stream ["_law_script", "_law_k"] f fd) (m1 : mg "len" = none) (m2 : mg "max" = none) (m3 : mg "int" = none) :
    FnOk P w K mg base CX0 (k + 1) f fd ["_law_script", "_law_k"] (sp_stream K) := by
  refine D.F.ok sc_stream (fun vs H Q E h => ?_) (fun cdv A outer s H vs Q E hr h => ?_)
  · obtain ⟨a, ns, k, rfl, _⟩ := h
    rfl
  · obtain ⟨a, ns, k, rfl, hS, hk, q⟩ := h
    have nd := sc_stream.nd
    refine ⟨_, pss_cons (ps_set (i := 2) nd rfl (.inl rfl) pe_int)
      (pss_cons (ps_if (pt_cmpR op_lt (pv 1) (pe_callB call_len_seq (by rfl) m1 PySem.boot_len (pa_cons (pv 0) pa_nil)) (nomark _)) (pss_one (ps_set (i := 2) nd rfl (.inl rfl) (pe_ix ix_list (pv 0) (pv 1) (fun _ _ => rfl)))) pss_nil)
      (pss_cons (ps_set (i := 3) nd rfl (.inl rfl) (pe_callB (call_max2 rfl) (by rfl) m2 (by decide +kernel) (pa_cons (pv 2) (pa_cons (pe_op op_sub (pe_un un_neg pe_int) (pv 2)) pa_nil))))
      (pss_cons (ps_set (i := 4) nd rfl (.inl rfl) (pe_op op_mod (pe_op op_mul (pe_op op_add (pe_op op_add (pe_op op_add (pe_op op_mod (pv 3) pe_int) (pe_op op_mul (pe_op op_mul pe_int (pv 1)) (pv 1))) (pe_op op_mul pe_int (pv 1))) pe_int) pe_int) pe_int))
      (pss_one (ps_ret (pe_lst (pa_cons (pe_op op_mul (pv 3) (pe_callTy call_int1 (by rfl) m3 (by decide +kernel) (pa_cons (pe_cmpR op_ge (pv 3) (pe_op op_pow pe_int pe_int) (nomark _)) pa_nil))) (pa_cons (pv 4) pa_nil)))))))), ?_⟩
    have tail : ∀ (z : Int) (H1 : Hp), 0 ≤ z → Same H H1 → ∀ m p, 0 ≤ m → m < 2147483647 → H1 p = none → Q (.ref p) (upd H1 p (.lst [.int (z * (if decide ((10 : Int) ^ (18 : Int).toNat ≤ z) = true then 1 else 0)), .int m])) := by
      intro z H1 h0 s1 m p m0 m1 np
      refine q p _ (s1.trans (same_new np)) (s1.free np) ⟨_, _, upd_same, ?_, m0, m1⟩
      split
      · omega
      · omega
    refine ⟨_, rfl, _, rfl, a, _, rfl, .inl hS, _, _, rfl, rfl, _, rfl, ite2 (fun e => ?_) fun e => ?_⟩
    · have hlt : k < ns.length := by
        have := of_decide_eq_true e
        rw [List.length_map] at this
        omega
      refine ⟨_, rfl, _, rfl, a, _, _, _, rfl, rfl, hS, atI_nat (j := k) (by rw [List.getElem?_map, List.getElem?_eq_getElem hlt]; rfl), ?_⟩
      generalize ns[k] = c
      have h0 : (0 : Int) ≤ if (- 1 : Int) - c > c then (- 1 : Int) - c else c := by split <;> omega
      refine ⟨_, rfl, _, rfl, _, rfl, _, _, rfl, rfl, c, - 1 - c, rfl, ?_⟩
      generalize (if (- 1 : Int) - c > c then (- 1 : Int) - c else c) = z at h0
      have b0 := Int.emod_nonneg z (show (2147483629 : Int) ≠ 0 by decide)
      have b1 := Int.emod_lt_of_pos z (show (0 : Int) < 2147483629 by decide)
      refine ⟨_, rfl, _, _, rfl, rfl, (by decide : (0 : Int) < 2147483629), _, rfl, _, _, rfl, rfl, .inl ⟨by decide, by decide⟩, _, rfl, _, _, rfl, rfl, .inr ⟨by omega, by omega⟩, _, _, rfl, rfl, ?_⟩
      refine ⟨_, rfl, _, _, rfl, rfl, .inl ⟨by decide, by decide⟩, _, _, rfl, rfl, _, _, rfl, rfl, _, _, rfl, rfl, .inr ⟨by decide, by decide⟩, _, _, rfl, rfl, (by decide : (0 : Int) < 2147483647), ?_⟩
      refine ⟨_, rfl, _, rfl, _, _, rfl, rfl, ⟨by decide, by decide, by decide⟩, _, _, rfl, rfl, .inr ⟨_, rfl, ?_⟩⟩
      refine ⟨_, _, rfl, rfl, .inr ?_, _, rfl, by show 2 ≤ sizeLine; decide, fun p np => tail z H h0 (Same.refl _) _ p (Int.emod_nonneg _ (by decide)) (Int.emod_lt_of_pos _ (by decide)) np⟩
      split <;> exact ⟨by decide, by decide⟩
    · have h0 : (0 : Int) ≤ if (- 1 : Int) - 0 > 0 then (- 1 : Int) - 0 else 0 := by split <;> omega
      refine ⟨_, rfl, _, rfl, _, rfl, _, _, rfl, rfl, 0, - 1 - 0, rfl, ?_⟩
      generalize (if (- 1 : Int) - 0 > 0 then (- 1 : Int) - 0 else 0) = z at h0
      have b0 := Int.emod_nonneg z (show (2147483629 : Int) ≠ 0 by decide)
      have b1 := Int.emod_lt_of_pos z (show (0 : Int) < 2147483629 by decide)
      refine ⟨_, rfl, _, _, rfl, rfl, (by decide : (0 : Int) < 2147483629), _, rfl, _, _, rfl, rfl, .inl ⟨by decide, by decide⟩, _, rfl, _, _, rfl, rfl, .inr ⟨by omega, by omega⟩, _, _, rfl, rfl, ?_⟩
      refine ⟨_, rfl, _, _, rfl, rfl, .inl ⟨by decide, by decide⟩, _, _, rfl, rfl, _, _, rfl, rfl, _, _, rfl, rfl, .inr ⟨by decide, by decide⟩, _, _, rfl, rfl, (by decide : (0 : Int) < 2147483647), ?_⟩
      refine ⟨_, rfl, _, rfl, _, _, rfl, rfl, ⟨by decide, by decide, by decide⟩, _, _, rfl, rfl, .inr ⟨_, rfl, ?_⟩⟩
      refine ⟨_, _, rfl, rfl, .inr ?_, _, rfl, by show 2 ≤ sizeLine; decide, fun p np => tail z H h0 (Same.refl _) _ p (Int.emod_nonneg _ (by decide)) (Int.emod_lt_of_pos _ (by decide)) np⟩
      split <;> exact ⟨by decide, by decide⟩
end
end Sp1

set_option Elab.async false
set_option linter.all false
set_option maxRecDepth 100000
set_option maxHeartbeats 4000000
namespace Sp1
open PySem PySem.Spec PyProof.Rows L2
section
variable {P : Program} {w : World} {K : PySem.W.Frag} {mg : Str → Option Value} {base : Heap}
abbrev s_draw : Stmt := top 14
abbrev N_draw : List Str := ["_law_stream_here", "_law_count", "_law_result"]
theorem sc_draw : FnScope N_draw ["_law_stream_here", "_law_count"] (defScope s_draw) := ⟨rfl, rfl, rfl, by decide +kernel, rfl, by decide +kernel, by decide +kernel⟩
def sp_draw : Sp := fun vs H Q _ => ∃ (p : Addr) (c : Int), vs = [.ref p, .int c] ∧ PoolAt H p ∧ 0 < c ∧ c < 2 ^ 100 ∧ ∀ r H', 0 ≤ r → r < c → SX p H H' → PoolAt H' p → Q (.int r) H'
theorem ok_draw {f : Addr} {fd : FuncData} {k : Nat} (D : Dn K mg "_law_draw" s_draw ["_law_stream_here", "_law_count"] f fd) : FnOk P w K mg base CX0 (k + 1) f fd ["_law_stream_here", "_law_count"] sp_draw := by
  refine D.F.ok sc_draw (fun vs H Q E h => ?_) (fun cdv A outer s H vs Q E hr h => ?_)
  · obtain ⟨p, c, rfl, _⟩ := h
    rfl
  · obtain ⟨p, c, rfl, ⟨a, b, hp, ha, hb0, hb1⟩, hc, hc2, q⟩ := h
    have nd := sc_draw.nd
    have cdiv : ∀ i, CDivW i c := fun i => wide_div (b := 100) hc (by omega) (by decide) (by decide)
    have ix0 : ∀ {x y : V}, atI [x, y] 0 = some x := fun {x y} => atI_nat (j := 0) rfl
    have ix1 : ∀ {x y : V}, atI [x, y] 1 = some y := fun {x y} => atI_nat (j := 1) rfl
    refine ⟨_, pss_cons (ps_if (pt_cmpR op_gt (pe_ix ix_list (pv 0) pe_int (fun _ _ => rfl)) pe_int (nomark _))
        (pss_cons (ps_set (i := 2) nd rfl (.inl rfl) (pe_op op_mod (pe_ix ix_list (pv 0) pe_int (fun _ _ => rfl)) (pv 1)))
          (pss_cons (ps_asg (pe_op op_fdivW (pe_ix ix_list (pv 0) pe_int (fun _ _ => rfl)) (pv 1)) (pg_sub (pv 0) pe_int set_list)) (pss_one (ps_ret (pv 2))))) pss_nil)
      (pss_cons (ps_asg (pe_op op_mod (pe_op op_add (pe_op op_mul (pe_ix ix_list (pv 0) pe_int (fun _ _ => rfl)) pe_int) pe_int) pe_int) (pg_sub (pv 0) pe_int set_list))
      (pss_one (ps_ret (pe_op op_mod (pe_op op_fdiv (pe_op op_mod (pe_op op_mul (pe_ix ix_list (pv 0) pe_int (fun _ _ => rfl)) (pe_ix ix_list (pv 0) pe_int (fun _ _ => rfl))) pe_int) pe_int) (pv 1))))), ?_⟩
    refine ⟨_, rfl, p, _, _, _, rfl, rfl, SqL.of hp, ix0, _, _, rfl, rfl, _, rfl, ite2 (fun e => ?_) fun e => ?_⟩
    · have e0 : 0 < a := of_decide_eq_true e
      refine ⟨_, rfl, p, _, _, _, rfl, rfl, SqL.of hp, ix0, _, rfl, _, _, rfl, rfl, hc, ?_⟩
      refine ⟨_, rfl, p, _, _, _, rfl, rfl, SqL.of hp, ix0, _, rfl, _, _, rfl, rfl, cdiv _, ?_⟩
      refine ⟨_, rfl, p, _, _, 0, rfl, rfl, hp, rfl, ?_⟩
      refine ⟨_, rfl, q _ _ (Int.emod_nonneg _ (by omega)) (Int.emod_lt_of_pos _ hc) sx_put ⟨a / c, b, upd_same, Int.ediv_nonneg ha (by omega), hb0, hb1⟩⟩
    · refine ⟨_, rfl, p, _, _, _, rfl, rfl, SqL.of hp, ix1, _, _, rfl, rfl, .inl ⟨by omega, by omega⟩, _, _, rfl, rfl, _, _, rfl, rfl, (by decide : (0 : Int) < 2147483647), ?_⟩
      refine ⟨_, rfl, p, _, _, 1, rfl, rfl, hp, rfl, ?_⟩
      have h1 : (upd H p (.lst [.int a, .int ((b * 69621 + 7) % 2147483647)])) p = some (.lst [.int a, .int ((b * 69621 + 7) % 2147483647)]) := upd_same
      have c0 := Int.emod_nonneg (b * 69621 + 7) (show (2147483647 : Int) ≠ 0 by decide)
      have c1 := Int.emod_lt_of_pos (b * 69621 + 7) (show (0 : Int) < 2147483647 by decide)
      refine ⟨_, rfl, p, _, _, _, rfl, rfl, SqL.of h1, ix1, _, rfl, p, _, _, _, rfl, rfl, SqL.of h1, ix1, _, _, rfl, rfl, .inl ⟨by omega, by omega⟩, _, _, rfl, rfl, (by decide : (0 : Int) < 2147483629), _, _, rfl, rfl, ⟨by decide, by decide⟩, _, rfl, _, _, rfl, rfl, hc, ?_⟩
      exact q _ _ (Int.emod_nonneg _ (by omega)) (Int.emod_lt_of_pos _ hc) sx_put ⟨a, _, h1, ha, c0, c1⟩
/-! _law_choose: one of some ints -/
abbrev s_choose : Stmt := top 15
theorem sc_choose : FnScope ["_law_stream_here", "_law_some"] ["_law_stream_here", "_law_some"] (defScope s_choose) := ⟨rfl, rfl, rfl, by decide +kernel, rfl, by decide +kernel, by decide +kernel⟩
def sp_choose : Sp := fun vs H Q _ => ∃ (p g : Addr) (ns : List Int), vs = [.ref p, .ref g] ∧ PoolAt H p ∧ g ≠ p ∧ H g = some (.lst (ns.map V.int)) ∧ 0 < ns.length ∧ ns.length ≤ 1000 ∧ ∀ r H', r ∈ ns → SX p H H' → PoolAt H' p → Q (.int r) H'
theorem ok_choose {f f1 : Addr} {fd fd1 : FuncData} {k : Nat} (D : Dn K mg "_law_choose" s_choose ["_law_stream_here", "_law_some"] f fd) (D1 : Dn K mg "_law_draw" s_draw ["_law_stream_here", "_law_count"] f1 fd1)
    (G1 : FnOk P w K mg base CX0 k f1 fd1 ["_law_stream_here", "_law_count"] sp_draw) (m1 : mg "len" = none) : FnOk P w K mg base CX0 (k + 1) f fd ["_law_stream_here", "_law_some"] sp_choose := by
  refine D.F.ok sc_choose (fun vs H Q E h => ?_) (fun cdv A outer s H vs Q E hr h => ?_)
  · obtain ⟨p, g, ns, rfl, _⟩ := h
    rfl
  · obtain ⟨p, g, ns, rfl, hp, hgp, hg, h0, h1, q⟩ := h
    refine ⟨_, pss_one (ps_ret (pe_ix ix_list (pv 1) (pe_call G1 hr (by rfl) D1.g D1.kp D1.b .nil pass0 (pa_cons (pv 0) (pa_cons (pe_callB call_len_seq (by rfl) m1 PySem.boot_len (pa_cons (pv 1) pa_nil)) pa_nil))) (fun _ _ => rfl))), ?_⟩
    refine ⟨_, rfl, _, rfl, _, rfl, g, _, rfl, .inl (SqL.of hg), p, _, rfl, hp, ?_, ?_, fun r H' r0 r1 sx hp' => ?_⟩
    · rw [List.length_map]; omega
    · rw [List.length_map]; omega
    · rw [List.length_map] at r1
      obtain ⟨i, rfl⟩ : ∃ i : Nat, r = (i : Int) := ⟨r.toNat, by omega⟩
      have hi : i < ns.length := by omega
      exact ⟨g, _, _, _, rfl, rfl, SqL.of (sx _ _ hgp hg), atI_nat (int_at hi), q _ _ (List.getElem_mem hi) sx hp'⟩
end
end Sp1

set_option Elab.async false
set_option linter.all false
set_option maxRecDepth 100000
set_option maxHeartbeats 4000000
namespace Sp1
open PySem PySem.Spec PyProof.Rows L2
theorem SX.put {p q : Addr} {H H' : Hp} {o : HO} (a : SX p H H') (n : H q = none) : SX p H (upd H' q o) := fun b u hb e => by
  rw [upd_ne (ne_of_none e n)]
  exact a b u hb e
theorem SX.fresh {p q : Addr} {H H' : Hp} {o : HO} (a : SX p H H') (hq : q ≠ p) (n : H' q = none) : SX p H (upd H' q o) := a.new (a.free hq n)
section
variable {P : Program} {w : World} {K : PySem.W.Frag} {mg : Str → Option Value} {base : Heap}
abbrev s_steps : Stmt := top 16
abbrev N_steps : List Str := ["_law_stream_here", "_law_far", "_law_k"]
theorem sc_steps : FnScope N_steps ["_law_stream_here"] (defScope s_steps) := ⟨rfl, rfl, rfl, by decide +kernel, rfl, by decide +kernel, by decide +kernel⟩
def sp_steps : Sp := fun vs H Q _ => ∃ p : Addr, vs = [.ref p] ∧ PoolAt H p ∧ ∀ (a b : Int) (g r : Addr) (ns : List Int) (H' : Hp), 0 ≤ a → a < 10 ^ 30 → 0 ≤ b → b < 10 ^ 30 → Asc ns → ns.length ≤ 8 → (∀ n ∈ ns, n < 10 ^ 30) →
  SX p H H' → PoolAt H' p → H' r = some (.lst [.int a, .int b, .ref g]) → H' g = some (.lst (ns.map V.int)) → r ≠ p → g ≠ p → Q (.ref r) H'
theorem ok_steps {f f1 f2 : Addr} {fd fd1 fd2 : FuncData} {k : Nat} (D : Dn K mg "_law_steps" s_steps ["_law_stream_here"] f fd) (D1 : Dn K mg "_law_draw" s_draw ["_law_stream_here", "_law_count"] f1 fd1) (G1 : FnOk P w K mg base CX0 k f1 fd1 ["_law_stream_here", "_law_count"] sp_draw)
    (D2 : Dn K mg "_law_choose" s_choose ["_law_stream_here", "_law_some"] f2 fd2) (G2 : FnOk P w K mg base CX0 k f2 fd2 ["_law_stream_here", "_law_some"] sp_choose) (m1 : mg "sorted" = none) (m2 : mg "set" = none) (m3 : mg "range" = none) :
    FnOk P w K mg base CX0 (k + 1) f fd ["_law_stream_here"] sp_steps := by
  refine D.F.ok sc_steps (fun vs H Q E h => ?_) (fun cdv A outer s H vs Q E hr h => ?_)
  · obtain ⟨p, rfl, _⟩ := h
    rfl
  · obtain ⟨p, rfl, hp, q⟩ := h
    have nd := sc_steps.nd
    refine ⟨_, pss_cons (ps_set (i := 1) nd rfl (.inr rfl) (pe_call G2 hr (by rfl) D2.g D2.kp D2.b .nil pass0 (pa_cons (pv 0) (pa_cons (pe_lst (pa_cons pe_int (pa_cons pe_int (pa_cons (pe_op op_pow pe_int pe_int) pa_nil)))) pa_nil))))
      (pss_one (ps_ret (pe_lst (pa_cons (pe_call G1 hr (by rfl) D1.g D1.kp D1.b .nil pass0 (pa_cons (pv 0) (pa_cons (pv 1) pa_nil)))
        (pa_cons (pe_call G1 hr (by rfl) D1.g D1.kp D1.b .nil pass0 (pa_cons (pv 0) (pa_cons (pv 1) pa_nil)))
        (pa_cons (pe_callB (cr_sortedSet rfl) (by rfl) m1 (by decide +kernel) (pa_cons (pe_callTy (cr_setI rfl) (by rfl) m2 (by decide +kernel) (pa_cons
          (pe_lc (own := [("_law_k", 2)]) (g := gName 2) (tt := tYes) rfl nd (pi_range1 (by rfl) m3 (pa_cons pe_int pa_nil)) (blkOk_by (N := N_steps) (sc := defScope s_steps) (by decide +kernel)) (fun _ _ _ _ _ => pg_name (i := 2) nd rfl (Or.inl rfl)) (fun _ _ _ _ _ => pts_nil)
            (fun _ _ _ _ _ => pe_call G1 hr (by rfl) D1.g D1.kp D1.b .nil pass0 (pa_cons (pv 0) (pa_cons (pv 1) pa_nil)))) pa_nil)) pa_nil)) pa_nil)))))), ?_⟩
    refine ⟨_, rfl, _, _, rfl, rfl, ⟨by decide, by decide, by decide⟩, by show 3 ≤ sizeLine; decide, fun l nl => ?_⟩
    have npl := hp.ne nl
    have hp1 := hp.new (o := .lst [.int 12, .int 40, .int (10 ^ (30 : Int).toNat)]) nl
    have sl : Same H (upd H l (.lst [.int 12, .int 40, .int (10 ^ (30 : Int).toNat)])) := same_new nl
    have hl : (upd H l (.lst [.int 12, .int 40, .int (10 ^ (30 : Int).toNat)])) l = some (.lst ([12, 40, 10 ^ (30 : Int).toNat].map V.int)) := upd_same
    generalize upd H l (.lst [.int 12, .int 40, .int (10 ^ (30 : Int).toNat)]) = H1 at hp1 sl hl
    refine ⟨p, l, _, rfl, hp1, npl.symm, hl, by decide, by decide, fun far H2 hfar sx2 hp2 => ?_⟩
    obtain ⟨far0, far1⟩ : 0 < far ∧ far ≤ 10 ^ 30 := by
      simp only [List.mem_cons, List.not_mem_nil, or_false] at hfar
      rcases hfar with rfl | rfl | rfl
      · exact ⟨by decide, by decide⟩
      · exact ⟨by decide, by decide⟩
      · exact ⟨by decide, by decide⟩
    have far2 : far < 2 ^ 100 := Int.lt_of_le_of_lt far1 (by decide)
    have s02 := (Same.sx (p := p) sl).trans sx2
    refine ⟨_, rfl, _, rfl, p, far, rfl, hp2, far0, far2, fun a H3 a0 a1 sx3 hp3 => ?_⟩
    refine ⟨_, rfl, _, rfl, p, far, rfl, hp3, far0, far2, fun b H4 b0 b1 sx4 hp4 => ?_⟩
    have s04 := (s02.trans sx3).trans sx4
    refine ⟨8, rfl, by decide, by decide, fun C nC => ?_⟩
    have npC := hp4.ne nC
    refine lc_it (walk_range (lo := 0) (n := ((8 : Int)).toNat)) (fun i H' => SX p H4 H' ∧ PoolAt H' p ∧ ∃ ns : List Int, H' C = some (.lst (ns.map V.int)) ∧ ns.length = i ∧ ∀ n ∈ ns, 0 ≤ n ∧ n < far)
      ⟨(SX.refl p H4).put nC, hp4.new nC, [], upd_same, rfl, (fun n hn => by cases hn)⟩ (fun _ _ _ _ => trivial) ?_ ?_
    · rintro i x Ha Hb hi ⟨sa, hpa, ns, eC, hlen, hns⟩ ⟨rfl, rfl⟩
      refine ⟨rfl, ?_⟩
      dsimp only [tYes]
      refine iteT ?_
      refine ⟨_, rfl, _, rfl, p, far, rfl, hpa, far0, far2, fun n Hc n0 n1 sc hpc => ?_⟩
      have eC2 := sc _ _ npC.symm eC
      refine ⟨_, eC2, small1000 (by rw [List.length_map, hlen]; omega), (sa.trans sc).put nC, hpc.put npC, ns ++ [n], ?_, ?_, ?_⟩
      · rw [upd_same, List.map_append]
        rfl
      · rw [List.length_append, hlen]
        rfl
      · intro m hm
        rcases List.mem_append.mp hm with hm | hm
        · exact hns m hm
        · rw [List.mem_singleton.mp hm]
          exact ⟨n0, n1⟩
    · rintro Ha ⟨sa, hpa, ns, eC, hlen, hns⟩
      have h8 : ns.length = 8 := hlen
      refine ⟨C, ns, rfl, SqL.of eC, by omega, fun S n nS hnS => ?_⟩
      have npS := hpa.ne nS
      refine ⟨S, _, n, rfl, upd_same, by omega, fun ms g pw mem len ng => ?_⟩
      have hp6 := hpa.new (o := SetO w S (fun j => decide (j ∈ ns)) n) nS
      have s6 : SX p H (upd Ha S (SetO w S (fun j => decide (j ∈ ns)) n)) := (s04.trans sa).fresh npS.symm nS
      have npg := hp6.ne ng
      refine ⟨by show 3 ≤ sizeLine; decide, fun r nr => ?_⟩
      have hp7 := hp6.new (o := .lst (ms.map V.int)) ng
      have s7 := s6.fresh (o := .lst (ms.map V.int)) npg.symm ng
      have eg : (upd (upd Ha S (SetO w S (fun j => decide (j ∈ ns)) n)) g (.lst (ms.map V.int))) g = some (.lst (ms.map V.int)) := upd_same
      have ngr : g ≠ r := ne_of_none eg nr
      have hms : ∀ m ∈ ms, 0 ≤ m ∧ m < far := fun m hm => hns m (of_decide_eq_true ((mem m).mp hm))
      refine q a b g r ms _ a0 (by omega) b0 (by omega) ⟨pw, fun m hm => (hms m hm).1⟩ (by omega) (fun m hm => by have := (hms m hm).2; omega) (s7.fresh (hp7.ne nr).symm nr) (hp7.new nr) upd_same ?_ (hp7.ne nr).symm npg.symm
      rw [upd_ne ngr]
      exact eg
end
end Sp1

set_option Elab.async false
set_option linter.all false
set_option maxRecDepth 100000
set_option maxHeartbeats 4000000
namespace Sp1
open PySem PySem.Spec PyProof.Rows L2
theorem ab_sub (a b : Int) : ab (a - b) = ab (b - a) := by unfold ab; split <;> split <;> omega
theorem iteT' {c : Bool} {A B : Prop} (hc : c = true) (h : A) : if c = true then A else B := by rw [if_pos hc]; exact h
theorem iteF' {c : Bool} {A B : Prop} (hc : c = false) (h : B) : if c = true then A else B := by rw [hc, if_neg Bool.false_ne_true]; exact h
def bv : Option Int → Int
  | none => -1
  | some s => s
theorem bv_none (o : Option Int) (h : ∀ s, o = some s → 0 ≤ s) : (if bv o < 0 then V.non else V.int (bv o)) = sv o := by
  cases o with
  | none => rfl
  | some s =>
    have := h s rfl
    show (if s < 0 then V.non else V.int s) = V.int s
    rw [if_neg (by omega)]
/-- the step kept is one of those seen -/
theorem best_mem {p t j : Int} {ns : List Int} : ∀ i, i ≤ ns.length → ∀ s, (best p t j (ns.take i)).2 = some s → s ∈ ns.take i
  | 0, _, s, h => by cases h
  | i + 1, hi, s, h => by
    have hi' : i < ns.length := hi
    rw [best_snoc hi'] at h
    rw [List.take_add_one, List.getElem?_eq_getElem hi']
    unfold ch at h
    split at h
    · exact List.mem_append_right _ (List.mem_singleton.mpr (Option.some.inj h).symm)
    · exact List.mem_append_left _ (best_mem i (by omega) s h)
theorem bv_lt {p t j : Int} {ns : List Int} (asc : Asc ns) {i : Nat} (hi : i < ns.length) : ¬ ns[i] < bv (best p t j (ns.take i)).2 := by
  intro h
  cases e : (best p t j (ns.take i)).2 with
  | none =>
    rw [e] at h
    have := asc.2 _ (List.getElem_mem hi)
    have h' : ns[i] < -1 := h
    omega
  | some s =>
    rw [e] at h
    have h' : ns[i] < s := h
    obtain ⟨k, hk, rfl⟩ := List.mem_iff_getElem.mp (best_mem i (by omega) s e)
    rw [List.length_take] at hk
    rw [List.getElem_take] at h'
    have := List.pairwise_iff_getElem.mp asc.1 k i (by omega) hi (by omega)
    omega
theorem pair_lt (a b c d : Int) : PySem.W.dataLt (.tuple [.int a, .int b]) (.tuple [.int c, .int d]) = if a = c then decide (b < d) else decide (a < c) := PySem.W.DatumOrd.lt_eq (α := Int × Int) (a, b) (c, d)
theorem pair_alike (a b c d : Int) : PySem.W.AlikeAll [.tuple [.int a, .int b], .tuple [.int c, .int d]] := PySem.W.alikeAll_datum (α := Int × Int) [(a, b), (c, d)]
section
variable {P : Program} {w : World} {K : PySem.W.Frag} {mg : Str → Option Value} {base : Heap}
theorem dp_pair {H : Hp} {a : Addr} {i j : Int} (h : H a = some (.tup [.int i, .int j])) : Dp K H (.ref a) (.tuple [.int i, .int j]) := .tup (SqT.of h) (.cons (.int i) (.cons (.int j) .nil))
abbrev s_due : Stmt := top 17
abbrev N_due : List Str := ["_law_present", "_law_target", "_law_kept", "_law_jump", "_law_best", "_law_step"]
theorem sc_due : FnScope N_due ["_law_present", "_law_target", "_law_kept", "_law_jump"] (defScope s_due) := ⟨rfl, rfl, rfl, by decide +kernel, rfl, by decide +kernel, by decide +kernel⟩
def sp_due : Sp := fun vs H Q _ => ∃ (p t j : Int) (g : Addr) (ns : List Int), vs = [.int p, .int t, .ref g, .int j] ∧ H g = some (.lst (ns.map V.int)) ∧ Asc ns ∧
  ∀ a H', Same H H' → H' a = some (.tup [.int (best p t j ns).1, sv (best p t j ns).2]) → Q (.ref a) H'
theorem ok_due {f : Addr} {fd : FuncData} {k : Nat} (D : Dn K mg "_law_due" s_due ["_law_present", "_law_target", "_law_kept", "_law_jump"] f fd) (m1 : mg "abs" = none) (m2 : mg "min" = none) :
    FnOk P w K mg base CX0 (k + 1) f fd ["_law_present", "_law_target", "_law_kept", "_law_jump"] sp_due := by
  refine D.F.ok sc_due (fun vs H Q E h => ?_) (fun cdv A outer s H vs Q E hr h => ?_)
  · obtain ⟨p, t, j, g, ns, rfl, _⟩ := h
    rfl
  · obtain ⟨p, t, j, g, ns, rfl, hg, asc, q⟩ := h
    have nd := sc_due.nd
    refine ⟨_, pss_cons (ps_set (i := 4) nd rfl (.inl rfl) (pe_tup (pa_cons (pe_callB call_abs (by rfl) m1 (by decide +kernel) (pa_cons (pe_op op_sub (pv 0) (pv 1)) pa_nil)) (pa_cons (pe_un un_neg pe_int) pa_nil))))
      (pss_cons (ps_for PassesOwn.never rfl (pi_list (pv 2)) (pg_name (i := 5) nd rfl (.inl rfl))
        (pss_one (ps_set (i := 4) nd rfl (.inl rfl) (pe_callB (cr_min2D rfl hr.units) (by rfl) m2 (by decide +kernel) (pa_cons (pv 4) (pa_cons (pe_tup (pa_cons (pe_op op_add (pv 3) (pe_callB call_abs (by rfl) m1 (by decide +kernel) (pa_cons (pe_op op_sub (pv 5) (pv 1)) pa_nil))) (pa_cons (pv 5) pa_nil))) pa_nil))))))
      (pss_one (ps_ret (pe_tup (pa_cons (pe_ix ix_tup (pv 4) pe_int (fun _ _ => rfl)) (pa_cons (pe_ifExp (pt_cmpR op_lt (pe_ix ix_tup (pv 4) pe_int (fun _ _ => rfl)) pe_int (nomark _)) pe_non (pe_ix ix_tup (pv 4) pe_int (fun _ _ => rfl))) pa_nil)))))), ?_⟩
    refine ⟨_, rfl, _, rfl, _, _, rfl, rfl, _, rfl, _, rfl, by show 2 ≤ sizeLine; decide, fun T nT => ?_⟩
    have s0 : Same H (upd H T (.tup [.int (ab (p - t)), .int (-1)])) := same_new nT
    have e0 : (upd H T (.tup [.int (ab (p - t)), .int (-1)])) T = some (.tup [.int (best p t j (ns.take 0)).1, .int (bv (best p t j (ns.take 0)).2)]) := by
      show _ = some (HO.tup [.int (ab (t - p)), .int (-1)])
      rw [ab_sub t p]
      exact upd_same
    refine ⟨_, rfl, g, rfl, ⟨_, SqL.of (same_new nT _ _ hg)⟩, for_list (K := K) (a := g) (xs := ns.map V.int) (fun i σ H' => Same H H' ∧ ∃ (z : Addr) (y5 : Option V), σ = [some (.int p), some (.int t), some (.ref g), some (.int j), some (.ref z), y5] ∧ H' z = some (.tup [.int (best p t j (ns.take i)).1, .int (bv (best p t j (ns.take i)).2)]))
      ⟨s0, T, none, rfl, e0⟩ (fun i σ H' _ h => SqL.of (h.1 _ _ hg)) ?_ ?_⟩
    · rintro i x σ H' hx ⟨s1, z, y5, rfl, hz⟩
      obtain ⟨hi, rfl⟩ := int_of hx
      have hlt := bv_lt (p := p) (t := t) (j := j) asc hi
      rw [best_snoc hi]
      generalize best p t j (ns.take i) = b at hz hlt
      refine ⟨_, rfl, _, rfl, _, rfl, _, rfl, _, _, rfl, rfl, _, rfl, _, _, rfl, rfl, _, rfl, by show 2 ≤ sizeLine; decide, fun a na => ?_⟩
      rw [show (if ns[i] - t < 0 then -(ns[i] - t) else ns[i] - t) = ab (t - ns[i]) from ab_sub _ _]
      have sa : Same H' (upd H' a (.tup [.int (j + ab (t - ns[i])), .int ns[i]])) := same_new na
      have ea : (upd H' a (.tup [.int (j + ab (t - ns[i])), .int ns[i]])) a = some (.tup [.int (j + ab (t - ns[i])), .int ns[i]]) := upd_same
      refine ⟨.ref z, .ref a, _, _, rfl, dp_pair (sa _ _ hz), dp_pair ea, pair_alike _ _ _ _, by simp [PyData.depthAll, PyData.depth], ?_⟩
      rw [pair_lt]
      have e1 : (if j + ab (t - ns[i]) = b.1 then decide (ns[i] < bv b.2) else decide (j + ab (t - ns[i]) < b.1)) = decide (j + ab (t - ns[i]) < b.1) := by
        split
        · rename_i h
          rw [h, decide_eq_false hlt, decide_eq_false (by omega)]
        · rfl
      rw [e1]
      unfold ch
      by_cases h : j + ab (t - ns[i]) < b.1
      · rw [decide_eq_true h, if_pos rfl, if_pos h]
        exact ⟨s1.trans sa, a, _, rfl, ea⟩
      · rw [decide_eq_false h, if_neg Bool.false_ne_true, if_neg h]
        exact ⟨s1.trans sa, z, _, rfl, sa _ _ hz⟩
    · rintro σ H' ⟨s1, z, y5, rfl, hz⟩
      rw [List.length_map, List.take_length] at hz
      have hb := bv_none (best p t j ns).2 fun s hs => asc.2 _ (by
        have := best_mem (p := p) (t := t) (j := j) (ns := ns) ns.length (Nat.le_refl _) s (by rw [List.take_length]; exact hs)
        rw [List.take_length] at this
        exact this)
      generalize best p t j ns = b at hz q hb
      have i0 : atI [V.int b.1, V.int (bv b.2)] 0 = some (.int b.1) := atI_nat (j := 0) rfl
      have i1 : atI [V.int b.1, V.int (bv b.2)] 1 = some (.int (bv b.2)) := atI_nat (j := 1) rfl
      refine ⟨_, rfl, z, _, _, _, rfl, rfl, SqT.of hz, i0, _, rfl, z, _, _, _, rfl, rfl, SqT.of hz, i1, _, _, rfl, rfl, _, rfl, ?_⟩
      by_cases h : bv b.2 < 0
      · rw [if_pos h] at hb
        refine iteT' (decide_eq_true h) ?_
        exact ⟨by show 2 ≤ sizeLine; decide, fun a na => q a _ (s1.trans (same_new na)) (by rw [← hb]; exact upd_same)⟩
      · rw [if_neg h] at hb
        refine iteF' (decide_eq_false h) ?_
        exact ⟨_, rfl, z, _, _, _, rfl, rfl, SqT.of hz, i1, by show 2 ≤ sizeLine; decide, fun a na => q a _ (s1.trans (same_new na)) (by rw [← hb]; exact upd_same)⟩
end
end Sp1

set_option Elab.async false
set_option linter.all false
set_option maxRecDepth 100000
set_option maxHeartbeats 4000000
namespace Sp1
open PySem PySem.Spec PyProof.Rows L2
def svD : Option Int → PyData
  | none => .none
  | some s => .int s
theorem dp_best {K : PySem.W.Frag} {H : Hp} {a : Addr} {c : Int} {o : Option Int} (h : H a = some (.tup [.int c, sv o])) : Dp K H (.ref a) (.tuple [.int c, svD o]) := by
  refine .tup (SqT.of h) (.cons (.int c) (.cons ?_ .nil))
  cases o with
  | none => exact .non
  | some s => exact .int s
theorem int_sh {i : Int} (h : i.natAbs < 2 ^ 200) : i.natAbs.log2 < 1920 ∧ PyData.weight (.int i) ≤ 300 := by
  have h1 : i.natAbs.log2 < 200 := PySem.Flt.log2_lt_of (by decide) h
  refine ⟨by omega, ?_⟩
  simp only [PyData.weight]
  split <;> omega
theorem shows_best {c : Int} {o : Option Int} (hc : c.natAbs < 2 ^ 200) (ho : ∀ s, o = some s → s.natAbs < 2 ^ 200) : Shows (.tuple [.int c, svD o]) := by
  obtain ⟨a1, a2⟩ := int_sh hc
  cases o with
  | none =>
    refine ⟨?_, ?_, ?_, ?_, ?_⟩
    · simp [svD, PyData.showable, PyData.showableAll, a1]
    · simp [svD, PyData.canLay0, PyData.canLayAll0]
    · simp [svD, PyData.hasDict, PyData.hasDictAll]
    · simp [svD, PyData.depth, PyData.depthAll]
    · have : PyData.weight (.tuple [.int c, svD none]) = PyData.weight (.int c) + 1 + (0 + 1 + 0) := by simp [svD, PyData.weight, PyData.weightAll]
      omega
  | some s =>
    obtain ⟨b1, b2⟩ := int_sh (ho s rfl)
    refine ⟨?_, ?_, ?_, ?_, ?_⟩
    · simp [svD, PyData.showable, PyData.showableAll, a1, b1]
    · simp [svD, PyData.canLay0, PyData.canLayAll0]
    · simp [svD, PyData.hasDict, PyData.hasDictAll]
    · simp [svD, PyData.depth, PyData.depthAll]
    · have : PyData.weight (.tuple [.int c, svD (some s)]) = PyData.weight (.int c) + 1 + (PyData.weight (.int s) + 1 + 0) := by
        show PyData.weightAll [.int c, .int s] = _
        rfl
      omega
theorem best_le {p t j : Int} {ns : List Int} (hj : 0 ≤ j) : ∀ i, i ≤ ns.length → 0 ≤ (best p t j (ns.take i)).1 ∧ (best p t j (ns.take i)).1 ≤ ab (t - p)
  | 0, _ => ⟨ab_nn _, Int.le_refl _⟩
  | i + 1, hi => by
    have hi' : i < ns.length := hi
    obtain ⟨h1, h2⟩ := best_le (p := p) (t := t) (ns := ns) hj i (by omega)
    rw [best_snoc hi']
    unfold ch
    have h3 := ab_nn (t - ns[i])
    by_cases h : j + ab (t - ns[i]) < (best p t j (ns.take i)).1
    · rw [if_pos h]
      exact ⟨by show 0 ≤ j + ab (t - ns[i]); omega, by show j + ab (t - ns[i]) ≤ ab (t - p); omega⟩
    · rw [if_neg h]
      exact ⟨h1, h2⟩
theorem best_shows {p t j : Int} {ns : List Int} (hj : 0 ≤ j) (p0 : 0 ≤ p) (p1 : p < 10 ^ 30) (t0 : 0 ≤ t) (t1 : t < 10 ^ 30) (hn : ∀ n ∈ ns, 0 ≤ n ∧ n < 10 ^ 30) : Shows (.tuple [.int (best p t j ns).1, svD (best p t j ns).2]) := by
  have h := best_le (p := p) (t := t) (ns := ns) hj ns.length (Nat.le_refl _)
  have hm := fun s => best_mem (p := p) (t := t) (j := j) (ns := ns) ns.length (Nat.le_refl _) s
  rw [List.take_length] at h hm
  have e30 : (10 : Int) ^ 30 < 2 ^ 200 := by decide
  have hab : ab (t - p) < 10 ^ 30 := by unfold ab; split <;> omega
  refine shows_best ?_ fun s hs => ?_
  · omega
  · have := hn s (hm s hs)
    omega
theorem cut_ints (ns : List Int) (lo hi : Option Int) : ∃ a b, cutV (ns.map V.int) lo hi = ((ns.drop a).take b).map V.int := ⟨_, _, by unfold cutV; rw [← List.map_drop, ← List.map_take]⟩
theorem Asc.cut {ns : List Int} (h : Asc ns) (a b : Nat) : Asc ((ns.drop a).take b) :=
  ⟨h.1.sublist ((List.take_sublist _ _).trans (List.drop_sublist _ _)), fun n hn => h.2 n (List.mem_of_mem_drop (List.mem_of_mem_take hn))⟩
section
variable {P : Program} {w : World} {K : PySem.W.Frag} {mg : Str → Option Value} {base : Heap}
abbrev s_law : Stmt := top 18
abbrev N_law : List Str := ["_law_script", "_law_k", "_law_stream_here", "_law_turn", "_law_present", "_law_target", "_law_kept", "_law_jump", "_law_held", "_law_told"]
theorem sc_law : FnScope N_law ["_law_script"] (defScope s_law) := ⟨rfl, rfl, rfl, by decide +kernel, rfl, by decide +kernel, by decide +kernel⟩
def sp_law (K : PySem.W.Frag) : Sp := fun vs H Q _ => ∃ (a : Addr) (ns : List Int), vs = [.ref a] ∧ SqL K H a (ns.map V.int) ∧ ns.length ≤ 63 ∧ ∀ H', Q (.bl true) H'
theorem ok_law {f f1 f2 f3 f4 f5 f6 : Addr} {fd fd1 fd2 fd3 fd4 fd5 fd6 : FuncData} (D : Dn K mg "law" s_law ["_law_script"] f fd)
    (D1 : Dn K mg "_law_stream" s_stream ["_law_script", "_law_k"] f1 fd1) (G1 : FnOk P w K mg base CX0 5 f1 fd1 ["_law_script", "_law_k"] (sp_stream K))
    (D2 : Dn K mg "_law_draw" s_draw ["_law_stream_here", "_law_count"] f2 fd2) (G2 : FnOk P w K mg base CX0 5 f2 fd2 ["_law_stream_here", "_law_count"] sp_draw)
    (D3 : Dn K mg "_law_choose" s_choose ["_law_stream_here", "_law_some"] f3 fd3) (G3 : FnOk P w K mg base CX0 5 f3 fd3 ["_law_stream_here", "_law_some"] sp_choose)
    (D4 : Dn K mg "_law_steps" s_steps ["_law_stream_here"] f4 fd4) (G4 : FnOk P w K mg base CX0 5 f4 fd4 ["_law_stream_here"] sp_steps)
    (D5 : Dn K mg "_law_due" s_due ["_law_present", "_law_target", "_law_kept", "_law_jump"] f5 fd5) (G5 : FnOk P w K mg base CX0 5 f5 fd5 ["_law_present", "_law_target", "_law_kept", "_law_jump"] sp_due)
    (D6 : Dn K mg "cheapest" s_cheapest ["present", "target", "kept", "jump"] f6 fd6) (G6 : FnOk P w K mg base CX0 5 f6 fd6 ["present", "target", "kept", "jump"] sp_cheapest)
    (m1 : mg "len" = none) (m2 : mg "range" = none) (m3 : mg "max" = none) (m4 : mg "min" = none) (m5 : mg "list" = none) (m6 : mg "repr" = none) : FnOkG P w K mg base CX0 6 f fd ["_law_script"] (sp_law K) := by
  refine Fun.okG D.F sc_law (fun vs H Q E h => ?_) (fun cdv A outer s H vs Q E hG hr h => ?_)
  · obtain ⟨a, ns, rfl, _⟩ := h
    rfl
  · obtain ⟨a, ns, rfl, hS, hlen, q⟩ := h
    have nd := sc_law.nd
    refine ⟨_, pss_cons (ps_for PassesOwn.never rfl (pi_range1 (by rfl) m2 (pa_cons (pe_callB (call_max2 rfl) (by rfl) m3 (by decide +kernel) (pa_cons pe_int (pa_cons (pe_callB (call_min2 rfl) (by rfl) m4 (by decide +kernel) (pa_cons pe_int (pa_cons (pe_callB call_len_seq (by rfl) m1 PySem.boot_len (pa_cons (pv 0) pa_nil)) pa_nil))) pa_nil))) pa_nil)) (pg_name (i := 1) nd rfl (.inl rfl))
        (pss_cons (ps_set (i := 2) nd rfl (.inl rfl) (pe_call G1 hr (by rfl) D1.g D1.kp D1.b .nil pass0 (pa_cons (pv 0) (pa_cons (pv 1) pa_nil))))
        (pss_one (ps_for PassesOwn.never rfl (pi_range1 (by rfl) m2 (pa_cons pe_int pa_nil)) (pg_name (i := 3) nd rfl (.inl rfl))
          (pss_cons (ps_asg (pe_call G4 hr (by rfl) D4.g D4.kp D4.b .nil pass0 (pa_cons (pv 2) pa_nil)) (pg_lst rfl (pgs_cons (pg_name (i := 4) nd rfl (.inl rfl)) (pgs_cons (pg_name (i := 5) nd rfl (.inl rfl)) (pgs_cons (pg_name (i := 6) nd rfl (.inl rfl)) pgs_nil)))))
          (pss_cons (ps_set (i := 6) nd rfl (.inl rfl) (pe_slice sl_list (pv 6) po_none (po_some (pe_call G2 hr (by rfl) D2.g D2.kp D2.b .nil pass0 (pa_cons (pv 2) (pa_cons pe_int pa_nil))))))
          (pss_cons (ps_set (i := 7) nd rfl (.inl rfl) (pe_call G3 hr (by rfl) D3.g D3.kp D3.b .nil pass0 (pa_cons (pv 2) (pa_cons (pe_lst (pa_cons pe_int (pa_cons pe_int (pa_cons pe_int (pa_cons pe_int (pa_cons pe_int (pa_cons (pe_op op_pow pe_int pe_int) pa_nil))))))) pa_nil))))
          (pss_cons (ps_set (i := 8) nd rfl (.inl rfl) (pe_callTy (r := rListOf K) call_list_of (by rfl) m5 (by decide +kernel) (pa_cons (pv 6) pa_nil)))
          (pss_cons (ps_set (i := 9) nd rfl (.inl rfl) (pe_call G6 hr (by rfl) D6.g D6.kp D6.b .nil pass0 (pa_cons (pv 4) (pa_cons (pv 5) (pa_cons (pv 6) (pa_cons (pv 7) pa_nil))))))
          (pss_one (ps_if (PW.pt (pw_or (pt_cmpR op_ne (pe_callB (cr_repr hG hr.units) (by rfl) m6 (by decide +kernel) (pa_cons (pv 9) pa_nil))
              (pe_callB (cr_repr hG hr.units) (by rfl) m6 (by decide +kernel) (pa_cons (pe_call G5 hr (by rfl) D5.g D5.kp D5.b .nil pass0 (pa_cons (pv 4) (pa_cons (pv 5) (pa_cons (pv 8) (pa_cons (pv 7) pa_nil))))) pa_nil)) (nomark _))
              (pw_or1 (pt_cmpR (op_neD hr.units) (pv 6) (pv 8) (nomark _))))) (pss_one (ps_ret pe_bl)) pss_nil)))))))))))
      (pss_one (ps_ret (pe_and (pe_cmpR (op_eqD hr.units) (pe_call G6 hr (by rfl) D6.g D6.kp D6.b .nil pass0 (pa_cons pe_int (pa_cons pe_int (pa_cons (pe_lst (pa_cons pe_int pa_nil)) (pa_cons pe_int pa_nil))))) (pe_tup (pa_cons pe_int (pa_cons pe_non pa_nil))) (nomark _))
        (pe_one (pe_cmpR (op_eqD hr.units) (pe_call G6 hr (by rfl) D6.g D6.kp D6.b .nil pass0 (pa_cons pe_int (pa_cons pe_int (pa_cons (pe_lst pa_nil) (pa_cons pe_int pa_nil))))) (pe_tup (pa_cons pe_int (pa_cons pe_non pa_nil))) (nomark _)))))), ?_⟩
    have hM : ∃ M : Int, M = (if (if (ns.length : Int) < 12 then (ns.length : Int) else 12) > 1 then (if (ns.length : Int) < 12 then (ns.length : Int) else 12) else 1) ∧ 0 ≤ M ∧ M ≤ 12 := ⟨_, rfl, by split <;> split <;> omega, by split <;> split <;> omega⟩
    obtain ⟨M, hM, M0, M12⟩ := hM
    refine ⟨_, rfl, a, _, rfl, .inl hS, _, _, rfl, _, _, rfl, ?_⟩
    rw [List.length_map]
    refine ⟨M, by rw [hM], by omega, by omega, ?_⟩
    refine for_range (lo := 0) (n := M.toNat) (fun i σ H' => Same H H' ∧ ∃ (y1 y2 y3 y4 y5 y6 y7 y8 y9 : Option V), σ = [some (.ref a), y1, y2, y3, y4, y5, y6, y7, y8, y9]) ⟨Same.refl _, _, _, _, _, _, _, _, _, _, rfl⟩ ?_ ?_
    · rintro i σ H' hi ⟨s1, y1, y2, y3, y4, y5, y6, y7, y8, y9, rfl⟩
      rw [Int.zero_add]
      refine ⟨_, rfl, _, rfl, a, ns, i, rfl, s1.seq hS, by omega, fun p H1 s2 np hp => ?_⟩
      have s12 := s1.trans s2
      have np0 := Same.free s1 np
      refine ⟨10, rfl, by decide, by decide, ?_⟩
      refine for_range (lo := 0) (n := ((10 : Int)).toNat) (fun k σ H' => Same H H' ∧ PoolAt H' p ∧ ∃ (y3 y4 y5 y6 y7 y8 y9 : Option V), σ = [some (.ref a), some (.int (i : Nat)), some (.ref p), y3, y4, y5, y6, y7, y8, y9]) ⟨s12, hp, _, _, _, _, _, _, _, rfl⟩ ?_ ?_
      · rintro k σ H2 hk ⟨s3, hp2, y3, y4, y5, y6, y7, y8, y9, rfl⟩
        refine ⟨_, rfl, p, rfl, hp2, fun pr tg g r ms H3 pr0 pr1 tg0 tg1 asc mlen mlt sx3 hp3 er eg nrp ngp => ?_⟩
        have keep : ∀ {H'}, SX p H2 H' → Same H H' := fun {H'} sx b o e => sx b o (ne_of_none e np0) (s3 b o e)
        refine ⟨r, _, rfl, SqL.of er, rfl, _, _, rfl, _, _, rfl, _, _, rfl, rfl, ?_⟩
        refine ⟨_, rfl, _, rfl, p, 9, rfl, hp3, by decide, by decide, fun d H4 d0 d1 sx4 hp4 => ⟨_, rfl, g, _, rfl, SqL.of (sx4 _ _ ngp eg), fun c nc => ?_⟩⟩
        obtain ⟨ca, cb, hcut⟩ := cut_ints ms none (some d)
        rw [hcut]
        have asc2 := asc.cut ca cb
        have mlt2 : ∀ n ∈ (ms.drop ca).take cb, 0 ≤ n ∧ n < 10 ^ 30 := fun n hn => ⟨asc2.2 n hn, mlt n (List.mem_of_mem_drop (List.mem_of_mem_take hn))⟩
        have mlen2 : ((ms.drop ca).take cb).length ≤ 8 := by rw [List.length_take, List.length_drop]; omega
        generalize (ms.drop ca).take cb = ks at asc2 mlt2 mlen2
        have ncp := (hp4.ne nc).symm
        have sc : SX p H2 (upd H4 c (.lst (ks.map V.int))) := (sx3.trans sx4).fresh ncp nc
        have ec : (upd H4 c (.lst (ks.map V.int))) c = some (.lst (ks.map V.int)) := upd_same
        have hp5 := hp4.new (o := .lst (ks.map V.int)) nc
        generalize upd H4 c (.lst (ks.map V.int)) = H5 at sc ec hp5
        refine ⟨_, rfl, _, _, rfl, rfl, ⟨by decide, by decide, by decide⟩, by show 6 ≤ sizeLine; decide, fun l nl => ?_⟩
        have nlp := (hp5.ne nl).symm
        have el : (upd H5 l (.lst [.int 0, .int 1, .int 2, .int 5, .int 20, .int (10 ^ (29 : Int).toNat)])) l = some (.lst ([0, 1, 2, 5, 20, 10 ^ (29 : Int).toNat].map V.int)) := upd_same
        have sl := sc.fresh (o := .lst [.int 0, .int 1, .int 2, .int 5, .int 20, .int (10 ^ (29 : Int).toNat)]) nlp nl
        have hp6 := hp5.new (o := .lst [.int 0, .int 1, .int 2, .int 5, .int 20, .int (10 ^ (29 : Int).toNat)]) nl
        have ec6 := (same_new (o := .lst [.int 0, .int 1, .int 2, .int 5, .int 20, .int (10 ^ (29 : Int).toNat)]) nl) _ _ ec
        generalize upd H5 l (.lst [.int 0, .int 1, .int 2, .int 5, .int 20, .int (10 ^ (29 : Int).toNat)]) = H6 at el sl hp6 ec6
        refine ⟨p, l, _, rfl, hp6, nlp, el, by decide, by decide, fun j H7 hj sx7 hp7 => ?_⟩
        have j0 : 0 ≤ j := by
          simp only [List.mem_cons, List.not_mem_nil, or_false] at hj
          rcases hj with rfl | rfl | rfl | rfl | rfl | rfl <;> decide
        have s7 := sl.trans sx7
        have ec7 := sx7 _ _ ncp ec6
        have SH := best_shows (ns := ks) j0 pr0 pr1 tg0 tg1 mlt2
        refine ⟨_, rfl, c, _, rfl, .inl (SqL.of ec7), fun h nh => ?_⟩
        have nhp := (hp7.ne nh).symm
        have sh := s7.fresh (o := .lst (ks.map V.int)) nhp nh
        have eh : (upd H7 h (.lst (ks.map V.int))) h = some (.lst (ks.map V.int)) := upd_same
        have ec8 := (same_new (o := .lst (ks.map V.int)) nh) _ _ ec7
        have hp8 := hp7.new (o := .lst (ks.map V.int)) nh
        generalize upd H7 h (.lst (ks.map V.int)) = H8 at sh eh ec8 hp8
        refine ⟨_, rfl, _, rfl, _, rfl, _, rfl, pr, tg, j, c, ks, rfl, pr0, tg0, j0, ec8, asc2, fun t nt => ?_⟩
        have st : Same H8 (upd H8 t (.tup [.int (best pr tg j ks).1, sv (best pr tg j ks).2])) := same_new nt
        have et : (upd H8 t (.tup [.int (best pr tg j ks).1, sv (best pr tg j ks).2])) t = some (.tup [.int (best pr tg j ks).1, sv (best pr tg j ks).2]) := upd_same
        generalize upd H8 t (.tup [.int (best pr tg j ks).1, sv (best pr tg j ks).2]) = H9 at st et
        refine ⟨_, rfl, t, _, rfl, dp_best et, SH, ?_⟩
        refine ⟨_, rfl, _, rfl, _, rfl, _, rfl, pr, tg, j, h, ks, rfl, st _ _ eh, asc2, fun u H10 su eu => ?_⟩
        refine ⟨u, _, rfl, dp_best eu, SH, rfl, _, rfl, iteNS rfl ?_⟩
        refine ⟨_, rfl, _, rfl, _, _, .lst (SqL.of (su _ _ (st _ _ ec8))) (dp_ints ks), .lst (SqL.of (su _ _ (st _ _ eh))) (dp_ints ks), shaped_i ks, shaped_i ks, _, rfl, ?_⟩
        rw [ne_same (shaped_i ks)]
        exact iteF ⟨((keep sh).trans st).trans su, (hp8.same st).same su, _, _, _, _, _, _, _, rfl⟩
      · rintro σ H2 ⟨s3, hp2, y3, y4, y5, y6, y7, y8, y9, rfl⟩
        exact ⟨s3, _, _, _, _, _, _, _, _, _, rfl⟩
    · rintro σ H' ⟨s1, y1, y2, y3, y4, y5, y6, y7, y8, y9, rfl⟩
      refine ⟨by show 1 ≤ sizeLine; decide, fun l nl => ?_⟩
      have b1 : best 5 5 0 [5] = (0, none) := by decide
      have b2 : best 0 9 0 [] = (9, none) := by decide
      have SH1 : SeqAt.shaped (.tuple [.int 0, svD none]) = true := by decide
      have SH2 : SeqAt.shaped (.tuple [.int 9, svD none]) = true := by decide
      refine ⟨5, 5, 0, l, [5], rfl, by decide, by decide, by decide, upd_same, ⟨by decide, by decide⟩, fun t nt => ⟨by show 2 ≤ sizeLine; decide, fun u nu => ?_⟩⟩
      rw [b1] at nu ⊢
      have et := same_new (o := .tup [.int 0, .non]) nu _ _ (upd_same (H := upd H' l (.lst [.int 5])) (a := t) (o := .tup [.int 0, sv none]))
      refine ⟨_, _, dp_best et, dp_best (c := 0) (o := none) upd_same, SH1, SH1, _, rfl, ?_⟩
      rw [eqv_same SH1]
      refine iteT ⟨Nat.zero_le _, fun l2 nl2 => ?_⟩
      refine ⟨0, 9, 0, l2, [], rfl, by decide, by decide, by decide, upd_same, ⟨List.Pairwise.nil, (fun n hn => by cases hn)⟩, fun t2 nt2 => ⟨by show 2 ≤ sizeLine; decide, fun u2 nu2 => ?_⟩⟩
      rw [b2] at nu2 ⊢
      refine ⟨_, _, dp_best ((same_new (o := .tup [.int 9, .non]) nu2) _ _ (upd_same (a := t2) (o := .tup [.int 9, sv none]))), dp_best (c := 9) (o := none) upd_same, SH2, SH2, ?_⟩
      rw [eqv_same SH2]
      exact q _
end
end Sp1

set_option Elab.async false
set_option linter.all false
set_option maxRecDepth 100000
set_option maxHeartbeats 4000000
namespace Sp1
open PySem PySem.Spec PyProof.Rows L2
theorem all_mk {l : PySem.W.OpenLaw} {w : World} {K : PySem.W.Frag} {h : Heap} {mg : Str → Option Value} {fa : Addr} {fS TD : Addr} {ocS kVS dcS pmS cdS ctS : Value} {odS anS : Option Addr} {slS : Array (Option Value)} {oT : Obj} {nT : Nat} {t0 : Tok}
    {f0 f1 f2 f3 f4 f5 f6 f7 f8 f9 : Addr} {fd0 fd1 fd2 fd3 fd4 fd5 fd6 fd7 fd8 fd9 : FuncData}
    (X : K.In h) (G : h.Ns mainGlobals mg) (hfa : mg "law" = some (.ref fa))
    (a0 : PySem.W.nsIn K mainGlobals "is_integer" = some (some (.ref f0))) (F0 : Fun K "is_integer" "is_integer" s_is_integer f0 fd0)
    (a1 : PySem.W.nsIn K mainGlobals "check_count" = some (some (.ref f1))) (F1 : Fun K "check_count" "check_count" s_check_count f1 fd1)
    (a2 : PySem.W.nsIn K mainGlobals "check_steps" = some (some (.ref f2))) (F2 : Fun K "check_steps" "check_steps" s_check_steps f2 fd2)
    (a3 : PySem.W.nsIn K mainGlobals "cheapest" = some (some (.ref f3))) (F3 : Fun K "cheapest" "cheapest" s_cheapest f3 fd3)
    (a4 : PySem.W.nsIn K mainGlobals "_law_stream" = some (some (.ref f4))) (F4 : Fun K "_law_stream" "_law_stream" s_stream f4 fd4)
    (a5 : PySem.W.nsIn K mainGlobals "_law_draw" = some (some (.ref f5))) (F5 : Fun K "_law_draw" "_law_draw" s_draw f5 fd5)
    (a6 : PySem.W.nsIn K mainGlobals "_law_choose" = some (some (.ref f6))) (F6 : Fun K "_law_choose" "_law_choose" s_choose f6 fd6)
    (a7 : PySem.W.nsIn K mainGlobals "_law_steps" = some (some (.ref f7))) (F7 : Fun K "_law_steps" "_law_steps" s_steps f7 fd7)
    (a8 : PySem.W.nsIn K mainGlobals "_law_due" = some (some (.ref f8))) (F8 : Fun K "_law_due" "_law_due" s_due f8 fd8)
    (a9 : PySem.W.nsIn K mainGlobals "law" = some (some (.ref f9))) (F9 : Fun K "law" "law" s_law f9 fd9)
    (aS : PySem.W.nsIn K mainGlobals "check_step" = some (some (.ref fS)))
    (lS : K.lookup fS = some ⟨ocS, odS, .func (PySem.W.fnOf "check_step" "check_step" (defArgs s_check_step) (defBody s_check_step) (defScope s_check_step) (.ref TD) kVS dcS pmS anS cdS ctS), slS⟩)
    (cS : PySem.W.codeIn K cdS "check_step" = true)
    (kS : PySem.W.keepIn K (.ref fS) = true)
    (lT : K.lookup TD = some oT)
    (dT : oT.data = .seq #[.int 0 t0] nT)
    (z_isinstance : PySem.W.nsIn K mainGlobals "isinstance" = some none) (z_int : PySem.W.nsIn K mainGlobals "int" = some none) (z_bool : PySem.W.nsIn K mainGlobals "bool" = some none) (z_list : PySem.W.nsIn K mainGlobals "list" = some none) (z_abs : PySem.W.nsIn K mainGlobals "abs" = some none) (z_len : PySem.W.nsIn K mainGlobals "len" = some none) (z_max : PySem.W.nsIn K mainGlobals "max" = some none) (z_range : PySem.W.nsIn K mainGlobals "range" = some none) (z_sorted : PySem.W.nsIn K mainGlobals "sorted" = some none) (z_set : PySem.W.nsIn K mainGlobals "set" = some none) (z_min : PySem.W.nsIn K mainGlobals "min" = some none) (z_repr : PySem.W.nsIn K mainGlobals "repr" = some none) :
    ∃ fd : FuncData, (∀ (s : Shared) (v : Value), BindsTo s fd ⟨[v], []⟩ [("_law_script", v)]) ∧ ∀ base : Heap, K.In base → base.Ns mainGlobals mg → FnOkG l.prog w K mg base CX0 6 fa fd ["_law_script"] (sp_law K) := by
  have e := hfa.symm.trans (PySem.W.mg_of X G a9)
  cases e
  have m_isinstance := PySem.W.mg_none_of X G z_isinstance
  have m_int := PySem.W.mg_none_of X G z_int
  have m_bool := PySem.W.mg_none_of X G z_bool
  have m_list := PySem.W.mg_none_of X G z_list
  have m_abs := PySem.W.mg_none_of X G z_abs
  have m_len := PySem.W.mg_none_of X G z_len
  have m_max := PySem.W.mg_none_of X G z_max
  have m_range := PySem.W.mg_none_of X G z_range
  have m_sorted := PySem.W.mg_none_of X G z_sorted
  have m_set := PySem.W.mg_none_of X G z_set
  have m_min := PySem.W.mg_none_of X G z_min
  have m_repr := PySem.W.mg_none_of X G z_repr
  have D0 : Dn K mg "is_integer" s_is_integer ["value"] f0 fd0 := ⟨F0, PySem.W.mg_of X G a0, F0.binds (ps := ["value"]) fun _ _ _ _ _ _ us hl => match us, hl with | [_], _ => rfl⟩
  have D1 : Dn K mg "check_count" s_check_count ["candidate"] f1 fd1 := ⟨F1, PySem.W.mg_of X G a1, F1.binds (ps := ["candidate"]) fun _ _ _ _ _ _ us hl => match us, hl with | [_], _ => rfl⟩
  have D2 : Dn K mg "check_steps" s_check_steps ["candidate"] f2 fd2 := ⟨F2, PySem.W.mg_of X G a2, F2.binds (ps := ["candidate"]) fun _ _ _ _ _ _ us hl => match us, hl with | [_], _ => rfl⟩
  have D3 : Dn K mg "cheapest" s_cheapest ["present", "target", "kept", "jump"] f3 fd3 := ⟨F3, PySem.W.mg_of X G a3, F3.binds (ps := ["present", "target", "kept", "jump"]) fun _ _ _ _ _ _ us hl => match us, hl with | [_, _, _, _], _ => rfl⟩
  have D4 : Dn K mg "_law_stream" s_stream ["_law_script", "_law_k"] f4 fd4 := ⟨F4, PySem.W.mg_of X G a4, F4.binds (ps := ["_law_script", "_law_k"]) fun _ _ _ _ _ _ us hl => match us, hl with | [_, _], _ => rfl⟩
  have D5 : Dn K mg "_law_draw" s_draw ["_law_stream_here", "_law_count"] f5 fd5 := ⟨F5, PySem.W.mg_of X G a5, F5.binds (ps := ["_law_stream_here", "_law_count"]) fun _ _ _ _ _ _ us hl => match us, hl with | [_, _], _ => rfl⟩
  have D6 : Dn K mg "_law_choose" s_choose ["_law_stream_here", "_law_some"] f6 fd6 := ⟨F6, PySem.W.mg_of X G a6, F6.binds (ps := ["_law_stream_here", "_law_some"]) fun _ _ _ _ _ _ us hl => match us, hl with | [_, _], _ => rfl⟩
  have D7 : Dn K mg "_law_steps" s_steps ["_law_stream_here"] f7 fd7 := ⟨F7, PySem.W.mg_of X G a7, F7.binds (ps := ["_law_stream_here"]) fun _ _ _ _ _ _ us hl => match us, hl with | [_], _ => rfl⟩
  have D8 : Dn K mg "_law_due" s_due ["_law_present", "_law_target", "_law_kept", "_law_jump"] f8 fd8 := ⟨F8, PySem.W.mg_of X G a8, F8.binds (ps := ["_law_present", "_law_target", "_law_kept", "_law_jump"]) fun _ _ _ _ _ _ us hl => match us, hl with | [_, _, _, _], _ => rfl⟩
  have D9 : Dn K mg "law" s_law ["_law_script"] fa fd9 := ⟨F9, PySem.W.mg_of X G a9, F9.binds (ps := ["_law_script"]) fun _ _ _ _ _ _ us hl => match us, hl with | [_], _ => rfl⟩
  have FS : FunD K "check_step" "check_step" (defArgs s_check_step) (defBody s_check_step) (defScope s_check_step) [V.int 0] [] fS (PySem.W.fnOf "check_step" "check_step" (defArgs s_check_step) (defBody s_check_step) (defScope s_check_step) (.ref TD) kVS dcS pmS anS cdS ctS) := ⟨⟨ocS, odS, .ref TD, kVS, dcS, pmS, anS, cdS, ctS, slS, rfl, lS, cS, .inr ⟨by simp, TD, oT, [.int 0 t0], nT, rfl, lT, dT, .cons ⟨t0, rfl⟩ .nil⟩, .inl rfl⟩, kS⟩
  obtain ⟨ds, v1, b1⟩ := FunD.binds1 (ps := ["candidate", "lowest"]) FS 1 0 (by simp) rfl fun _ _ _ _ _ _ _ us its hl hi => match us, its, hl, hi with | [_], [_], _, _ => ⟨_, rfl, rfl⟩
  have b2 : Binds K (PySem.W.fnOf "check_step" "check_step" (defArgs s_check_step) (defBody s_check_step) (defScope s_check_step) (.ref TD) kVS dcS pmS anS cdS ctS) ["candidate", "lowest"] [] := by
    obtain ⟨ds, rv, hb⟩ := FunD.binds1 (ps := ["candidate", "lowest"]) FS 2 1 (by simp) rfl fun _ _ _ _ _ _ _ us its hl hi => match us, its, hl, hi with | [_, _], [_], _, _ => ⟨_, rfl, rfl⟩
    cases rv
    exact hb
  have gS := PySem.W.mg_of X G aS
  obtain ⟨oc, od, kV, doc, pm, an, cdv, ct, osl, rfl, _, _⟩ := id F9.ex
  refine ⟨PySem.W.fnOf "law" "law" (defArgs s_law) (defBody s_law) (defScope s_law) .none kV doc pm an cdv ct, fun s v => .of_eq rfl, fun base _ _ => ?_⟩
  have H0 : ∀ k, FnOk l.prog w K mg base CX0 (k + 1) f0 fd0 ["value"] sp_is_integer := fun k => ok_is_integer D0 m_isinstance m_int m_bool
  have H1 : ∀ k, FnOk l.prog w K mg base CX0 (k + 2) f1 fd1 ["candidate"] sp_check_count := fun k => ok_check_count D1 D0 (H0 k)
  have HS : ∀ k, FnOk l.prog w K mg base CX0 (k + 2) fS (PySem.W.fnOf "check_step" "check_step" (defArgs s_check_step) (defBody s_check_step) (defScope s_check_step) (.ref TD) kVS dcS pmS anS cdS ctS) ["candidate", "lowest"] sp_check_step := fun k => ok_check_step FS D0 (H0 k)
  have H2 : ∀ k, FnOk l.prog w K mg base CX0 (k + 3) f2 fd2 ["candidate"] (sp_check_steps K) := fun k => ok_check_steps D2 gS kS b2 (HS k) m_isinstance m_list
  have H3 := ok_cheapest (P := l.prog) (w := w) (mg := mg) (base := base) (k := 4) D3 gS kS b1 v1 (HS 2) D2 (H2 1) D1 (H1 2) m_abs
  have H4 := ok_stream (P := l.prog) (w := w) (mg := mg) (base := base) (k := 4) D4 m_len m_max m_int
  have H5 : ∀ k, FnOk l.prog w K mg base CX0 (k + 1) f5 fd5 ["_law_stream_here", "_law_count"] sp_draw := fun k => ok_draw D5
  have H6 : ∀ k, FnOk l.prog w K mg base CX0 (k + 2) f6 fd6 ["_law_stream_here", "_law_some"] sp_choose := fun k => ok_choose D6 D5 (H5 k) m_len
  have H7 := ok_steps (P := l.prog) (w := w) (mg := mg) (base := base) (k := 4) D7 D5 (H5 3) D6 (H6 2) m_sorted m_set m_range
  have H8 := ok_due (P := l.prog) (w := w) (mg := mg) (base := base) (k := 4) D8 m_abs m_min
  exact ok_law D9 D4 H4 D5 (H5 4) D6 (H6 3) D7 H7 D8 H8 D3 H3 m_len m_range m_max m_min m_list m_repr
end Sp1

set_option Elab.async false
set_option linter.all false
set_option maxRecDepth 100000
open PySem PySem.W PyProof.Rows in
set_option maxRecDepth 100000 in
set_option maxHeartbeats 0 in
theorem PySem.Challenge.cw_frugaltape_k82_cheapest_ways_holds : PySem.Challenge.rw_frugaltape_k82_cheapest_ways.Holds := by
  w_on; o_law; k_head; (case hw => w_witness2)
  k_fill
  refine Sp1.walk_ofG (l := PySem.Challenge.rw_frugaltape_k82_cheapest_ways) (n := 63) (k := 6) (x := "_law_script") (CX := fun _ => L2.CX0) (sp := fun w => Sp1.sp_law _) rfl (by decide) rfl ⟨rfl, by decide, by decide⟩ (fun w h Y => PySem.W.kIn_of Y) ?F (fun _ _ a ns hl _ _ hS => ⟨a, ns, rfl, hS, hl, fun _ => rfl⟩) fun _ _ _ _ _ z => z
  case F =>
    intro w mg fa h KX G hmg
    refine' Sp1.all_mk KX G hmg ?a0 ?F0 ?a1 ?F1 ?a2 ?F2 ?a3 ?F3 ?a4 ?F4 ?a5 ?F5 ?a6 ?F6 ?a7 ?F7 ?a8 ?F8 ?a9 ?F9 ?aS ?lS ?cS ?kS ?lT ?dT ?z_isinstance ?z_int ?z_bool ?z_list ?z_abs ?z_len ?z_max ?z_range ?z_sorted ?z_set ?z_min ?z_repr
    (case a0 => k_is)
    (case F0 => exact L2.fun_mk (by k_is) (by k_is) (by k_is))
    (case a1 => k_is)
    (case F1 => exact L2.fun_mk (by k_is) (by k_is) (by k_is))
    (case a2 => k_is)
    (case F2 => exact L2.fun_mk (by k_is) (by k_is) (by k_is))
    (case a3 => k_is)
    (case F3 => exact L2.fun_mk (by k_is) (by k_is) (by k_is))
    (case a4 => k_is)
    (case F4 => exact L2.fun_mk (by k_is) (by k_is) (by k_is))
    (case a5 => k_is)
    (case F5 => exact L2.fun_mk (by k_is) (by k_is) (by k_is))
    (case a6 => k_is)
    (case F6 => exact L2.fun_mk (by k_is) (by k_is) (by k_is))
    (case a7 => k_is)
    (case F7 => exact L2.fun_mk (by k_is) (by k_is) (by k_is))
    (case a8 => k_is)
    (case F8 => exact L2.fun_mk (by k_is) (by k_is) (by k_is))
    (case a9 => k_is)
    (case F9 => exact L2.fun_mk (by k_is) (by k_is) (by k_is))
    (case aS => k_is)
    (case lS => k_is)
    (case cS => k_is)
    (case kS => k_is)
    (case lT => k_is)
    (case dT => rfl)
    (case z_isinstance => k_is)
    (case z_int => k_is)
    (case z_bool => k_is)
    (case z_list => k_is)
    (case z_abs => k_is)
    (case z_len => k_is)
    (case z_max => k_is)
    (case z_range => k_is)
    (case z_sorted => k_is)
    (case z_set => k_is)
    (case z_min => k_is)
    (case z_repr => k_is)

