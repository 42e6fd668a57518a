import PyProof.Rows.All
import Wide.All
import OpenK.AllK
import Wide.FinOn
import HandS.ForMost
import HandS.IsInst
import HandS.TupSets
import HandS.Conv
import HandS.Zip
import HandS.Wide
import HandS.Flow
import HandS.TupLen
import HandS.DictTup
import KE.KDictCopyH
import PySem.Challenge.RW_whoselaw_k02_sayings_in_force
set_option Elab.async false
set_option linter.all false
set_option maxRecDepth 100000
namespace WL
open PySem PySem.Spec PyProof.Rows L2

/-! ### sorted(d.keys()), the keys tuples of ints -/
def keysO (p d : Addr) : HO := .ext fun h => PySem.W.KdlKeysView h p d
theorem keysO_ok {P : Program} {w : World} {H : Hp} {h : Heap} {p d : Addr} (e : h.get? p = some { cls := .type "dict_keys", data := .fields #[.ref d] }) : ObjOk P w H h p (keysO p d) :=
  ⟨⟨_, e, rfl, rfl⟩, ⟨_, e⟩, fun h1 h2 ⟨o, a, b, c⟩ k => ⟨o, k o a, b, c⟩⟩
def intK : Key → Int
  | .inl i => i
  | .inr _ => 0
section
variable {prog : Program} {w : World} {A : Around} {E : Value → Shared → Prop} {s : Shared}
theorem meetsKeys {d : Addr} {es : Array DictEntry} {ep : Nat} (hd : (d == sysModules) = false) :
    MeetsIn prog w (Builtin.«dict.keys» ⟨[.ref d], []⟩) (fun _ R s => s.heap.DictRaw d es ep ∧
      R (.ok (.ret (.ref s.heap.objs.size))) { s with heap := s.heap.push { cls := .type "dict_keys", data := .fields #[.ref d] } }) :=
  .of_wp fun A R s ⟨hm, h⟩ => by
    refine wpAny_bind ?_
    unfold Builtin.Dict.noArgs
    refine wpAny_bind (wpAny_notOrdered_dict hm.typeIs ?_)
    show wpAny _ _ (pure d) _ _ s
    refine wpAny_pure ?_
    show wpAny _ _ (Builtin.Dict.showsAll d >>= _) _ _ s
    unfold Builtin.Dict.showsAll
    rw [if_neg (by rw [hd]; exact Bool.false_ne_true)]
    refine wpAny_bind (wpAny_pure ?_)
    exact wpAny_bind (wpAny_newObj_type (wpAny_pure ⟨_, rfl, h⟩))
end
section
variable {X : Cx}
def rKeysT : V → List V → Hp → VK → Prop := fun x xs H Q => ∃ (a : Addr) (kvs : List (List Key × V)), x = .ref a ∧ xs = [] ∧ H a = some (.dT kvs) ∧ ∀ p, H p = none → Q (.ref p) (upd H p (keysO p a))
theorem mt_keysT : MtR X "dict.keys" rKeysT := by
  intro pins s σ H x xs v us Q I rx rxs h
  obtain ⟨a, kvs, rfl, rfl, ha, q⟩ := h
  cases rx
  cases rxs
  obtain ⟨z, hd, xs', rel, o, es, ep, ho, hx, hdat, _⟩ := dt_of I.hok ha
  have hf : H s.heap.objs.size = none := I.hok.fresh (Nat.le_refl _)
  have hm : s.heap.DictRaw a es ep := ⟨o, ho, hx, hdat⟩
  exact call_meetsIn PySem.F.slot_dict_keys hm.typeIs PySem.F.entry_dict_keys (PySem.F.args_dict_keys_1 _) (meetsKeys (es := es) (ep := ep) hd)
    ⟨hm, .ref s.heap.objs.size, upd H s.heap.objs.size (keysO s.heap.objs.size a), I.laid (t' := s.toks) (fun b u e => Heap.get?_push_of_some _ e) (Nat.le_refl _) (keysO_ok (Heap.get?_push_size _ rfl)), rfl, q _ hf⟩
/-- sorted(d.keys()): each key d ints in [0, B) -/
def rSortK (d : Nat) (B : Int) : List V → Hp → VK → Prop := fun vs H Q => ∃ (p a : Addr) (kvs : List (List Key × V)), vs = [.ref p] ∧ H p = some (keysO p a) ∧ H a = some (.dT kvs) ∧ kvs.length < 64 ∧
  (∀ e ∈ kvs, ∃ ns : List Int, e.1 = ns.map Sum.inl ∧ ns.length = d ∧ TS.Bd B ns) ∧
  ∀ (l : Addr) (L : List (List Int × Addr)), (L.map fun q => q.1.map Sum.inl).Perm (kvs.map (·.1)) → (∀ q ∈ L, H q.2 = some (.tup (q.1.map V.int))) → L.Pairwise (fun q r => TS.code B q.1 ≤ TS.code B r.1) → H l = none →
    Q (.ref l) (upd H l (.lst (L.map fun q => V.ref q.2)))
theorem kV_ints (ns : List Int) : (ns.map Sum.inl).map kV = ns.map V.int := by
  rw [List.map_map]; rfl
theorem intK_ints (ns : List Int) : (ns.map (Sum.inl : Int → Key)).map intK = ns := by
  rw [List.map_map]
  show ns.map (fun x => x) = ns
  rw [List.map_id']
theorem cr_sortK {d : Nat} {B : Int} (hd : 1 ≤ d) (hc : X.calm = true) : CallR X (.builtin "sorted") (rSortK d B) := by
  intro pins s σ H xs us Q I r h
  obtain ⟨p, a, kvs, rfl, hp, ha, h64, hk, q⟩ := h
  obtain rfl := Vals.ref1 r
  have view : PySem.W.KdlKeysView s.heap p a := (show ObjOk X.prog X.w H s.heap p (keysO p a) from I.hok p _ hp).1
  obtain ⟨z, hs, ks, pr, o, es, ep, ho, hx, hdt, he, _, hn⟩ := dt_of I.hok ha
  have l1 : es.size = ks.length := size_of_entries he
  have l2 : kvs.length = ks.length := Paired.length pr
  have kat : ∀ x ∈ ks, ∃ ns : List Int, x.1 = ns.map Sum.inl ∧ ns.length = d ∧ TS.Bd B ns ∧ H x.2.1 = some (.tup (ns.map V.int)) := fun x hx' => by
    obtain ⟨j, hj⟩ := List.mem_iff_getElem?.mp hx'
    obtain ⟨e0, he0, r1, r2, r3⟩ := DX.pget pr hj
    obtain ⟨ns, e1, e2, e3⟩ := hk e0 (List.mem_of_getElem? he0)
    refine ⟨ns, by rw [← r1, e1], e2, e3, ?_⟩
    rw [r2, e1, kV_ints]
  have keys : ks.map (·.1) = kvs.map (·.1) := by
    have : ∀ {l1 : List (List Key × V)} {l2 : List (List Key × Addr × Value)}, KT H l1 l2 → l2.map (·.1) = l1.map (·.1) := fun r => by
      induction r with
      | nil => rfl
      | cons h t ih => rw [List.map_cons, List.map_cons, ih, h.1]
    exact this pr
  refine Calls.call_function_entry PyProof.Rows.kind_sorted PyProof.Rows.plain_sorted PyProof.Rows.entry_sorted (PyProof.Rows.args_sorted1 _) ?_
  unfold Builtin.«sorted»
  refine wpAny_bind (m := checkCount "sorted" 1 1 _) (wpAny_pure ?_)
  refine wpAny_bind (PySem.W.kdu_collect (A := X.A.in1) (KdlSrc.rawKeys (r := p) (d := a) (es := es) (ep := ep)) (I.ok.hd hc) ⟨view, o, ho, hx, hdt⟩ (by rw [sizeLine_eq]; omega) fun h' tk acc hkeep it => ?_)
  have ea : acc.toList = ks.map fun x => Value.ref x.2.1 := by
    have hl : acc.toList.length = ks.length := by rw [Array.length_toList, it.1]; exact l1
    apply List.ext_getElem?
    intro j
    rw [List.getElem?_map]
    cases hj : acc.toList[j]? with
    | none =>
      have h1 := List.getElem?_eq_none_iff.mp hj
      rw [List.getElem?_eq_none (by omega)]
      all_goals rfl
    | some v =>
      obtain ⟨hi, hv⟩ := it.2 j v (by rw [← Array.getElem?_toList]; exact hj)
      have qe := entry_at he j
      rw [Array.getElem?_eq_getElem hi] at qe
      cases hb : ks[j]? with
      | none =>
        rw [hb] at qe
        exact nomatch (show some _ = none from qe)
      | some b =>
        rw [hb] at qe
        have e2 : es[j] = entryOfKey (tupleKind (mixKind X.prog X.w)) b := Option.some.inj qe
        rw [hv, e2]
        all_goals rfl
  have hal : acc.toList.length = ks.length := by rw [ea, List.length_map]
  have I1 : Inv X pins σ H { s with heap := h', toks := tk } := I.kept hkeep
  refine wpAny_bind (wpAny_newList ?_ (by rw [hal, sizeLine_eq]; omega))
  have hoL : (h'.push (seqObj "list" acc.toList.toArray 0)).get? h'.objs.size = some (seqObj "list" acc.toList.toArray 0) := Heap.get?_push_size _ rfl
  show wpAny _ _ _ _ _ { s with heap := h'.push (seqObj "list" acc.toList.toArray 0), toks := tk }
  have I2 : Inv X pins σ H { s with heap := h'.push (seqObj "list" acc.toList.toArray 0), toks := tk } := I1.kept (t' := tk) fun b u e => Heap.get?_push_of_some _ e
  have tin : ∀ x ∈ ks, ∀ ns : List Int, H x.2.1 = some (.tup (ns.map V.int)) → TS.TupInts (h'.push (seqObj "list" acc.toList.toArray 0)) (.ref x.2.1) ns := fun x _ ns e => tupI_raw I2 (SqT.of e)
  refine wpAny_bind (wpAny_holding (wpAny_call_entry PyProof.Rows.slot_list_sort ⟨_, hoL, rfl⟩ PyProof.Rows.entry_list_sort
    (TS.sort_tups (s := { s with heap := h'.push (seqObj "list" acc.toList.toArray 0), toks := tk }) (d := d) (B := B) hoL (by rw [hal, ← l2]; exact h64) hd (fun v hv => ?_)
      (fun v => TS.code B (TS.intsOf (h'.push (seqObj "list" acc.toList.toArray 0)) v)) (fun v hv ns t => by rw [t.ints]) fun out g1 g2 => ⟨_, rfl, ?_⟩) (PyProof.Rows.args_list_sort _)))
  · rw [ea] at hv
    obtain ⟨x, hx', rfl⟩ := List.mem_map.mp hv
    obtain ⟨ns, e1, e2, e3, e4⟩ := kat x hx'
    exact ⟨ns, tin x hx' ns e4, e2, e3⟩
  · rw [ea] at g1
    obtain ⟨ks', pk, ek⟩ := perm_lift (fun x : List Key × Addr × Value => Value.ref x.2.1) g1 ks rfl
    obtain ⟨e', he'⟩ := PyProof.Rows.sortedHeap_at (vs := acc.toList) (out := out) hoL
    have hin : ∀ x ∈ ks', x ∈ ks := fun x hx' => pk.mem_iff.mp hx'
    have hlen : (((ks'.map fun x => (x.1.map intK, x.2.1)).map fun q : List Int × Addr => V.ref q.2)).length ≤ sizeLine := by
      rw [List.length_map, List.length_map, pk.length_eq, sizeLine_eq]; omega
    have rv : Vals ((ks'.map fun x => (x.1.map intK, x.2.1)).map fun q : List Int × Addr => V.ref q.2) out.toList := by
      rw [← ek, List.map_map]
      exact vals_maps (fun x : List Key × Addr × Value => V.ref x.2.1) (fun x => Value.ref x.2.1) ks' fun _ _ => rfl
    refine wpAny_pure ⟨_, rfl, .ref h'.objs.size, upd H h'.objs.size (.lst ((ks'.map fun x => (x.1.map intK, x.2.1)).map fun q : List Int × Addr => V.ref q.2)), I1.laid (t' := tk) (fun b u e => ?_) (Nat.le_refl _)
      (show ObjOk X.prog X.w _ _ _ (.lst _) from ⟨hlen, out.toList, e', rv, by rw [Array.toArray_toList]; exact he'⟩), rfl, q _ _ ?_ ?_ ?_ (I1.hok.fresh (Nat.le_refl _))⟩
    · have hb : b < h'.objs.size := Heap.lt_size e
      rw [PyProof.Rows.sortedHeap_old (Nat.ne_of_lt hb) (by rw [size_push']; exact Nat.lt_succ_of_lt hb)]
      exact Heap.get?_push_of_some _ e
    · rw [← keys, List.map_map]
      have e5 : ks'.map ((fun q : List Int × Addr => q.1.map (Sum.inl : Int → Key)) ∘ fun x => (x.1.map intK, x.2.1)) = ks'.map (·.1) := List.map_congr_left fun x hx' => by
        obtain ⟨ns, e1, _⟩ := kat x (hin x hx')
        show (x.1.map intK).map Sum.inl = x.1
        rw [e1, intK_ints]
      rw [e5]
      exact pk.map (·.1)
    · intro q hq
      obtain ⟨x, hx', rfl⟩ := List.mem_map.mp hq
      obtain ⟨ns, e1, _, _, e4⟩ := kat x (hin x hx')
      show H x.2.1 = some (.tup ((x.1.map intK).map V.int))
      rw [e1, intK_ints]
      exact e4
    · rw [List.pairwise_map]
      rw [← ek, List.pairwise_map] at g2
      refine List.Pairwise.imp_of_mem (fun {x y} hx' hy h => ?_) g2
      obtain ⟨ns, e1, _, _, e4⟩ := kat x (hin x hx')
      obtain ⟨ms, f1, _, _, f4⟩ := kat y (hin y hy)
      have i1 := (tin x (hin x hx') ns e4).ints
      have i2 := (tin y (hin y hy) ms f4).ints
      rw [i1, i2] at h
      show TS.code B (x.1.map intK) ≤ TS.code B (y.1.map intK)
      rw [e1, f1, intK_ints, intK_ints]
      exact h
end
end WL

set_option Elab.async false
set_option linter.all false
set_option maxRecDepth 100000
namespace WL
open PySem PySem.Spec PyProof.Rows L2

structure Bt (mg : Str → Option Value) : Prop where
  len : mg "len" = none
  range : mg "range" = none
  sorted : mg "sorted" = none
  tuple : mg "tuple" = none
  list : mg "list" = none
  abs : mg "abs" = none
  isinstance : mg "isinstance" = none
  zip : mg "zip" = none
  all : mg "all" = none
  min : mg "min" = none
  max : mg "max" = none
  bool : mg "bool" = none
  str : mg "str" = none
  int : mg "int" = none
  set : mg "set" = none
  reversed : mg "reversed" = none
  enumerate : mg "enumerate" = none
structure Df (K : PySem.W.Frag) (mg : Str → Option Value) (x : Str) (st : Stmt) (f : Addr) (fd : FuncData) (ps : List Str) : Prop where
  F : Fun K x x st f fd
  g : mg x = some (.ref f)
  b : Binds K fd ps []

/-! ### heaps -/
theorem same_upd {H : Hp} {p : Addr} {o : HO} (h : H p = none) : Same H (upd H p o) := fun b x e => by
  rw [upd_ne (ne_of_none e h)]
  exact e
theorem sameT {K : PySem.W.Frag} {H H' : Hp} {a : Addr} {xs : List V} (e : Same H H') (h : SqT K H a xs) : SqT K H' a xs := by
  rcases h with (h | ⟨o, h⟩) | h
  · exact .inl (.inl (e _ _ h))
  · exact .inl (.inr ⟨o, e _ _ h⟩)
  · exact .inr h
/-- the tuples are kept -/
def Tk (H H' : Hp) : Prop := ∀ b xs, H b = some (.tup xs) → H' b = some (.tup xs)
theorem Tk.refl (H : Hp) : Tk H H := fun _ _ h => h
theorem Tk.trans {H H1 H2 : Hp} (a : Tk H H1) (b : Tk H1 H2) : Tk H H2 := fun c o h => b c o (a c o h)
theorem Tk.of {H H' : Hp} (s : Same H H') : Tk H H' := fun b xs h => s b _ h
theorem Tk.upd {H : Hp} {p : Addr} {o u : HO} (h : H p = some u) (nt : ∀ xs, u ≠ .tup xs) : Tk H (upd H p o) := fun b xs e => by
  rw [upd_ne]
  · exact e
  · intro z
    subst z
    rw [h] at e
    exact nt xs (Option.some.inj e)
/-- all but a and d.1 are as they were -/
def Kp (a : Addr) (d : Addr × Addr) (H H' : Hp) : Prop := ∀ b o, b ≠ a → b ≠ d.1 → H b = some o → H' b = some o
theorem Kp.refl (a : Addr) (d : Addr × Addr) (H : Hp) : Kp a d H H := fun _ _ _ _ h => h
theorem Kp.trans {a : Addr} {d : Addr × Addr} {H H1 H2 : Hp} (x : Kp a d H H1) (y : Kp a d H1 H2) : Kp a d H H2 := fun b o h1 h2 h => y b o h1 h2 (x b o h1 h2 h)
theorem Kp.of {a : Addr} {d : Addr × Addr} {H H' : Hp} (s : Same H H') : Kp a d H H' := fun b o _ _ h => s b o h

/-! ### the last that is let by -/
def pick {α : Type} (p : α → Bool) (rs : List α) : Option α := rs.reverse.find? p
theorem pick_nil {α : Type} (p : α → Bool) : pick p [] = none := rfl
theorem pick_snoc {α : Type} (p : α → Bool) (rs : List α) (x : α) : pick p (rs ++ [x]) = if p x then some x else pick p rs := by
  unfold pick
  rw [List.reverse_append]
  show List.find? p (x :: rs.reverse) = _
  rw [List.find?_cons]
  cases p x <;> rfl
theorem pick_take {α : Type} (p : α → Bool) {rs : List α} {i : Nat} {x : α} (h : rs[i]? = some x) : pick p (rs.take (i + 1)) = if p x then some x else pick p (rs.take i) := by
  rw [List.take_add_one, h]
  exact pick_snoc p _ x
theorem pick_mem {α : Type} {p : α → Bool} {rs : List α} {x : α} (h : pick p rs = some x) : x ∈ rs ∧ p x = true :=
  ⟨List.mem_reverse.mp (List.mem_of_find?_eq_some h), List.find?_some h⟩
theorem find_congr {α : Type} {p q : α → Bool} : ∀ {rs : List α}, (∀ x ∈ rs, p x = q x) → rs.find? p = rs.find? q
  | [], _ => rfl
  | y :: l, h => by
    rw [List.find?_cons, List.find?_cons, h y List.mem_cons_self, find_congr fun x hx => h x (List.mem_cons_of_mem _ hx)]
theorem pick_congr {α : Type} {p q : α → Bool} {rs : List α} (h : ∀ x ∈ rs, p x = q x) : pick p rs = pick q rs :=
  find_congr fun x hx => h x (List.mem_reverse.mp hx)

/-! ### data -/
theorem dp_ints {K : PySem.W.Frag} {H : Hp} : ∀ ns : List Int, DpAll K H (ns.map V.int) (ns.map PyData.int)
  | [] => .nil
  | n :: r => .cons (.int n) (dp_ints r)
theorem depth_ints : ∀ ns : List Int, PyData.depthAll (ns.map PyData.int) = 0
  | [] => rfl
  | n :: r => by
    show max (PyData.depth (PyData.int n)) (PyData.depthAll (r.map PyData.int)) = 0
    rw [depth_ints r]
    rfl
theorem lay_ints : ∀ ns : List Int, PyData.canLayAll0 (ns.map PyData.int) = true
  | [] => rfl
  | n :: r => by
    show (PyData.canLay0 (PyData.int n) && PyData.canLayAll0 (r.map PyData.int)) = true
    rw [lay_ints r]
    rfl
theorem shaped_ints (ns : List Int) : SeqAt.shaped (.tuple (ns.map PyData.int)) = true := by
  unfold SeqAt.shaped
  show (PyData.canLayAll0 (ns.map PyData.int) && decide (PyData.depthAll (ns.map PyData.int) + 1 ≤ 64)) = true
  rw [lay_ints, depth_ints]
  rfl
theorem shaped_intsL (ns : List Int) : SeqAt.shaped (.list (ns.map PyData.int)) = true := by
  unfold SeqAt.shaped
  show (PyData.canLayAll0 (ns.map PyData.int) && decide (PyData.depthAll (ns.map PyData.int) + 1 ≤ 64)) = true
  rw [lay_ints, depth_ints]
  rfl
theorem eqvAll_ints : ∀ ns ms : List Int, PyData.eqvAll (ns.map PyData.int) (ms.map PyData.int) = decide (ns = ms)
  | [], [] => rfl
  | [], _ :: _ => rfl
  | _ :: _, [] => rfl
  | n :: r, m :: t => by
    show (PyData.eqv (PyData.int n) (PyData.int m) && PyData.eqvAll (r.map PyData.int) (t.map PyData.int)) = _
    rw [eqvAll_ints r t]
    show ((n == m) && decide (r = t)) = decide (n :: r = m :: t)
    by_cases h : n = m
    · subst h
      by_cases h2 : r = t
      · subst h2; simp
      · simp [h2]
    · simp [h]
/-- an item of a list that is not empty -/
theorem atI_some {α : Type} {xs : List α} {i : Int} (h0 : 0 ≤ i) (h1 : i < xs.length) : ∃ v, atI xs i = some v ∧ v ∈ xs := by
  obtain ⟨j, rfl⟩ := Int.eq_ofNat_of_zero_le h0
  have hj : j < xs.length := by omega
  exact ⟨xs[j], atI_nat (List.getElem?_eq_getElem hj), List.getElem_mem hj⟩
theorem emod_lt {r m : Int} (h : 0 < m) : 0 ≤ r % m ∧ r % m < m := ⟨Int.emod_nonneg r (by omega), Int.emod_lt_of_pos r h⟩
theorem size_lt {n : Nat} (h : n ≤ 1000000) : n < sizeLine := Nat.lt_of_le_of_lt h (by decide)
theorem size_le {n : Nat} (h : n ≤ 1000000) : n ≤ sizeLine := Nat.le_of_lt (size_lt h)
theorem itePos {c A B : Prop} [Decidable c] (hc : c) (h : A) : if decide c = true then A else B := by
  rw [decide_eq_true hc]
  exact iteT h
theorem iteNeg {c A B : Prop} [Decidable c] (hc : ¬ c) (h : B) : if decide c = true then A else B := by
  rw [decide_eq_false hc]
  exact iteF h
theorem iteNT {c A B : Prop} [Decidable c] (hc : ¬ c) (h : A) : if (!decide c) = true then A else B := by
  rw [decide_eq_false hc]
  exact iteT h
theorem len1 {ns : List Int} (h : ns.length = 1) : ∃ k, ns = [k] := by
  match ns, h with
  | [k], _ => exact ⟨k, rfl⟩
theorem len2 {ns : List Int} (h : ns.length = 2) : ∃ k r, ns = [k, r] := by
  match ns, h with
  | [k, r], _ => exact ⟨k, r, rfl⟩

/-! ### rows: some ints, a day, the rest -/
structure Row where
  a : Addr
  ns : List Int
  s : Int
  l : List V
def Rw (n : Nat) (H : Hp) (q : Row) : Prop := q.ns.length = n ∧ H q.a = some (.tup (q.ns.map V.int ++ .int q.s :: q.l))
def hit (bs : List Int) (t : Int) (q : Row) : Bool := decide (q.ns = bs) && decide (q.s ≤ t)
def optV : Option Row → V
  | none => .non
  | some q => .ref q.a
def Rows (K : PySem.W.Frag) (n : Nat) (H : Hp) (r : Addr) (rs : List Row) : Prop := H r = some (.tup (rs.map fun q => V.ref q.a)) ∧ ∀ q ∈ rs, Rw n H q
theorem Rows.same {K : PySem.W.Frag} {n : Nat} {H H' : Hp} {r : Addr} {rs : List Row} (s : Same H H') (h : Rows K n H r rs) : Rows K n H' r rs := ⟨s _ _ h.1, fun q hq => ⟨(h.2 q hq).1, s _ _ (h.2 q hq).2⟩⟩
theorem Rows.tk {K : PySem.W.Frag} {n : Nat} {H H' : Hp} {r : Addr} {rs : List Row} (s : Tk H H') (h : Rows K n H r rs) : Rows K n H' r rs := ⟨s _ _ h.1, fun q hq => ⟨(h.2 q hq).1, s _ _ (h.2 q hq).2⟩⟩
/-- lands as they are read: the land at i, its part p -/
def Part (H : Hp) (a : Addr) (i p : Nat) (v : V) : Prop := ∃ (ls parts : List V) (l : Addr), H a = some (.tup ls) ∧ ls[i]? = some (.ref l) ∧ H l = some (.tup parts) ∧ parts[p]? = some v
theorem Part.tk {H H' : Hp} {a : Addr} {i p : Nat} {v : V} (s : Tk H H') (h : Part H a i p v) : Part H' a i p v := let ⟨ls, ps, l, h1, h2, h3, h4⟩ := h; ⟨ls, ps, l, s _ _ h1, h2, s _ _ h3, h4⟩
theorem cut_to {as : List V} {b : V} {l : List V} : cutV (as ++ b :: l) none (some (as.length : Int)) = as := by
  unfold cutV
  rw [HT.sIx_none, show HT.sIx (as ++ b :: l).length (as ++ b :: l).length (some (as.length : Int)) = min as.length (as ++ b :: l).length from HT.sIx_nat _ _ _]
  rw [show min as.length (as ++ b :: l).length = as.length by rw [List.length_append]; omega]
  simp
theorem notwhole {as : List V} {b : V} {l : List V} : ¬ (HT.sIx (as ++ b :: l).length 0 none = 0 ∧ HT.sIx (as ++ b :: l).length (as ++ b :: l).length (some (as.length : Int)) = (as ++ b :: l).length) := fun h => by
  have h2 := h.2
  rw [show HT.sIx (as ++ b :: l).length (as ++ b :: l).length (some (as.length : Int)) = min as.length (as ++ b :: l).length from HT.sIx_nat _ _ _, List.length_append, List.length_cons] at h2
  omega
theorem mul_bd {x y a b : Int} (h0 : 0 ≤ x) (h1 : x ≤ a) (h2 : 0 ≤ y) (h3 : y ≤ b) : 0 ≤ x * y ∧ x * y ≤ a * b :=
  ⟨Int.mul_nonneg h0 h2, Int.mul_le_mul h1 h3 h2 (by omega)⟩

/-! ### the deck -/
abbrev MM : Int := 2147483629
def primes : List Int := [48271, 69621, 16807, 39373, 30323, 51749, 44417, 27449, 63073, 55001, 33791, 40009]
theorem prime_at {i : Int} (h0 : 0 ≤ i) (h1 : i < 12) : ∃ x, atI (primes.map V.int) i = some (.int x) ∧ 0 ≤ x ∧ x ≤ 70000 := by
  obtain ⟨v, hv, hm⟩ := atI_some (xs := primes.map V.int) h0 h1
  obtain ⟨x, hx, rfl⟩ := List.mem_map.mp hm
  have : ∀ x ∈ primes, 0 ≤ x ∧ x ≤ 70000 := by decide
  exact ⟨x, hv, this x hx⟩
def Dk (H : Hp) (a : Addr) (d : Addr × Addr) (N : Nat) : Prop := ∃ (ds cs : List Int) (n : Nat), H a = some (.lst [.ref d.1, .ref d.2, .int n]) ∧ H d.1 = some (.lst (ds.map V.int)) ∧ H d.2 = some (.lst (cs.map V.int)) ∧
  a ≠ d.1 ∧ d.2 ≠ a ∧ d.2 ≠ d.1 ∧ n ≤ N ∧ (∀ x ∈ ds, 0 ≤ x ∧ x < MM) ∧ (∀ x ∈ cs, 0 ≤ x ∧ x < MM) ∧ 0 < cs.length ∧ cs.length ≤ 64
section
variable {H H' : Hp} {a p : Addr} {d : Addr × Addr} {N M : Nat} {o u : HO}
theorem Dk.mono (h : Dk H a d N) (l : N ≤ M) : Dk H a d M := by
  obtain ⟨ds, cs, n, h1, h2, h3, h4, h5, h6, h7, h8⟩ := h
  exact ⟨ds, cs, n, h1, h2, h3, h4, h5, h6, by omega, h8⟩
theorem Dk.same (h : Dk H a d N) (s : Same H H') : Dk H' a d N := by
  obtain ⟨ds, cs, n, h1, h2, h3, h4⟩ := h
  exact ⟨ds, cs, n, s _ _ h1, s _ _ h2, s _ _ h3, h4⟩
/-- something else is written -/
theorem Dk.updL (h : Dk H a d N) (n1 : p ≠ a) (n2 : p ≠ d.1) (n3 : p ≠ d.2) : Dk (upd H p o) a d N := by
  obtain ⟨ds, cs, n, h1, h2, h3, h4⟩ := h
  exact ⟨ds, cs, n, by rw [upd_ne n1.symm]; exact h1, by rw [upd_ne n2.symm]; exact h2, by rw [upd_ne n3.symm]; exact h3, h4⟩
theorem Dk.ne (h : Dk H a d N) (hp : H p = some u) (nl : ∀ xs, u ≠ .lst xs) : p ≠ a ∧ p ≠ d.1 ∧ p ≠ d.2 := by
  obtain ⟨ds, cs, n, h1, h2, h3, h4⟩ := h
  refine ⟨fun z => ?_, fun z => ?_, fun z => ?_⟩
  · subst z; rw [h1] at hp; exact nl _ (Option.some.inj hp).symm
  · subst z; rw [h2] at hp; exact nl _ (Option.some.inj hp).symm
  · subst z; rw [h3] at hp; exact nl _ (Option.some.inj hp).symm
theorem Dk.nn (h : Dk H a d N) (hp : H p = none) : p ≠ a ∧ p ≠ d.1 ∧ p ≠ d.2 := by
  obtain ⟨ds, cs, n, h1, h2, h3, h4⟩ := h
  exact ⟨(ne_of_none h1 hp).symm, (ne_of_none h2 hp).symm, (ne_of_none h3 hp).symm⟩
theorem Dk.upd (h : Dk H a d N) (hp : H p = some u) (nl : ∀ xs, u ≠ .lst xs) : Dk (upd H p o) a d N :=
  let ⟨n1, n2, n3⟩ := h.ne hp nl
  h.updL n1 n2 n3
theorem Dk.tk (h : Dk H a d N) (k : Kp a d H H') : Tk H H' := fun b xs e =>
  let ⟨n1, n2, _⟩ := h.ne e (fun ys z => nomatch z)
  k b _ n1 n2 e
end
end WL

set_option Elab.async false
set_option linter.all false
set_option maxRecDepth 100000
namespace WL
open PySem PySem.Spec PyProof.Rows L2

theorem valV_in : ∀ {kvs : List (List Key × V)} {k : List Key}, k ∈ kvs.map (·.1) → ∃ v, valV kvs k = some v ∧ (k, v) ∈ kvs
  | [], k, h => by simp at h
  | p :: r, k, h => by
    by_cases e : p.1 = k
    · exact ⟨p.2, valV_pos e, by rw [← e]; exact List.mem_cons_self⟩
    · have h' : k ∈ r.map (·.1) := by
        rw [List.map_cons] at h
        rcases List.mem_cons.mp h with z | z
        · exact absurd z.symm e
        · exact z
      obtain ⟨v, h1, h2⟩ := valV_in h'
      exact ⟨v, by rw [valV_neg e]; exact h1, List.mem_cons_of_mem _ h2⟩
theorem putK_mem {kvs : List (List Key × V)} {k : List Key} {v : V} {p : List Key × V} (h : p ∈ putK kvs k v) : p ∈ kvs ∨ p = (k, v) := by
  unfold putK at h
  split at h
  · obtain ⟨q, hq, e⟩ := List.mem_map.mp h
    by_cases c : q.1 = k
    · rw [if_pos c] at e
      exact .inr (by rw [← e, c])
    · rw [if_neg c] at e
      exact .inl (by rw [← e]; exact hq)
  · rcases List.mem_append.mp h with z | z
    · exact .inl z
    · exact .inr (List.mem_singleton.mp z)
theorem putK_len {kvs : List (List Key × V)} {k : List Key} {v : V} : (putK kvs k v).length ≤ kvs.length + 1 := by
  unfold putK
  split
  · rw [List.length_map]; omega
  · rw [List.length_append]; exact Nat.le_refl _

/-- what comes behind the key in a row -/
def tlOne (_ : Hp) (v : V) : List V := [v]
def tlTup (H : Hp) (v : V) : List V := match v with
  | .ref e => match H e with
    | some (.tup ys) => ys
    | _ => []
  | _ => []
/-- a row made of an entry of the dict -/
structure DRow where
  a : Addr
  ns : List Int
  v : V
/-- tuple([key + .. for key in sorted(kept.keys())]) -/
theorem rows_of_dict {K : PySem.W.Frag} {σ : L2.St} {H : Hp} {Q : VK} {te : TE} {ks i d : Nat} {B : Int} {k : Addr} {kvs : List (List Key × V)} (tl : V → List V)
    (hk : H k = some (.dT kvs)) (h64 : kvs.length < 64) (hB : ∀ e ∈ kvs, ∃ ns : List Int, e.1 = ns.map Sum.inl ∧ ns.length = d ∧ TS.Bd B ns)
    (h0 : σ[ks]? = some (some (.ref k))) (hw : ∀ x, wipe ((wipe σ [i]).set i (some x)) [i] = wipe σ [i])
    (hstep : ∀ (ns : List Int) (b : Addr) (v : V) (H3 : Hp) (Qe : VK), Same H H3 → H3 b = some (.tup (ns.map V.int)) → ns.length = d → valV kvs (ns.map Sum.inl) = some v → (ns.map Sum.inl, v) ∈ kvs →
      (∀ p H4, Same H3 H4 → H4 p = some (.tup (ns.map V.int ++ tl v)) → Qe (.ref p) H4) → te ((wipe σ [i]).set i (some (.ref b))) H3 Qe)
    (q : ∀ (t : Addr) (R : List DRow) (H' : Hp), Same H H' → H' t = some (.tup (R.map fun q => V.ref q.a)) → R.length = kvs.length → (∀ q ∈ R, H' q.a = some (.tup (q.ns.map V.int ++ tl q.v)) ∧ q.ns.length = d ∧ (q.ns.map Sum.inl, q.v) ∈ kvs) →
      R.Pairwise (fun q r => TS.code B q.ns ≤ TS.code B r.ns) → H t = none → Q (.ref t) H') :
    tCB (fun xs H Q => ∃ p ys, xs = [V.ref p] ∧ ((SqL K H p ys ∧ ∀ l, H l = none → Q (.ref l) (upd H l (.tup ys))) ∨ (SqT K H p ys ∧ Q (.ref p) H)))
      (tCons (tLc (iList K (tCB (rSortK d B) (tCons (tBM0 K "dict" rKeysT (tVar ks)) tNil))) (gName i) tYes te [i]) tNil) σ H Q := by
  refine ⟨_, h0, .inr (.inr (.inl ⟨rfl, .inr ⟨kvs, hk⟩⟩)), k, kvs, rfl, rfl, hk, fun p np => ?_⟩
  have s1 : Same H (upd H p (keysO p k)) := same_upd np
  refine ⟨p, k, kvs, rfl, upd_same, s1 _ _ hk, h64, hB, fun l L perm hL pw nl => ?_⟩
  have s2 := s1.trans (same_upd (o := .lst (L.map fun q => V.ref q.2)) nl)
  refine ⟨l, rfl, ⟨_, SqL.of upd_same⟩, fun D nD => lc_list (K := K) (xs := L.map fun q => V.ref q.2)
    (fun j H3 => ∃ R : List DRow, R.length = j ∧ H3 D = some (.lst (R.map fun q => V.ref q.a)) ∧ Same (upd (upd H p (keysO p k)) l (.lst (L.map fun q => V.ref q.2))) H3 ∧
      (∀ q ∈ R, H3 q.a = some (.tup (q.ns.map V.int ++ tl q.v)) ∧ q.ns.length = d ∧ (q.ns.map Sum.inl, q.v) ∈ kvs) ∧ R.map (fun q => q.ns) = (L.take j).map (·.1))
    ⟨[], rfl, upd_same, same_upd nD, (fun q hq => absurd hq List.not_mem_nil), rfl⟩ (fun j H3 _ hP => ?_) (fun j x H3 hx hP => ?_) (fun H3 hP => ?_)⟩
  · obtain ⟨R, _, _, sm, _⟩ := hP
    exact SqL.of (sm _ _ upd_same)
  · obtain ⟨R, lR, hD, sm, hR, eR⟩ := hP
    rw [List.getElem?_map] at hx
    obtain ⟨⟨ns, b⟩, hz, rfl⟩ := Option.map_eq_some_iff.mp hx
    have zm := List.mem_of_getElem? hz
    have hb := hL _ zm
    have hb3 : H3 b = some (.tup (ns.map V.int)) := sm _ _ (by
      rw [upd_ne (ne_of_none hb nl)]
      exact hb)
    have hkm : (ns.map Sum.inl : List Key) ∈ kvs.map (·.1) := perm.mem_iff.mp (List.mem_map.mpr ⟨(ns, b), zm, rfl⟩)
    obtain ⟨v, hv, vm⟩ := valV_in hkm
    have hlen : ns.length = d := by
      obtain ⟨ns', e1, e2, _⟩ := hB _ vm
      have e3 : ns.map (Sum.inl : Int → Key) = ns'.map Sum.inl := e1
      have e4 := congrArg List.length e3
      rw [List.length_map, List.length_map] at e4
      omega
    have jl : j < L.length := (List.getElem?_eq_some_iff.mp hz).1
    have l64 : L.length < 64 := by
      have := perm.length_eq
      rw [List.length_map, List.length_map] at this
      omega
    refine ⟨hw _, ?_⟩
    simp only [tYes, if_true]
    refine hstep ns b v H3 _ (s2.trans sm) hb3 hlen hv vm fun p' H4 sm4 hp' => ⟨R.map fun q => V.ref q.a, sm4 _ _ hD, size_lt (by rw [List.length_map]; omega), R ++ [⟨p', ns, v⟩], ?_, ?_, ?_, ?_, ?_⟩
    · rw [List.length_append, lR]; rfl
    · rw [upd_same, List.map_append]; rfl
    · intro c o hc
      rw [upd_ne (ne_of_none hc nD)]
      exact sm4 _ _ (sm _ _ hc)
    · intro r hr
      have nD' : ∀ (c : Addr) (ys : List V), H4 c = some (.tup ys) → c ≠ D := fun c ys hc z => by
        subst z
        rw [sm4 _ _ hD] at hc
        cases hc
      rcases List.mem_append.mp hr with h | h
      · obtain ⟨h1, h2⟩ := hR r h
        have h3 := sm4 _ _ h1
        exact ⟨by rw [upd_ne (nD' _ _ h3)]; exact h3, h2⟩
      · rw [List.mem_singleton.mp h]
        exact ⟨by rw [upd_ne (nD' _ _ hp')]; exact hp', hlen, vm⟩
    · rw [List.map_append, eR, List.take_add_one, hz, List.map_append]
      rfl
  · obtain ⟨R, lR, hD, sm, hR, eR⟩ := hP
    rw [List.length_map] at lR
    rw [List.length_map, List.take_length] at eR
    have eL : L.length = kvs.length := by
      have := perm.length_eq
      rw [List.length_map, List.length_map] at this
      exact this
    refine ⟨D, _, rfl, .inl ⟨SqL.of hD, fun t nt => q t R _ (s2.trans (sm.trans (same_upd nt))) upd_same (by omega) (fun r hr => ?_) ?_ ((s2.trans sm).free nt)⟩⟩
    · obtain ⟨h1, h2⟩ := hR r hr
      exact ⟨by rw [upd_ne (ne_of_none h1 nt)]; exact h1, h2⟩
    · have e : R.Pairwise (fun q r => TS.code B q.ns ≤ TS.code B r.ns) ↔ (R.map fun q => q.ns).Pairwise (fun n m => TS.code B n ≤ TS.code B m) := by rw [List.pairwise_map]
      rw [e, eR, List.pairwise_map]
      exact pw

/-- a comprehension over zip(t, u), t and u tuples of one length -/
theorem lc_zipT {K : PySem.W.Frag} {a b : Addr} {xs ys : List V} {g : TG} {tt : TT} {te : TE} {vs : List Nat} {σ : L2.St} {H1 : Hp} {D : Addr} {Qd : Hp → Prop} (hl : xs.length = ys.length) (Pv : Nat → Hp → Prop) (h0 : Pv 0 (upd H1 D (.lst []))) (hq : ∀ i H, Pv i H → SqT K H a xs ∧ SqT K H b ys)
    (hs : ∀ (i : Nat) (x y : V) (T : Addr) (H : Hp), xs[i]? = some x → ys[i]? = some y → Pv i H → H T = none → g (.ref T) (wipe σ vs) (upd H T (.tup [x, y])) fun σ2 H2 => wipe σ2 vs = wipe σ vs ∧ tt σ2 H2 fun b H3 =>
      if b = true then te σ2 H3 fun y H4 => ∃ acc, H4 D = some (.lst acc) ∧ acc.length < sizeLine ∧ Pv (i + 1) (upd H4 D (.lst (acc ++ [y]))) else Pv (i + 1) H3) (hd : ∀ H, Pv xs.length H → Qd H) :
    ∃ W : Nat → Nat → Hp → Prop, (∃ m, W 0 m (upd H1 D (.lst []))) ∧ ∀ i m H, W i m H →
      ((RZ.ItzT K a b).stop i H ∧ Qd H) ∨ ((RZ.ItzT K a b).go i H ∧ ∃ Nx : Hp → Prop, (∀ H', Nx H' → ∃ m', m' < m ∧ W (i + 1) m' H') ∧ ∀ x H', (RZ.ItzT K a b).yld i H x H' → g x (wipe σ vs) H' fun σ2 H2 => wipe σ2 vs = wipe σ vs ∧ tt σ2 H2 fun b H3 =>
        if b = true then te σ2 H3 fun y H4 => ∃ acc, H4 D = some (.lst acc) ∧ acc.length < sizeLine ∧ Nx (upd H4 D (.lst (acc ++ [y]))) else Nx H3) := by
  refine ⟨fun i m H => m = xs.length - i ∧ i ≤ xs.length ∧ Pv i H, ⟨xs.length, by simp, Nat.zero_le _, h0⟩, ?_⟩
  rintro i m H ⟨rfl, hi, p⟩
  obtain ⟨qx, qy⟩ := hq i H p
  by_cases hlt : i < xs.length
  · have hx : xs[i]? = some xs[i] := List.getElem?_eq_getElem hlt
    have hlt2 : i < ys.length := by omega
    have hy : ys[i]? = some ys[i] := List.getElem?_eq_getElem hlt2
    refine .inr ⟨⟨xs, ys, _, _, qx, qy, hx, hy⟩, Pv (i + 1), fun H' p' => ⟨xs.length - (i + 1), by omega, rfl, hlt, p'⟩, fun v H' y => ?_⟩
    obtain ⟨T, x', y', rfl, hT, rfl, f1, f2⟩ := y
    exact hs i x' y' T H (f1 xs qx) (f2 ys qy) p hT
  · have e : i = xs.length := by omega
    subst e
    exact .inl ⟨⟨xs, ys, qx, qy, Or.inl (Nat.le_refl _)⟩, hd H p⟩

/-! ### data -/
def flat : V → Bool
  | .non => true
  | .bl _ => true
  | .int _ => true
  | .str _ => true
  | _ => false
/-- two like data, at most n tuples deep -/
def Alike : Nat → Hp → V → V → Prop
  | 0, _, v, w => flat v = true ∧ v = w
  | n + 1, H, v, w => (flat v = true ∧ v = w) ∨ ∃ a b xs ys, v = .ref a ∧ w = .ref b ∧ H a = some (.tup xs) ∧ H b = some (.tup ys) ∧ xs.length = ys.length ∧ xs.length ≤ 1000 ∧ ∀ (i : Nat) x y, xs[i]? = some x → ys[i]? = some y → Alike n H x y
theorem Alike.tk {H H' : Hp} (t : Tk H H') : ∀ {n : Nat} {v w : V}, Alike n H v w → Alike n H' v w
  | 0, _, _, h => h
  | n + 1, _, _, .inl h => .inl h
  | n + 1, _, _, .inr ⟨a, b, xs, ys, h1, h2, h3, h4, h5, h7, h6⟩ => .inr ⟨a, b, xs, ys, h1, h2, t _ _ h3, t _ _ h4, h5, h7, fun i x y e1 e2 => (h6 i x y e1 e2).tk t⟩
theorem Alike.mono {H : Hp} : ∀ {n : Nat} {v w : V}, Alike n H v w → Alike (n + 1) H v w
  | 0, _, _, h => .inl h
  | n + 1, _, _, .inl h => .inl h
  | n + 1, _, _, .inr ⟨a, b, xs, ys, h1, h2, h3, h4, h5, h7, h6⟩ => .inr ⟨a, b, xs, ys, h1, h2, h3, h4, h5, h7, fun i x y e1 e2 => (h6 i x y e1 e2).mono⟩
theorem Alike.le {H : Hp} {n m : Nat} {v w : V} (h : Alike n H v w) (l : n ≤ m) : Alike m H v w := by
  induction l with
  | refl => exact h
  | step _ ih => exact ih.mono
/-- data, at most n tuples deep -/
def Da (n : Nat) (H : Hp) (v : V) : Prop := Alike n H v v
theorem Da.flat {n : Nat} {H : Hp} {v : V} (h : flat v = true) : Da n H v := by
  cases n with
  | zero => exact ⟨h, rfl⟩
  | succ n => exact .inl ⟨h, rfl⟩
theorem Da.tup {n : Nat} {H : Hp} {a : Addr} {xs : List V} (h : H a = some (.tup xs)) (hl : xs.length ≤ 1000) (hx : ∀ x ∈ xs, Da n H x) : Da (n + 1) H (.ref a) :=
  .inr ⟨a, a, xs, xs, rfl, rfl, h, h, rfl, hl, fun i x y e1 e2 => by
    rw [e1] at e2
    cases e2
    exact hx x (List.mem_of_getElem? e1)⟩
end WL

set_option Elab.async false
set_option linter.all false
set_option maxRecDepth 100000
namespace WL
open PySem PySem.Spec PyProof.Rows L2
/-! ### rows out of entries -/
def toRow (tl : V → List V) (q : DRow) : Row := ⟨q.a, q.ns.dropLast, q.ns.getLastD 0, tl q.v⟩
theorem rows_mk {K : PySem.W.Frag} {d : Nat} {H : Hp} {t : Addr} {R : List DRow} {tl : V → List V} (ht : H t = some (.tup (R.map fun q => V.ref q.a))) (hR : ∀ q ∈ R, H q.a = some (.tup (q.ns.map V.int ++ tl q.v)) ∧ q.ns.length = d + 1) : Rows K d H t (R.map (toRow tl)) := by
  refine ⟨?_, fun q hq => ?_⟩
  · rw [List.map_map]
    exact ht
  · obtain ⟨r, hr, rfl⟩ := List.mem_map.mp hq
    obtain ⟨h1, h2⟩ := hR r hr
    refine ⟨by show r.ns.dropLast.length = d; rw [List.length_dropLast]; omega, ?_⟩
    show H r.a = some (.tup (r.ns.dropLast.map V.int ++ .int (r.ns.getLastD 0) :: tl r.v))
    have e : r.ns = r.ns.dropLast ++ [r.ns.getLastD 0] := by
      cases e : r.ns with
      | nil => rw [e] at h2; simp at h2
      | cons x y =>
        rw [List.getLastD_cons, List.getLastD_eq_getLast?]
        have := List.dropLast_concat_getLast (l := x :: y) (List.cons_ne_nil x y)
        rw [← this]
        simp [List.getLast_cons, List.getLast?_eq_getLast]
        cases y with
        | nil => simp
        | cons z w => simp [List.getLast?_eq_getLast]
    rw [h1]
    conv => lhs; rw [e]
    rw [List.map_append, List.append_assoc]
    rfl
/-- rows that are good: n ints ahead, a day, c things behind, each data of depth m -/
def GoodRows (K : PySem.W.Frag) (n m c : Nat) (H : Hp) (t : Addr) (rs : List Row) : Prop := Rows K n H t rs ∧ rs.length ≤ 60 ∧ ∀ q ∈ rs, 0 ≤ q.s ∧ q.s ≤ 1000000000 ∧ q.l.length = c ∧ ∀ x ∈ q.l, Da m H x
theorem GoodRows.tk {K : PySem.W.Frag} {n m c : Nat} {H H' : Hp} {t : Addr} {rs : List Row} (s : Tk H H') (h : GoodRows K n m c H t rs) : GoodRows K n m c H' t rs := ⟨h.1.tk s, h.2.1, fun q hq => let ⟨a, b, c, d⟩ := h.2.2 q hq; ⟨a, b, c, fun x hx => (d x hx).tk s⟩⟩
theorem tkT {K : PySem.W.Frag} {H H' : Hp} {a : Addr} {xs : List V} (t : Tk H H') (h : H a = some (.tup xs)) : SqT K H' a xs := SqT.of (t _ _ h)
/-- an entry of a dict of rows -/
def Ent (d m c : Nat) (tl : Hp → V → List V) (H : Hp) (e : List Key × V) : Prop := ∃ ns : List Int, e.1 = ns.map Sum.inl ∧ ns.length = d ∧ TS.Bd 2000000000 ns ∧ ns.getLastD 0 ≤ 1000000000 ∧ (tl H e.2).length = c ∧ ∀ x ∈ tl H e.2, Da m H x
theorem last_nn {ns : List Int} (h : TS.Bd 2000000000 ns) : 0 ≤ ns.getLastD 0 := by
  cases e : ns with
  | nil => exact Int.le_refl _
  | cons x y =>
    rw [List.getLastD_cons, List.getLastD_eq_getLast?]
    cases e2 : y.getLast? with
    | none => exact (h x (by rw [e]; exact List.mem_cons_self)).1
    | some z => exact (h z (by rw [e]; exact List.mem_cons_of_mem _ (List.mem_of_getLast? e2))).1
theorem good_mk {K : PySem.W.Frag} {d m c : Nat} {H H' : Hp} {t : Addr} {R : List DRow} {kvs : List (List Key × V)} {tl : Hp → V → List V} (tk : Tk H H') (hE : ∀ e ∈ kvs, Ent (d + 1) m c tl H e) (h64 : kvs.length ≤ 60) (ht : H' t = some (.tup (R.map fun q => V.ref q.a))) (lR : R.length = kvs.length)
    (hR : ∀ q ∈ R, H' q.a = some (.tup (q.ns.map V.int ++ tl H q.v)) ∧ q.ns.length = d + 1 ∧ (q.ns.map Sum.inl, q.v) ∈ kvs) : GoodRows K d m c H' t (R.map (toRow (tl H))) := by
  refine ⟨rows_mk ht fun q hq => ⟨(hR q hq).1, (hR q hq).2.1⟩, by rw [List.length_map]; omega, fun q hq => ?_⟩
  obtain ⟨r, hr, rfl⟩ := List.mem_map.mp hq
  obtain ⟨ns, e1, e2, e3, e4, e5, e6⟩ := hE _ (hR r hr).2.2
  have en : r.ns = ns := by
    have e1' : r.ns.map (Sum.inl : Int → Key) = ns.map Sum.inl := e1
    have := congrArg (List.map intK) e1'
    rw [intK_ints, intK_ints] at this
    exact this
  refine ⟨?_, ?_, e5, fun x hx => (e6 x hx).tk tk⟩
  · show 0 ≤ r.ns.getLastD 0
    rw [en]; exact last_nn e3
  · show r.ns.getLastD 0 ≤ 1000000000
    rw [en]; exact e4
/-- while a dict of rows is filled -/
structure Kept (d m c : Nat) (tl : Hp → V → List V) (a : Addr) (dd : Addr × Addr) (k : Addr) (H0 H : Hp) (N b : Nat) : Prop where
  ex : ∃ kvs, H k = some (.dT kvs) ∧ kvs.length ≤ b ∧ ∀ e ∈ kvs, Ent d m c tl H e
  dk : Dk H a dd N
  kp : Kp a dd H0 H
  nk : H0 k = none
theorem Ent.one {d m : Nat} {H H' : Hp} {e : List Key × V} (tk : Tk H H') (h : Ent d m 1 tlOne H e) : Ent d m 1 tlOne H' e := by
  obtain ⟨ns, e1, e2, e3, e4, e5, e6⟩ := h
  exact ⟨ns, e1, e2, e3, e4, e5, fun x hx => (e6 x hx).tk tk⟩
theorem tlTup_eq {H : Hp} {e : Addr} {ys : List V} (h : H e = some (.tup ys)) : tlTup H (.ref e) = ys := by
  unfold tlTup
  simp only [h]
theorem tlTup_of {H : Hp} {v : V} {c : Nat} (h : (tlTup H v).length = c) (hc : 0 < c) : ∃ e ys, v = .ref e ∧ H e = some (.tup ys) := by
  cases v with
  | ref x =>
    cases hx : H x with
    | none =>
      unfold tlTup at h
      simp only [hx] at h
      simp at h
      omega
    | some o =>
      cases o with
      | tup ys => exact ⟨x, ys, rfl, hx⟩
      | _ =>
        unfold tlTup at h
        simp only [hx] at h
        simp at h
        omega
  | _ =>
    unfold tlTup at h
    simp at h
    omega
theorem Ent.tup {d m c : Nat} {H H' : Hp} {e : List Key × V} (tk : Tk H H') (hc : 0 < c) (h : Ent d m c tlTup H e) : Ent d m c tlTup H' e := by
  obtain ⟨ns, e1, e2, e3, e4, e5, e6⟩ := h
  have ee : tlTup H' e.2 = tlTup H e.2 := by
    cases ev : e.2 with
    | ref x =>
      cases hx : H x with
      | none =>
        rw [ev] at e5
        unfold tlTup at e5
        simp only [hx] at e5
        simp at e5
        omega
      | some o =>
        cases o with
        | tup ys => rw [tlTup_eq hx, tlTup_eq (tk _ _ hx)]
        | _ =>
          rw [ev] at e5
          unfold tlTup at e5
          simp only [hx] at e5
          simp at e5
          omega
    | _ =>
      rw [ev] at e5
      unfold tlTup at e5
      simp at e5
      omega
  exact ⟨ns, e1, e2, e3, e4, by rw [ee]; exact e5, by rw [ee]; exact fun x hx => (e6 x hx).tk tk⟩
section
variable {d m c : Nat} {tl : Hp → V → List V} {a k : Addr} {dd : Addr × Addr} {H0 H H' : Hp} {N b : Nat}
theorem Kept.nek (x : Kept d m c tl a dd k H0 H N b) : k ≠ a ∧ k ≠ dd.1 ∧ k ≠ dd.2 := by
  obtain ⟨kvs, hk, _⟩ := x.ex
  exact x.dk.ne hk fun xs => fun z => nomatch z
/-- the deck moves on, or new things come -/
theorem Kept.step (et : ∀ {H H' : Hp} {e : List Key × V}, Tk H H' → Ent d m c tl H e → Ent d m c tl H' e) (x : Kept d m c tl a dd k H0 H N b) (kp : Kp a dd H H') {N' : Nat} (dk : Dk H' a dd N') : Kept d m c tl a dd k H0 H' N' b := by
  obtain ⟨kvs, hk, hb, hE⟩ := x.ex
  have tk := x.dk.tk kp
  exact ⟨⟨kvs, kp _ _ x.nek.1 x.nek.2.1 hk, hb, fun e he => et tk (hE e he)⟩, dk, x.kp.trans kp, x.nk⟩
theorem Kept.same (et : ∀ {H H' : Hp} {e : List Key × V}, Tk H H' → Ent d m c tl H e → Ent d m c tl H' e) (x : Kept d m c tl a dd k H0 H N b) (s : Same H H') : Kept d m c tl a dd k H0 H' N b := x.step et (Kp.of s) (x.dk.same s)
theorem Kept.mono {N' b' : Nat} (x : Kept d m c tl a dd k H0 H N b) (h1 : N ≤ N') (h2 : b ≤ b') : Kept d m c tl a dd k H0 H N' b' := by
  obtain ⟨kvs, hk, hb, hE⟩ := x.ex
  exact ⟨⟨kvs, hk, by omega, hE⟩, x.dk.mono h1, x.kp, x.nk⟩
theorem Kept.new (h : Dk H0 a dd N) (np : H0 k = none) : Kept d m c tl a dd k H0 (upd H0 k (.dT [])) N 0 :=
  ⟨⟨[], upd_same, Nat.le_refl _, fun e he => absurd he List.not_mem_nil⟩, h.same (same_upd np), Kp.of (same_upd np), np⟩
/-- an entry is put -/
theorem Kept.put (et : ∀ {H H' : Hp} {e : List Key × V}, Tk H H' → Ent d m c tl H e → Ent d m c tl H' e) (x : Kept d m c tl a dd k H0 H N b) {ns : List Int} {v : V} (hv : Ent d m c tl H (ns.map Sum.inl, v)) {kvs : List (List Key × V)} (hk : H k = some (.dT kvs)) :
    Kept d m c tl a dd k H0 (upd H k (.dT (putK kvs (ns.map Sum.inl) v))) N (b + 1) := by
  obtain ⟨kvs', hk', hb, hE⟩ := x.ex
  rw [hk] at hk'
  cases hk'
  have tk : Tk H (upd H k (.dT (putK kvs (ns.map Sum.inl) v))) := Tk.upd hk fun xs z => nomatch z
  refine ⟨⟨_, upd_same, Nat.le_trans putK_len (by omega), fun e he => et tk ?_⟩, x.dk.upd hk (fun xs z => nomatch z), fun p o h1 h2 hp => ?_, x.nk⟩
  · rcases putK_mem he with z | z
    · exact hE e z
    · rw [z]; exact hv
  · rw [upd_ne (ne_of_none hp x.nk)]
    exact x.kp p o h1 h2 hp
end
end WL

set_option Elab.async false
set_option linter.all false
set_option maxRecDepth 100000
namespace WL
open PySem PySem.Spec PyProof.Rows L2
def topS (i : Nat) : Stmt := PySem.Challenge.pw_whoselaw_k02_sayings_in_force.main.body.getD i (.Pass ⟨0, 0, 0, 0⟩)
abbrev st_custom_at : Stmt := topS 2
theorem sc_custom_at : FnScope ["lands", "land", "kind", "day"] ["lands", "land", "kind", "day"] (defScope st_custom_at) := ⟨rfl, rfl, rfl, by decide +kernel, rfl, by decide +kernel, by decide +kernel⟩
abbrev st_saying_at : Stmt := topS 3
theorem sc_saying_at : FnScope ["lands", "land", "kind", "day", "custom"] ["lands", "land", "kind", "day"] (defScope st_saying_at) := ⟨rfl, rfl, rfl, by decide +kernel, rfl, by decide +kernel, by decide +kernel⟩
abbrev st_rows_of : Stmt := topS 4
theorem sc_rows_of : FnScope ["lands", "land", "part"] ["lands", "land", "part"] (defScope st_rows_of) := ⟨rfl, rfl, rfl, by decide +kernel, rfl, by decide +kernel, by decide +kernel⟩
abbrev st_row_at : Stmt := topS 5
theorem sc_row_at : FnScope ["rows", "key", "day", "found", "row"] ["rows", "key", "day"] (defScope st_row_at) := ⟨rfl, rfl, rfl, by decide +kernel, rfl, by decide +kernel, by decide +kernel⟩
abbrev st__law_deck : Stmt := topS 7
theorem sc__law_deck : FnScope ["_law_script", "_law_digits", "_law_cells", "_law_cell"] ["_law_script"] (defScope st__law_deck) := ⟨rfl, rfl, rfl, by decide +kernel, rfl, by decide +kernel, by decide +kernel⟩
abbrev st__law_next : Stmt := topS 8
theorem sc__law_next : FnScope ["_law_deck_here", "_law_at", "_law_primes", "_law_cell", "_law_mixed"] ["_law_deck_here"] (defScope st__law_next) := ⟨rfl, rfl, rfl, by decide +kernel, rfl, by decide +kernel, by decide +kernel⟩
abbrev st__law_span : Stmt := topS 9
theorem sc__law_span : FnScope ["_law_deck_here"] ["_law_deck_here"] (defScope st__law_span) := ⟨rfl, rfl, rfl, by decide +kernel, rfl, by decide +kernel, by decide +kernel⟩
abbrev st__law_rules : Stmt := topS 10
theorem sc__law_rules : FnScope ["_law_deck_here", "_law_span_here", "_law_kept", "_law_kind", "_law_number", "_law_k", "_law_since", "_law_more", "_law_key"] ["_law_deck_here", "_law_span_here"] (defScope st__law_rules) := ⟨rfl, rfl, rfl, by decide +kernel, rfl, by decide +kernel, by decide +kernel⟩
abbrev st__law_saying : Stmt := topS 11
theorem sc__law_saying : FnScope ["_law_deck_here", "_law_kind", "_law_asks", "_law_number", "_law_whose", "_law_yes", "_law_no"] ["_law_deck_here", "_law_kind", "_law_asks"] (defScope st__law_saying) := ⟨rfl, rfl, rfl, by decide +kernel, rfl, by decide +kernel, by decide +kernel⟩
abbrev st__law_laws : Stmt := topS 12
theorem sc__law_laws : FnScope ["_law_deck_here", "_law_span_here", "_law_asks", "_law_kept", "_law_kind", "_law_number", "_law_k", "_law_since", "_law_key"] ["_law_deck_here", "_law_span_here", "_law_asks"] (defScope st__law_laws) := ⟨rfl, rfl, rfl, by decide +kernel, rfl, by decide +kernel, by decide +kernel⟩
abbrev st__law_lands : Stmt := topS 13
theorem sc__law_lands : FnScope ["_law_deck_here", "_law_many", "_law_span_here", "_law_asks", "_law_found", "_law_k", "_law_rules_here"] ["_law_deck_here", "_law_many", "_law_span_here", "_law_asks"] (defScope st__law_lands) := ⟨rfl, rfl, rfl, by decide +kernel, rfl, by decide +kernel, by decide +kernel⟩
abbrev st__law_in_force : Stmt := topS 14
theorem sc__law_in_force : FnScope ["_law_rows", "_law_begin", "_law_day", "_law_found", "_law_row"] ["_law_rows", "_law_begin", "_law_day"] (defScope st__law_in_force) := ⟨rfl, rfl, rfl, by decide +kernel, rfl, by decide +kernel, by decide +kernel⟩
abbrev st__law_same : Stmt := topS 15
theorem sc__law_same : FnScope ["_law_found", "_law_due", "_law_one", "_law_other"] ["_law_found", "_law_due"] (defScope st__law_same) := ⟨rfl, rfl, rfl, by decide +kernel, rfl, by decide +kernel, by decide +kernel⟩
abbrev st_law : Stmt := topS 16
theorem sc_law : FnScope ["_law_script", "_law_deck_here", "_law_many", "_law_span_here", "_law_lands_here", "_law_land", "_law_laws_here", "_law_days", "_law_row", "_law_kind", "_law_day", "_law_due"] ["_law_script"] (defScope st_law) := ⟨rfl, rfl, rfl, by decide +kernel, rfl, by decide +kernel, by decide +kernel⟩
end WL

set_option Elab.async false
set_option linter.all false
set_option maxRecDepth 100000
namespace WL
open PySem PySem.Spec PyProof.Rows L2

section
variable {P : Program} {w : World} {K : PySem.W.Frag} {mg : Str → Option Value} {base : Heap}
def spRowAt (K : PySem.W.Frag) : Sp := fun vs H Q _ => ∃ (r : Addr) (rs : List Row) (k t : Int), vs = [.ref r, .int k, .int t] ∧ Rows K 1 H r rs ∧ Q (optV (pick (hit [k] t) rs)) H
theorem ok_row_at {f : Addr} {fd : FuncData} (D_row_at : Df K mg "row_at" st_row_at f fd ["rows", "key", "day"]) : FnOk P w K mg base CX0 1 f fd ["rows", "key", "day"] (spRowAt K) := by
  refine D_row_at.F.ok sc_row_at (fun vs H Q E h => ?_) (fun cdv A outer s H vs Q E hr h => ?_)
  · obtain ⟨r, rs, k, t, rfl, _⟩ := h
    rfl
  · obtain ⟨r, rs, k, t, rfl, ⟨hR, hw⟩, q⟩ := h
    refine ⟨_, (pss_cons (ps_set (i := 3) sc_row_at.nd rfl (.inl rfl) pe_non)
      (pss_cons (ps_for PassesOwn.never rfl (pi_tup (pv 0)) (pg_name (i := 4) sc_row_at.nd rfl (.inl rfl))
      (pss_one (ps_if (PW.pt (pw_and (pt_cmpR op_eq (pe_ix ix_tup (pv 4) pe_int (fun _ _ => rfl)) (pv 1) (nomark _)) (pw_and1 (pt_cmpR op_le (pe_ix ix_tup (pv 4) pe_int (fun _ _ => rfl)) (pv 2) (nomark _))))) (pss_one (ps_set (i := 3) sc_row_at.nd rfl (.inl rfl) (pv 4))) pss_nil)))
      (pss_one (ps_ret (pv 3))))), ?_⟩
    refine ⟨_, rfl, r, rfl, ⟨_, SqT.of hR⟩, for_tup (K := K) (xs := rs.map fun q => V.ref q.a) (fun i σ H' => ∃ y, σ = [some (.ref r), some (.int k), some (.int t), some (optV (pick (hit [k] t) (rs.take i))), y] ∧ H' = H) ⟨none, rfl, rfl⟩
      (fun i σ H' _ ⟨y, _, e⟩ => by rw [e]; exact SqT.of hR) (fun i x σ H' hx ⟨y, e1, e2⟩ => ?_) (fun σ H' ⟨y, e1, e2⟩ => ?_)⟩
    · subst e1 e2
      rw [List.getElem?_map] at hx
      obtain ⟨z, hz, rfl⟩ := Option.map_eq_some_iff.mp hx
      obtain ⟨zn, hl⟩ := hw z (List.mem_of_getElem? hz)
      obtain ⟨zk, ek⟩ := len1 zn
      rw [ek] at hl
      have pt := pick_take (hit [k] t) hz
      refine ⟨.ref z.a, rfl, z.a, _, 0, _, rfl, rfl, SqT.of hl, atI_nat (j := 0) rfl, _, rfl, rfl, _, rfl, ite2 (fun e => ?_) (fun e => ?_)⟩
      · refine ⟨.ref z.a, rfl, z.a, _, 1, _, rfl, rfl, SqT.of hl, atI_nat (j := 1) rfl, _, rfl, _, _, rfl, rfl, _, rfl, ite2 (fun e' => ?_) (fun e' => ?_)⟩
        · refine ⟨_, rfl, some (.ref z.a), ?_, rfl⟩
          have k1 : zk = k := V.int.inj (of_decide_eq_true e)
          have k2 : hit [k] t z = true := by unfold hit; rw [ek, k1, decide_eq_true rfl, e']; rfl
          rw [pt, if_pos k2]
          rfl
        · refine ⟨some (.ref z.a), ?_, rfl⟩
          have k2 : ¬ hit [k] t z = true := fun c => e' (Bool.and_eq_true_iff.mp c).2
          rw [pt, if_neg k2]
          rfl
      · refine ite2 (fun c => nomatch c) (fun _ => ⟨some (.ref z.a), ?_, rfl⟩)
        have k2 : ¬ hit [k] t z = true := fun c => by
          have c1 := of_decide_eq_true (Bool.and_eq_true_iff.mp c).1
          rw [ek] at c1
          cases c1
          exact e (decide_eq_true rfl)
        rw [pt, if_neg k2]
        rfl
    · subst e1 e2
      rw [List.length_map, List.take_length]
      exact ⟨_, rfl, q⟩
def spRowsOf (K : PySem.W.Frag) : Sp := fun vs H Q _ => ∃ (a : Addr) (i p : Nat) (v : V), vs = [.ref a, .int i, .int p] ∧ Part H a i p v ∧ Q v H
theorem ok_rows_of {f : Addr} {fd : FuncData} (B : Bt mg) (D_rows_of : Df K mg "rows_of" st_rows_of f fd ["lands", "land", "part"]) : FnOk P w K mg base CX0 1 f fd ["lands", "land", "part"] (spRowsOf K) := by
  refine D_rows_of.F.ok sc_rows_of (fun vs H Q E h => ?_) (fun cdv A outer s H vs Q E hr h => ?_)
  · obtain ⟨a, i, p, v, rfl, _⟩ := h
    rfl
  · obtain ⟨a, i, p, v, rfl, ⟨ls, parts, l, hA, hi, hL, hp⟩, q⟩ := h
    have hil : i < ls.length := (List.getElem?_eq_some_iff.mp hi).1
    refine ⟨_, (pss_cons (ps_if (pt_not (pt_chain op_le op_lt pe_int (pv 1) (pe_callB call_len_seq (by rfl) B.len (by decide +kernel) (pa_cons (pv 0) pa_nil)))) (pss_one (ps_ret (pe_tup pa_nil))) pss_nil)
      (pss_one (ps_ret (pe_ix ix_tup (pe_ix ix_tup (pv 0) (pv 1) (fun _ _ => rfl)) (pv 2) (fun _ _ => rfl))))), ?_⟩
    refine ⟨_, rfl, _, _, rfl, rfl, _, rfl, itePos (by omega) ⟨_, rfl, a, ls, rfl, .inr (SqT.of hA), _, _, rfl, rfl, _, rfl, iteNS (by omega) ?_⟩⟩
    exact ⟨_, rfl, _, rfl, a, ls, _, _, rfl, rfl, SqT.of hA, atI_nat hi, _, rfl, l, parts, _, _, rfl, rfl, SqT.of hL, atI_nat hp, q⟩
/-- the row in force of the land i's part n, of a kind on a day -/
def spAt (K : PySem.W.Frag) (n : Nat) : Sp := fun vs H Q _ => ∃ (a : Addr) (i : Nat) (k t : Int) (r : Addr) (rs : List Row), vs = [.ref a, .int i, .int k, .int t] ∧ Part H a i n (.ref r) ∧ Rows K 1 H r rs ∧ Q (optV (pick (hit [k] t) rs)) H
theorem ok_custom_at {f f1 f2 : Addr} {fd fd1 fd2 : FuncData} {u : Tok} (D_custom_at : Df K mg "custom_at" st_custom_at f fd ["lands", "land", "kind", "day"]) (D_row_at : Df K mg "row_at" st_row_at f1 fd1 ["rows", "key", "day"]) (D_rows_of : Df K mg "rows_of" st_rows_of f2 fd2 ["lands", "land", "part"])
    (G_row_at : FnOk P w K mg base CX0 1 f1 fd1 ["rows", "key", "day"] (spRowAt K)) (G_rows_of : FnOk P w K mg base CX0 1 f2 fd2 ["lands", "land", "part"] (spRowsOf K)) (C_CUSTOMS : mg "CUSTOMS" = some (.int 1 u)) : FnOk P w K mg base CX0 2 f fd ["lands", "land", "kind", "day"] (spAt K 1) := by
  refine D_custom_at.F.ok sc_custom_at (fun vs H Q E h => ?_) (fun cdv A outer s H vs Q E hr h => ?_)
  · obtain ⟨a, i, k, t, r, rs, rfl, _⟩ := h
    rfl
  · obtain ⟨a, i, k, t, r, rs, rfl, hP, hR, q⟩ := h
    refine ⟨_, (pss_one (ps_ret (pe_call G_row_at (hr.mono (by decide)) (by rfl) D_row_at.g D_row_at.F.kp D_row_at.b .nil pass0 (pa_cons (pe_call G_rows_of (hr.mono (by decide)) (by rfl) D_rows_of.g D_rows_of.F.kp D_rows_of.b .nil pass0 (pa_cons (pv 0) (pa_cons (pv 1) (pa_cons (pe_glob (v := .int 1) (by rfl) C_CUSTOMS ⟨_, rfl⟩) pa_nil)))) (pa_cons (pv 2) (pa_cons (pv 3) pa_nil)))))), ?_⟩
    exact ⟨_, rfl, _, rfl, a, i, 1, _, rfl, hP, _, rfl, _, rfl, r, rs, k, t, rfl, hR, q⟩
def spSayingAt (K : PySem.W.Frag) : Sp := fun vs H Q _ => ∃ (a : Addr) (i : Nat) (k t : Int) (r : Addr) (rs : List Row), vs = [.ref a, .int i, .int k, .int t] ∧ Part H a i 1 (.ref r) ∧ Rows K 1 H r rs ∧
  (pick (hit [k] t) rs = none → ∀ p, H p = none → Q (.ref p) (upd H p (.tup [.str "say", .int 0]))) ∧ (∀ q, pick (hit [k] t) rs = some q → ∃ v, q.l = [v] ∧ Q v H)
theorem ok_saying_at {f f1 : Addr} {fd fd1 : FuncData} (D_saying_at : Df K mg "saying_at" st_saying_at f fd ["lands", "land", "kind", "day"]) (D_custom_at : Df K mg "custom_at" st_custom_at f1 fd1 ["lands", "land", "kind", "day"])
    (G_custom_at : FnOk P w K mg base CX0 2 f1 fd1 ["lands", "land", "kind", "day"] (spAt K 1)) : FnOk P w K mg base CX0 3 f fd ["lands", "land", "kind", "day"] (spSayingAt K) := by
  refine D_saying_at.F.ok sc_saying_at (fun vs H Q E h => ?_) (fun cdv A outer s H vs Q E hr h => ?_)
  · obtain ⟨a, i, k, t, r, rs, rfl, _⟩ := h
    rfl
  · obtain ⟨a, i, k, t, r, rs, rfl, hP, hR, q1, q2⟩ := h
    refine ⟨_, (pss_cons (ps_set (i := 4) sc_saying_at.nd rfl (.inl rfl) (pe_call G_custom_at (hr.mono (by decide)) (by rfl) D_custom_at.g D_custom_at.F.kp D_custom_at.b .nil pass0 (pa_cons (pv 0) (pa_cons (pv 1) (pa_cons (pv 2) (pa_cons (pv 3) pa_nil))))))
      (pss_one (ps_ret (pe_ifExp (pt_cmp (pc_isN (pv 4))) (pe_tup (pa_cons pe_str (pa_cons pe_int pa_nil))) (pe_ix ix_tup (pv 4) pe_int (fun _ _ => rfl)))))), ?_⟩
    refine ⟨_, rfl, _, rfl, _, rfl, _, rfl, a, i, k, t, r, rs, rfl, hP, hR, ?_⟩
    cases e : pick (hit [k] t) rs with
    | none => exact ⟨_, rfl, _, rfl, itePos rfl ⟨by decide, q1 e⟩⟩
    | some z =>
      obtain ⟨v, ev, qv⟩ := q2 z e
      obtain ⟨zn, hz⟩ := hR.2 z (pick_mem e).1
      obtain ⟨zk, ek⟩ := len1 zn
      rw [ek, ev] at hz
      exact ⟨_, rfl, _, rfl, iteNeg (fun c => nomatch c) ⟨_, rfl, z.a, _, 2, v, rfl, rfl, SqT.of hz, atI_nat (j := 2) rfl, qv⟩⟩
end
end WL

set_option Elab.async false
set_option linter.all false
set_option maxRecDepth 100000
namespace WL
open PySem PySem.Spec PyProof.Rows L2
section
variable {P : Program} {w : World} {K : PySem.W.Frag} {mg : Str → Option Value} {base : Heap}
def spForce (K : PySem.W.Frag) : Sp := fun vs H Q _ => ∃ (r b : Addr) (t : Int) (bs : List Int) (rs : List Row), vs = [.ref r, .ref b, .int t] ∧ Rows K bs.length H r rs ∧ SqT K H b (bs.map V.int) ∧
  ∀ H', Same H H' → Q (optV (pick (hit bs t) rs)) H'
theorem ok_in_force {f : Addr} {fd : FuncData} (B : Bt mg) (D : Df K mg "_law_in_force" st__law_in_force f fd ["_law_rows", "_law_begin", "_law_day"]) : FnOk P w K mg base CX0 1 f fd ["_law_rows", "_law_begin", "_law_day"] (spForce K) := by
  refine D.F.ok sc__law_in_force (fun vs H Q E h => ?_) (fun cdv A outer s H vs Q E hr h => ?_)
  · obtain ⟨r, b, t, bs, rs, rfl, _⟩ := h
    rfl
  · obtain ⟨r, b, t, bs, rs, rfl, ⟨hR, hw⟩, hB, q⟩ := h
    refine ⟨_, (pss_cons (ps_set (i := 3) sc__law_in_force.nd rfl (.inl rfl) pe_non)
      (pss_cons (ps_for PassesOwn.never rfl (pi_tup (pv 0)) (pg_name (i := 4) sc__law_in_force.nd rfl (.inl rfl))
      (pss_one (ps_if (PW.pt (pw_and (pt_cmpR (op_eqD hr.units) (pe_slice sl_tup (pv 4) po_none (po_some (pe_callB call_len_seq (by rfl) B.len (by decide +kernel) (pa_cons (pv 1) pa_nil)))) (pv 1) (nomark _)) (pw_and1 (pt_cmpR op_le (pe_ix ix_tup (pv 4) (pe_callB call_len_seq (by rfl) B.len (by decide +kernel) (pa_cons (pv 1) pa_nil)) (fun _ _ => rfl)) (pv 2) (nomark _))))) (pss_one (ps_set (i := 3) sc__law_in_force.nd rfl (.inl rfl) (pv 4))) pss_nil)))
      (pss_one (ps_ret (pv 3))))), ?_⟩
    refine ⟨_, rfl, r, rfl, ⟨_, SqT.of hR⟩, for_tup (K := K) (xs := rs.map fun q => V.ref q.a) (fun i σ H' => ∃ y, σ = [some (.ref r), some (.ref b), some (.int t), some (optV (pick (hit bs t) (rs.take i))), y] ∧ Same H H') ⟨none, rfl, Same.refl H⟩
      (fun i σ H' _ ⟨y, _, e⟩ => SqT.of (e _ _ hR)) (fun i x σ H' hx ⟨y, e1, sm⟩ => ?_) (fun σ H' ⟨y, e1, sm⟩ => ?_)⟩
    · subst e1
      rw [List.getElem?_map] at hx
      obtain ⟨z, hz, rfl⟩ := Option.map_eq_some_iff.mp hx
      obtain ⟨zn, hl⟩ := hw z (List.mem_of_getElem? hz)
      have hl' := sm _ _ hl
      have pt := pick_take (hit bs t) hz
      have en : ((bs.map V.int).length : Int) = ((z.ns.map V.int).length : Nat) := by rw [List.length_map, List.length_map, zn]
      refine ⟨.ref z.a, rfl, .ref b, rfl, b, _, rfl, .inr (sameT sm hB), _, rfl, z.a, _, rfl, SqT.of hl', by rw [en]; exact notwhole, fun p np => ?_⟩
      rw [en, cut_to]
      have sm2 := sm.trans (same_upd (o := .tup (z.ns.map V.int)) np)
      refine ⟨_, rfl, .tuple (z.ns.map PyData.int), .tuple (bs.map PyData.int), .tup (SqT.of upd_same) (dp_ints _), .tup (sameT sm2 hB) (dp_ints _), shaped_ints _, shaped_ints _, _, rfl, ?_⟩
      rw [show PyData.eqv (.tuple (z.ns.map PyData.int)) (.tuple (bs.map PyData.int)) = decide (z.ns = bs) from eqvAll_ints _ _]
      refine ite2 (fun e => ?_) (fun e => ?_)
      · refine ⟨.ref z.a, rfl, .ref b, rfl, b, _, rfl, .inr (sameT sm2 hB), z.a, _, _, .int z.s, rfl, rfl, SqT.of (sm2 _ _ hl), ?_, _, rfl, _, _, rfl, rfl, _, rfl, ite2 (fun e' => ?_) (fun e' => ?_)⟩
        · rw [en]
          exact atI_nat (by rw [List.getElem?_append_right (Nat.le_refl _), Nat.sub_self]; rfl)
        · refine ⟨_, rfl, some (.ref z.a), ?_, sm2⟩
          have k2 : hit bs t z = true := by unfold hit; rw [e, e']; rfl
          rw [pt, if_pos k2]
          rfl
        · refine ⟨some (.ref z.a), ?_, sm2⟩
          have k2 : ¬ hit bs t z = true := fun c => e' (Bool.and_eq_true_iff.mp c).2
          rw [pt, if_neg k2]
          rfl
      · refine ite2 (fun c => nomatch c) (fun _ => ⟨some (.ref z.a), ?_, sm2⟩)
        have k2 : ¬ hit bs t z = true := fun c => e (Bool.and_eq_true_iff.mp c).1
        rw [pt, if_neg k2]
        rfl
    · subst e1
      rw [List.length_map, List.take_length]
      exact ⟨_, rfl, q H' sm⟩

/-! ### next -/
def spNext : Sp := fun vs H Q _ => ∃ (a : Addr) (d : Addr × Addr) (N : Nat), vs = [.ref a] ∧ Dk H a d N ∧ N ≤ 1000000 ∧ ∀ (r : Int) H', Kp a d H H' → Dk H' a d (N + 1) → 0 ≤ r → r < MM → Q (.int r) H'
theorem ok_next {f : Addr} {fd : FuncData} (B : Bt mg) (D : Df K mg "_law_next" st__law_next f fd ["_law_deck_here"]) : FnOk P w K mg base CX0 1 f fd ["_law_deck_here"] spNext := by
  refine D.F.ok sc__law_next (fun vs H Q E h => ?_) (fun cdv A outer s H vs Q E hr h => ?_)
  · obtain ⟨a, d, N, rfl, _⟩ := h
    rfl
  · obtain ⟨a, d, N, rfl, ⟨ds, cs, n, hA, hD, hC, nad, nca, ncd, hn, bds, bcs, pcs, lcs⟩, hN, q⟩ := h
    refine ⟨_, (pss_cons (ps_if (pt_cmpR (op_neD hr.units) (pe_ix ix_list (pv 0) pe_int (fun _ _ => rfl)) (pe_lst pa_nil) (nomark _)) (pss_one (ps_ret (pe_bm PySem.F.plainAttrs_list PySem.F.slot_list_pop PySem.F.type_list_pop mt_popAt (pe_ix ix_list (pv 0) pe_int (fun _ _ => rfl)) (pa_cons pe_int pa_nil)))) pss_nil)
      (pss_cons (ps_set (i := 1) sc__law_next.nd rfl (.inl rfl) (pe_ix ix_list (pv 0) pe_int (fun _ _ => rfl)))
      (pss_cons (ps_asg (pe_op op_add (pv 1) pe_int) (pg_sub (pv 0) pe_int set_list))
      (pss_cons (ps_set (i := 2) sc__law_next.nd rfl (.inl rfl) (pe_tup (pa_cons pe_int (pa_cons pe_int (pa_cons pe_int (pa_cons pe_int (pa_cons pe_int (pa_cons pe_int (pa_cons pe_int (pa_cons pe_int (pa_cons pe_int (pa_cons pe_int (pa_cons pe_int (pa_cons pe_int pa_nil))))))))))))))
      (pss_cons (ps_set (i := 3) sc__law_next.nd rfl (.inl rfl) (pe_op op_add (pe_ix ix_list (pe_ix ix_list (pv 0) pe_int (fun _ _ => rfl)) (pe_op op_mod (pe_op op_add (pv 1) pe_int) (pe_callB call_len_seq (by rfl) B.len (by decide +kernel) (pa_cons (pe_ix ix_list (pv 0) pe_int (fun _ _ => rfl)) pa_nil))) (fun _ _ => rfl)) (pe_op op_mul pe_int (pv 1))))
      (pss_cons (ps_set (i := 4) sc__law_next.nd rfl (.inl rfl) (pe_op op_mod (pe_op op_pow (pe_op op_add (pv 3) (pe_op op_mul (pe_ix ix_tup (pv 2) (pe_op op_mod (pv 1) pe_int) (fun _ _ => rfl)) (pe_op op_add (pv 1) pe_int))) pe_int) pe_int))
      (pss_one (ps_ret (pe_op op_mod (pe_op op_add (pv 4) (pe_op op_mul (pe_ix ix_tup (pv 2) (pe_op op_mod (pe_op op_add (pv 1) pe_int) pe_int) (fun _ _ => rfl)) (pv 3))) pe_int))))))))), ?_⟩
    refine ⟨.ref a, rfl, a, _, 0, .ref d.1, rfl, rfl, SqL.of hA, atI_nat (j := 0) rfl, Nat.zero_le _, fun e ne => ?_⟩
    have s1 : Same H (upd H e (.lst [])) := same_upd ne
    have hA1 := s1 _ _ hA
    have hD1 := s1 _ _ hD
    have hC1 := s1 _ _ hC
    refine ⟨.list (ds.map PyData.int), .list (([] : List Int).map PyData.int), .lst (SqL.of hD1) (dp_ints _), .lst (SqL.of upd_same) .nil, shaped_intsL _, shaped_intsL [], _, rfl, ?_⟩
    rw [show PyData.eqv (.list (ds.map PyData.int)) (.list (([] : List Int).map PyData.int)) = decide (ds = []) from eqvAll_ints _ _]
    cases ds with
    | cons x r =>
      refine iteNT (fun z => nomatch z) ?_
      refine ⟨.ref a, rfl, a, _, 0, .ref d.1, rfl, rfl, SqL.of hA1, atI_nat (j := 0) rfl, .inl ⟨rfl, _, SqL.of hD1⟩, d.1, _, 0, 0, .int x, rfl, rfl, hD1, by decide, by decide, (ixN_seq (by unfold ixN; simp)).1, rfl, ?_⟩
      obtain ⟨b0, b1⟩ := bds x List.mem_cons_self
      refine q x _ (fun b o n1 n2 eb => ?_) ⟨r, cs, n, ?_, upd_same, ?_, nad, nca, ncd, by omega, fun y hy => bds y (List.mem_cons_of_mem _ hy), bcs, pcs, lcs⟩ b0 b1
      · rw [upd_ne n2]
        exact s1 _ _ eb
      · rw [upd_ne nad]
        exact hA1
      · rw [upd_ne ncd]
        exact hC1
    | nil =>
      refine iteNS rfl ?_
      refine ⟨.ref a, rfl, a, _, 2, .int n, rfl, rfl, SqL.of hA1, atI_nat (j := 2) rfl, ?_⟩
      refine ⟨_, rfl, _, _, rfl, rfl, _, rfl, a, _, 2, 2, rfl, rfl, hA1, rfl, ?_⟩
      refine ⟨by decide, fun t nt => ?_⟩
      have hA2 : upd (upd H e (.lst [])) a (.lst [.ref d.1, .ref d.2, .int ((n : Int) + 1)]) a = some (.lst [.ref d.1, .ref d.2, .int ((n : Int) + 1)]) := upd_same
      have hC2 : upd (upd H e (.lst [])) a (.lst [.ref d.1, .ref d.2, .int ((n : Int) + 1)]) d.2 = some (.lst (cs.map V.int)) := by rw [upd_ne nca]; exact hC1
      have hD2 : upd (upd H e (.lst [])) a (.lst [.ref d.1, .ref d.2, .int ((n : Int) + 1)]) d.1 = some (.lst (([] : List Int).map V.int)) := by rw [upd_ne nad.symm]; exact hD1
      have kp : ∀ b o, b ≠ a → b ≠ d.1 → H b = some o → upd (upd H e (.lst [])) a (.lst [.ref d.1, .ref d.2, .int ((n : Int) + 1)]) b = some o := fun b o n1 n2 eb => by rw [upd_ne n1]; exact s1 _ _ eb
      have s3 := same_upd (o := .tup (primes.map V.int)) nt
      have hA3 := s3 _ _ hA2
      have hC3 := s3 _ _ hC2
      have hD3 := s3 _ _ hD2
      have hT : upd (upd (upd H e (.lst [])) a (.lst [.ref d.1, .ref d.2, .int ((n : Int) + 1)])) t (.tup (primes.map V.int)) t = some (.tup (primes.map V.int)) := upd_same
      have lc : ((cs.map V.int).length : Int) = cs.length := by rw [List.length_map]
      have hm := emod_lt (r := (n : Int) + 1) (m := ((cs.map V.int).length : Int)) (by omega)
      obtain ⟨v, hv, vm⟩ := atI_some (xs := cs.map V.int) hm.1 hm.2
      obtain ⟨cv, cm, rfl⟩ := List.mem_map.mp vm
      obtain ⟨c0, c1⟩ := bcs cv cm
      have c1 : cv < 2147483629 := c1
      obtain ⟨p1, hp1, a1, b1⟩ := prime_at (i := (n : Int) % 12) (emod_lt (by decide)).1 (emod_lt (by decide)).2
      obtain ⟨p2, hp2, a2, b2⟩ := prime_at (i := ((n : Int) + 5) % 12) (emod_lt (by decide)).1 (emod_lt (by decide)).2
      have hn' : (n : Int) ≤ 1000000 := by omega
      have m1 := mul_bd a1 b1 (show (0 : Int) ≤ (n : Int) + 1 by omega) (show (n : Int) + 1 ≤ 1000001 by omega)
      refine ⟨.ref a, rfl, a, _, 1, .ref d.2, rfl, rfl, SqL.of hA3, atI_nat (j := 1) rfl, _, rfl, _, _, rfl, rfl, .ref a, rfl, a, _, 1, .ref d.2, rfl, rfl, SqL.of hA3, atI_nat (j := 1) rfl, d.2, _, rfl, .inl (SqL.of hC3), _, _, rfl, rfl, (by omega), d.2, _, _, _, rfl, rfl, SqL.of hC3, hv, _, rfl, _, _, rfl, rfl, .inl ⟨by decide, by decide⟩, _, _, rfl, rfl, ?_⟩
      refine ⟨_, rfl, _, rfl, _, rfl, _, _, rfl, rfl, (show (0 : Int) < 12 by decide), t, _, _, _, rfl, rfl, SqT.of hT, hp1, _, rfl, _, _, rfl, rfl, _, _, rfl, rfl, .inl ⟨by omega, by omega⟩, _, _, rfl, rfl, _, _, rfl, rfl, ⟨by decide, by decide, ?_⟩, _, _, rfl, rfl, (show (0 : Int) < 2147483647 by decide), ?_⟩
      · show (cv + 7 * (n : Int) + p1 * ((n : Int) + 1)).natAbs < 2 ^ 64
        omega
      refine ⟨_, rfl, _, rfl, _, rfl, _, _, rfl, rfl, _, _, rfl, rfl, (show (0 : Int) < 12 by decide), t, _, _, _, rfl, rfl, SqT.of hT, hp2, _, rfl, _, _, rfl, rfl, .inl ⟨by omega, by omega⟩, _, _, rfl, rfl, _, _, rfl, rfl, (show (0 : Int) < 2147483629 by decide), ?_⟩
      have fin := emod_lt (r := (cv + 7 * (n : Int) + p1 * ((n : Int) + 1)) ^ (5 : Int).toNat % 2147483647 + p2 * (cv + 7 * (n : Int))) (m := MM) (by decide)
      refine q _ _ (fun b o n1 n2 eb => s3 _ _ (kp b o n1 n2 eb)) ⟨[], cs, n + 1, hA3, hD3, hC3, nad, nca, ncd, by omega, (fun x hx => absurd hx List.not_mem_nil), bcs, pcs, lcs⟩ fin.1 fin.2
def spSpan : Sp := fun vs H Q _ => ∃ (a : Addr) (d : Addr × Addr) (N : Nat), vs = [.ref a] ∧ Dk H a d N ∧ N ≤ 1000000 ∧ ∀ (r : Int) H', Kp a d H H' → Dk H' a d (N + 1) → 0 < r → r ≤ 1000000001 → Q (.int r) H'
theorem ok_span {f f1 : Addr} {fd fd1 : FuncData} (B : Bt mg) (D : Df K mg "_law_span" st__law_span f fd ["_law_deck_here"]) (D__law_next : Df K mg "_law_next" st__law_next f1 fd1 ["_law_deck_here"])
    (G__law_next : FnOk P w K mg base CX0 1 f1 fd1 ["_law_deck_here"] spNext) : FnOk P w K mg base CX0 2 f fd ["_law_deck_here"] spSpan := by
  refine D.F.ok sc__law_span (fun vs H Q E h => ?_) (fun cdv A outer s H vs Q E hr h => ?_)
  · obtain ⟨a, d, N, rfl, _⟩ := h
    rfl
  · obtain ⟨a, d, N, rfl, hK, hN, q⟩ := h
    refine ⟨_, (pss_one (ps_ret (pe_ix ix_list (pe_lst (pa_cons pe_int (pa_cons pe_int (pa_cons pe_int pa_nil)))) (pe_op op_mod (pe_call G__law_next (hr.mono (by decide)) (by rfl) D__law_next.g D__law_next.F.kp D__law_next.b .nil pass0 (pa_cons (pv 0) pa_nil)) pe_int) (fun _ _ => rfl)))), ?_⟩
    refine ⟨by decide, fun l nl => ?_⟩
    have s1 : Same H (upd H l (.lst [.int 5, .int 12, .int 1000000001])) := same_upd nl
    refine ⟨_, rfl, a, d, N, rfl, hK.same s1, hN, fun r H' kp hK' r0 r1 => ?_⟩
    have hm := emod_lt (r := r) (m := 3) (by decide)
    obtain ⟨v, hv, vm⟩ := atI_some (xs := ([5, 12, 1000000001] : List Int).map V.int) hm.1 hm.2
    obtain ⟨x, xm, rfl⟩ := List.mem_map.mp vm
    have hx : ∀ x ∈ ([5, 12, 1000000001] : List Int), 0 < x ∧ x ≤ 1000000001 := by decide
    have nn := hK.nn nl
    refine ⟨_, _, rfl, rfl, (show (0 : Int) < 3 by decide), l, _, _, _, rfl, rfl, SqL.of (kp l _ nn.1 nn.2.1 upd_same), hv, q _ _ ((Kp.of s1).trans kp) hK' (hx x xm).1 (hx x xm).2⟩
end
end WL

set_option Elab.async false
set_option linter.all false
set_option maxRecDepth 100000
namespace WL
open PySem PySem.Spec PyProof.Rows L2
theorem cut_ints (ns : List Int) (lo hi : Option Int) : ∃ ms : List Int, cutV (ns.map V.int) lo hi = ms.map V.int ∧ ms.length ≤ ns.length := by
  unfold cutV
  rw [← List.map_drop, ← List.map_take]
  exact ⟨_, rfl, by rw [List.length_take, List.length_drop]; omega⟩
section
variable {P : Program} {w : World} {K : PySem.W.Frag} {mg : Str → Option Value} {base : Heap}
def spDeck (K : PySem.W.Frag) : Sp := fun vs H Q _ => ∃ (s : Addr) (ns : List Int), vs = [.ref s] ∧ SqL K H s (ns.map V.int) ∧ ns.length ≤ 63 ∧ ∀ a d H', Same H H' → Dk H' a d 0 → Q (.ref a) H'
theorem ok_deck {f : Addr} {fd : FuncData} (B : Bt mg) (D : Df K mg "_law_deck" st__law_deck f fd ["_law_script"]) : FnOk P w K mg base CX0 1 f fd ["_law_script"] (spDeck K) := by
  refine D.F.ok sc__law_deck (fun vs H Q E h => ?_) (fun cdv A outer s H vs Q E hr h => ?_)
  · obtain ⟨a, d, rfl, _⟩ := h
    rfl
  · obtain ⟨sc, ns, rfl, hS, hn, q⟩ := h
    refine ⟨_, (pss_cons (ps_set (i := 1) sc__law_deck.nd rfl (.inl rfl) (pe_lst pa_nil))
      (pss_cons (ps_set (i := 2) sc__law_deck.nd rfl (.inl rfl) (pe_lst (pa_cons (pe_callB call_len_seq (by rfl) B.len (by decide +kernel) (pa_cons (pv 0) pa_nil)) pa_nil)))
      (pss_cons (ps_for PassesOwn.never rfl (pi_list (pe_slice sl_list (pv 0) po_none (po_some pe_int))) (pg_name (i := 3) sc__law_deck.nd rfl (.inl rfl))
      (pss_cons (ps_set (i := 3) sc__law_deck.nd rfl (.inl rfl) (pe_callB call_abs (by rfl) B.abs (by decide +kernel) (pa_cons (pv 3) pa_nil)))
      (pss_cons (ps_expr (pe_bm PySem.F.plainAttrs_list PySem.F.slot_list_append PySem.F.type_list_append mt_append (pv 2) (pa_cons (pe_op op_mod (pv 3) pe_int) pa_nil)))
      (pss_one (ps_while PassesOwn.never (PW.pt (pw_and (pt_cmpR op_ge (pv 3) (pe_op op_pow pe_int pe_int) (nomark _)) (pw_and1 (pt_cmpR op_lt (pe_callB call_len_seq (by rfl) B.len (by decide +kernel) (pa_cons (pv 1) pa_nil)) pe_int (nomark _)))))
      (pss_cons (ps_expr (pe_bm PySem.F.plainAttrs_list PySem.F.slot_list_append PySem.F.type_list_append mt_append (pv 1) (pa_cons (pe_op op_mod (pv 3) pe_int) pa_nil)))
      (pss_one (ps_set (i := 3) sc__law_deck.nd rfl (.inl rfl) (pe_op op_fdivW (pv 3) pe_int)))))))))
      (pss_one (ps_ret (pe_lst (pa_cons (pv 1) (pa_cons (pv 2) (pa_cons pe_int pa_nil))))))))), ?_⟩
    refine ⟨Nat.zero_le _, fun g ng => ?_⟩
    have s1 : Same H (upd H g (.lst [])) := same_upd ng
    refine ⟨_, rfl, sc, _, rfl, .inl (s1.seq hS), (show 1 ≤ sizeLine by decide), fun c nc => ?_⟩
    have s2 := s1.trans (same_upd (o := .lst [.int ((ns.map V.int).length : Nat)]) nc)
    have ngc : g ≠ c := fun z => by
      rw [← z, upd_same] at nc
      cases nc
    obtain ⟨ms, em, lm⟩ := cut_ints ns none (some 63)
    refine ⟨.ref sc, rfl, 63, rfl, sc, _, rfl, s2.seq hS, fun x nx => ?_⟩
    rw [em]
    have s3 := s2.trans (same_upd (o := .lst (ms.map V.int)) nx)
    have nxg : g ≠ x := fun z => by
      rw [← z, upd_ne ngc, upd_same] at nx
      cases nx
    have nxc : c ≠ x := fun z => by
      rw [← z, upd_same] at nx
      cases nx
    refine ⟨x, rfl, ⟨_, SqL.of upd_same⟩, for_list (K := K) (xs := ms.map V.int) (fun i σ H' => ∃ (y : Option V) (ds cs : List Int), σ = [some (.ref sc), some (.ref g), some (.ref c), y] ∧ Same H H' ∧ H' g = some (.lst (ds.map V.int)) ∧ H' c = some (.lst (cs.map V.int)) ∧ H' x = some (.lst (ms.map V.int)) ∧
        ds.length ≤ 900 ∧ cs.length = i + 1 ∧ (∀ x ∈ ds, 0 ≤ x ∧ x < MM) ∧ (∀ x ∈ cs, 0 ≤ x ∧ x < MM))
      ⟨none, [], [(ns.length : Int)], rfl, s3, ?_, ?_, upd_same, by decide, rfl, (fun x hx => absurd hx List.not_mem_nil), ?_⟩ (fun i σ H' _ ⟨_, _, _, _, _, _, _, hx, _⟩ => SqL.of hx) (fun i v σ H' hv hP => ?_) (fun σ H' hP => ?_)⟩
    · rw [upd_ne nxg, upd_ne ngc, upd_same]
      rfl
    · rw [upd_ne nxc, upd_same, List.length_map]
      rfl
    · intro x hx
      have e := List.mem_singleton.mp hx
      subst e
      show 0 ≤ (ns.length : Int) ∧ (ns.length : Int) < 2147483629
      omega
    · obtain ⟨y, ds, cs, rfl, sm, hg, hc, hx, ld, lc, bd, bc⟩ := hP
      rw [List.getElem?_map] at hv
      obtain ⟨z, hz, rfl⟩ := Option.map_eq_some_iff.mp hv
      have hi : i < ms.length := (List.getElem?_eq_some_iff.mp hz).1
      refine ⟨_, rfl, _, rfl, ?_⟩
      have hz0 : 0 ≤ (if z < 0 then -z else z) := by split <;> omega
      generalize (if z < 0 then -z else z) = u at hz0
      have um := emod_lt (r := u) (m := MM) (by decide)
      refine ⟨.ref c, rfl, .inl ⟨rfl, _, SqL.of hc⟩, _, rfl, _, _, rfl, rfl, (show (0 : Int) < 2147483629 by decide), c, _, _, rfl, rfl, hc, size_lt (by rw [List.length_map]; omega), ?_⟩
      have ec : cs.map V.int ++ [V.int (u % 2147483629)] = (cs ++ [u % 2147483629]).map V.int := by rw [List.map_append]; rfl
      rw [ec]
      have bc' : ∀ x ∈ cs ++ [u % 2147483629], 0 ≤ x ∧ x < MM := fun x hx => by
        rcases List.mem_append.mp hx with h | h
        · exact bc x h
        · rw [List.mem_singleton.mp h]; exact um
      refine ⟨fun m σ H' => ∃ (z : Int) (ds : List Int), σ = [some (.ref sc), some (.ref g), some (.ref c), some (.int z)] ∧ 0 ≤ z ∧ m = 900 - ds.length ∧ Same H H' ∧ H' g = some (.lst (ds.map V.int)) ∧ H' c = some (.lst ((cs ++ [u % 2147483629]).map V.int)) ∧ H' x = some (.lst (ms.map V.int)) ∧
        ds.length ≤ 900 ∧ (∀ x ∈ ds, 0 ≤ x ∧ x < MM), ⟨_, u, ds, rfl, hz0, rfl, ?_, ?_, upd_same, ?_, ld, bd⟩, ?_⟩
      · intro b o eb
        rw [upd_ne]
        · exact sm _ _ eb
        · intro e
          subst e
          have e1 := s1 _ _ eb
          rw [nc] at e1
          cases e1
      · rw [upd_ne ngc]; exact hg
      · rw [upd_ne nxc.symm]; exact hx
      · rintro m σ H2 ⟨z, ds2, rfl, z0, rfl, sm2, hg2, hc2, hx2, ld2, bd2⟩
        have fin : ∃ (y : Option V) (ds' cs' : List Int), ([some (.ref sc), some (.ref g), some (.ref c), some (.int z)] : L2.St) = [some (.ref sc), some (.ref g), some (.ref c), y] ∧ Same H H2 ∧ H2 g = some (.lst (ds'.map V.int)) ∧ H2 c = some (.lst (cs'.map V.int)) ∧ H2 x = some (.lst (ms.map V.int)) ∧
            ds'.length ≤ 900 ∧ cs'.length = i + 1 + 1 ∧ (∀ x ∈ ds', 0 ≤ x ∧ x < MM) ∧ (∀ x ∈ cs', 0 ≤ x ∧ x < MM) :=
          ⟨_, ds2, cs ++ [u % 2147483629], rfl, sm2, hg2, hc2, hx2, ld2, by rw [List.length_append, lc]; rfl, bd2, bc'⟩
        refine ⟨_, rfl, _, _, rfl, rfl, ⟨by decide, by decide, by decide⟩, _, _, rfl, rfl, _, rfl, ite2 (fun e => ?_) (fun e => iteF fin)⟩
        refine ⟨_, rfl, g, _, rfl, .inl (SqL.of hg2), _, _, rfl, rfl, _, rfl, ite2 (fun e' => ?_) (fun e' => fin)⟩
        have l9 : ds2.length < 900 := by
          have e1 := of_decide_eq_true e'
          rw [List.length_map] at e1
          omega
        have zm := emod_lt (r := z) (m := MM) (by decide)
        refine ⟨_, fun _ _ h => h, ?_⟩
        refine ⟨.ref g, rfl, .inl ⟨rfl, _, SqL.of hg2⟩, _, rfl, _, _, rfl, rfl, (show (0 : Int) < 2147483629 by decide), g, _, _, rfl, rfl, hg2, size_lt (by rw [List.length_map]; omega), ?_⟩
        refine ⟨_, rfl, _, _, rfl, rfl, wide_div (b := 31) (by decide) (by decide) (by decide) (by decide), ?_⟩
        have eg : ds2.map V.int ++ [V.int (z % 2147483629)] = (ds2 ++ [z % 2147483629]).map V.int := by rw [List.map_append]; rfl
        rw [eg]
        refine ⟨900 - (ds2 ++ [z % 2147483629]).length, by rw [List.length_append, List.length_singleton]; omega, z / 2147483629, ds2 ++ [z % 2147483629], rfl, Int.ediv_nonneg z0 (by decide), rfl, ?_, upd_same, ?_, ?_, by rw [List.length_append, List.length_singleton]; omega, ?_⟩
        · intro b o eb
          rw [upd_ne (ne_of_none eb ng)]
          exact sm2 _ _ eb
        · rw [upd_ne ngc.symm]; exact hc2
        · rw [upd_ne nxg.symm]; exact hx2
        · intro x hx
          rcases List.mem_append.mp hx with h | h
          · exact bd2 x h
          · rw [List.mem_singleton.mp h]; exact zm
    · obtain ⟨y, ds, cs, rfl, sm, hg, hc, hx, ld, lc, bd, bc⟩ := hP
      rw [List.length_map] at lc
      refine ⟨_, rfl, _, rfl, (show 3 ≤ sizeLine by decide), fun a na => q a (g, c) _ (sm.trans (same_upd na)) ⟨ds, cs, 0, upd_same, ?_, ?_, ?_, ?_, ngc.symm, Nat.le_refl _, bd, bc, by omega, by omega⟩⟩
      · rw [upd_ne (ne_of_none hg na)]; exact hg
      · rw [upd_ne (ne_of_none hc na)]; exact hc
      · exact (ne_of_none hg na).symm
      · exact ne_of_none hc na
end
end WL

set_option Elab.async false
set_option linter.all false
set_option maxRecDepth 100000
namespace WL
open PySem PySem.Spec PyProof.Rows L2
theorem pick_int {xs : List Int} {i : Int} (h0 : 0 ≤ i) (h1 : i < (xs.map V.int).length) : ∃ x, atI (xs.map V.int) i = some (.int x) ∧ x ∈ xs := by
  obtain ⟨v, hv, hm⟩ := atI_some h0 h1
  obtain ⟨x, hx, rfl⟩ := List.mem_map.mp hm
  exact ⟨x, hv, hx⟩
theorem div_ok {i : Int} {k : Int} (h : 0 < k) (h2 : k.natAbs < 2 ^ 31) : CDivW i k := wide_div (b := 31) h h2 (by decide) (by decide)
theorem bd2 {k s : Int} (h0 : 0 ≤ k) (h1 : k < 100) (h2 : 0 ≤ s) (h3 : s ≤ 1000000000) : TS.Bd 2000000000 [k, s] := fun m hm => by
  rcases List.mem_cons.mp hm with rfl | hm
  · omega
  · rw [List.mem_singleton.mp hm]; omega
section
variable {P : Program} {w : World} {K : PySem.W.Frag} {mg : Str → Option Value} {base : Heap}
def spRules (K : PySem.W.Frag) : Sp := fun vs H Q _ => ∃ (a : Addr) (d : Addr × Addr) (N : Nat) (span : Int), vs = [.ref a, .int span] ∧ Dk H a d N ∧ N ≤ 900000 ∧ 0 < span ∧ span ≤ 1000000001 ∧
  ∀ t rs H', Kp a d H H' → Dk H' a d (N + 20) → GoodRows K 1 0 2 H' t rs → Q (.ref t) H'
theorem ok_rules {f f1 : Addr} {fd fd1 : FuncData} (B : Bt mg) (D : Df K mg "_law_rules" st__law_rules f fd ["_law_deck_here", "_law_span_here"]) (D__law_next : Df K mg "_law_next" st__law_next f1 fd1 ["_law_deck_here"])
    (G__law_next : FnOk P w K mg base CX0 1 f1 fd1 ["_law_deck_here"] spNext) : FnOk P w K mg base CX0 2 f fd ["_law_deck_here", "_law_span_here"] (spRules K) := by
  have et : ∀ {H H' : Hp} {e : List Key × V}, Tk H H' → Ent 2 0 2 tlTup H e → Ent 2 0 2 tlTup H' e := fun tk h => h.tup tk (by decide)
  refine D.F.ok sc__law_rules (fun vs H Q E h => ?_) (fun cdv A outer s H vs Q E hr h => ?_)
  · obtain ⟨a, d, N, span, rfl, _⟩ := h
    rfl
  · obtain ⟨a, d, N, span, rfl, hK, hN, sp0, sp1, q⟩ := h
    refine ⟨_, (pss_cons (ps_set (i := 2) sc__law_rules.nd rfl (.inr rfl) pe_dnewT)
      (pss_cons (ps_for PassesOwn.never rfl (pi_range1 rfl B.range (pa_cons pe_int pa_nil)) (pg_name (i := 3) sc__law_rules.nd rfl (.inl rfl))
      (pss_cons (ps_set (i := 4) sc__law_rules.nd rfl (.inl rfl) (pe_call G__law_next (hr.mono (by decide)) (by rfl) D__law_next.g D__law_next.F.kp D__law_next.b .nil pass0 (pa_cons (pv 0) pa_nil)))
      (pss_one (ps_for PassesOwn.never rfl (pi_range1 rfl B.range (pa_cons (pe_ix ix_list (pe_lst (pa_cons pe_int (pa_cons pe_int (pa_cons pe_int (pa_cons pe_int (pa_cons pe_int (pa_cons pe_int pa_nil))))))) (pe_op op_mod (pv 4) pe_int) (fun _ _ => rfl)) pa_nil)) (pg_name (i := 5) sc__law_rules.nd rfl (.inl rfl))
      (pss_cons (ps_set (i := 6) sc__law_rules.nd rfl (.inl rfl) (pe_ix ix_list (pe_lst (pa_cons pe_int (pa_cons (pe_op op_mod (pe_call G__law_next (hr.mono (by decide)) (by rfl) D__law_next.g D__law_next.F.kp D__law_next.b .nil pass0 (pa_cons (pv 0) pa_nil)) (pv 1)) pa_nil))) (pe_op op_mod (pe_op op_add (pe_op op_fdivW (pv 4) pe_int) (pv 5)) pe_int) (fun _ _ => rfl)))
      (pss_cons (ps_set (i := 7) sc__law_rules.nd rfl (.inl rfl) (pe_call G__law_next (hr.mono (by decide)) (by rfl) D__law_next.g D__law_next.F.kp D__law_next.b .nil pass0 (pa_cons (pv 0) pa_nil)))
      (pss_one (ps_dput (hu_of hr) (pv 2) (pe_tup (pa_cons (pv 3) (pa_cons (pv 6) pa_nil))) (pe_tup (pa_cons (pe_op op_mod (pv 7) pe_int) (pa_cons (pe_ix ix_list (pe_lst (pa_cons pe_int (pa_cons pe_int (pa_cons pe_int (pa_cons pe_int (pa_cons pe_int pa_nil)))))) (pe_op op_mod (pe_op op_fdivW (pv 7) pe_int) pe_int) (fun _ _ => rfl)) pa_nil))) rfl))))))))
      (pss_one (ps_ret (pe_callTy call_tuple_of (by rfl) B.tuple (by decide +kernel) (pa_cons (pe_lc (own := [("_law_key", 8)]) (g := gName 8) (tt := tYes) rfl sc__law_rules.nd (pi_list (pe_callB (cr_sortK (d := 2) (B := 2000000000) (by decide) rfl) (by rfl) B.sorted (by decide +kernel) (pa_cons (pe_bm0 PySem.F.plainAttrs_dict PySem.F.slot_dict_keys PySem.F.type_dict_keys mt_keysT (pv 2)) pa_nil))) (blkOk_by (own := [("_law_key", 8)]) (N := ["_law_deck_here", "_law_span_here", "_law_kept", "_law_kind", "_law_number", "_law_k", "_law_since", "_law_more", "_law_key"]) (sc := defScope st__law_rules) (by decide +kernel)) (fun _ _ _ _ _ => (pg_name (i := 8) sc__law_rules.nd rfl (.inl rfl))) (fun _ _ _ _ _ => pts_nil) (fun _ _ _ _ _ => (pe_op (show OpR _ _ (rCatT K) from op_catT) (pv 8) (pe_dget (hu_of hr) (pv 2) (pv 8) (fun _ _ => rfl))))) pa_nil)))))), ?_⟩
    intro k nk
    refine ⟨4, rfl, by decide, by decide, for_range (lo := 0) (n := 4) (fun i σ H' => ∃ y3 y4 y5 y6 y7 y8, σ = [some (.ref a), some (.int span), some (.ref k), y3, y4, y5, y6, y7, y8] ∧ Kept 2 0 2 tlTup a d k H H' (N + 5 * i) (2 * i))
      ⟨none, none, none, none, none, none, rfl, Kept.new hK nk⟩ (fun i σ H1 hi hP => ?_) (fun σ H1 hP => ?_)⟩
    · obtain ⟨y3, y4, y5, y6, y7, y8, rfl, hk1⟩ := hP
      refine ⟨_, rfl, a, d, _, rfl, hk1.dk, by omega, fun r H2 kp2 dk2 r0 r1 => ?_⟩
      have hk2 := hk1.step et kp2 dk2
      have hm := emod_lt (r := r) (m := 6) (by decide)
      obtain ⟨c, hc, cm⟩ := pick_int (xs := [1, 1, 1, 2, 2, 0]) hm.1 hm.2
      have c2 : 0 ≤ c ∧ c ≤ 2 := (by decide : ∀ c ∈ ([1, 1, 1, 2, 2, 0] : List Int), 0 ≤ c ∧ c ≤ 2) c cm
      refine ⟨(show 6 ≤ sizeLine by decide), fun l nl => ⟨_, rfl, _, _, rfl, rfl, (show (0 : Int) < 6 by decide), l, _, _, _, rfl, rfl, SqL.of upd_same, hc, c, rfl, by omega, by omega, ?_⟩⟩
      have hk3 := hk2.same et (same_upd (o := .lst (([1, 1, 1, 2, 2, 0] : List Int).map V.int)) nl)
      refine for_range (lo := 0) (n := c.toNat) (fun j σ H' => ∃ y5 y6 y7 y8, σ = [some (.ref a), some (.int span), some (.ref k), some (.int (0 + (i : Int))), some (.int r), y5, y6, y7, y8] ∧ Kept 2 0 2 tlTup a d k H H' (N + 5 * i + 1 + 2 * j) (2 * i + j))
        ⟨y5, y6, y7, y8, rfl, hk3.mono (by omega) (by omega)⟩ (fun j σ H4 hj hP => ?_) (fun σ H4 hP => ?_)
      · obtain ⟨z5, z6, z7, z8, rfl, hk4⟩ := hP
        refine ⟨_, rfl, a, d, _, rfl, hk4.dk, by omega, fun r2 H5 kp5 dk5 r20 r21 => ?_⟩
        have hk5 := hk4.step et kp5 dk5
        refine ⟨_, rfl, _, _, rfl, rfl, sp0, (show 2 ≤ sizeLine by decide), fun l2 nl2 => ?_⟩
        have hk6 := hk5.same et (same_upd (o := .lst (([0, r2 % span] : List Int).map V.int)) nl2)
        have hm2 := emod_lt (r := r / 6 + (0 + (j : Int))) (m := 2) (by decide)
        have hsp := emod_lt (r := r2) sp0
        obtain ⟨x, hx, xm⟩ := pick_int (xs := [0, r2 % span]) hm2.1 hm2.2
        have xb : 0 ≤ x ∧ x ≤ 1000000000 := by
          rcases List.mem_cons.mp xm with rfl | xm
          · omega
          · rw [List.mem_singleton.mp xm]; omega
        refine ⟨_, rfl, _, _, rfl, rfl, div_ok (by decide) (by decide), _, rfl, _, _, rfl, rfl, _, _, rfl, rfl, (show (0 : Int) < 2 by decide), l2, _, _, _, rfl, rfl, SqL.of upd_same, hx, ?_⟩
        refine ⟨_, rfl, a, d, _, rfl, hk6.dk, by omega, fun r3 H7 kp7 dk7 r30 r31 => ?_⟩
        have hk7 := hk6.step et kp7 dk7
        have hm3 := emod_lt (r := r3 / 3) (m := 5) (by decide)
        obtain ⟨wy, hwy, wm⟩ := pick_int (xs := [2, 2, 0, 1, 2]) hm3.1 hm3.2
        refine ⟨_, rfl, _, _, rfl, rfl, (show (0 : Int) < 3 by decide), (show 5 ≤ sizeLine by decide), fun l3 nl3 => ⟨_, rfl, _, _, rfl, rfl, div_ok (by decide) (by decide), _, _, rfl, rfl, (show (0 : Int) < 5 by decide), l3, _, _, _, rfl, rfl, SqL.of upd_same, hwy, (show 2 ≤ sizeLine by decide), fun e ne => ?_⟩⟩
        have hk8 := (hk7.same et (same_upd (o := .lst (([2, 2, 0, 1, 2] : List Int).map V.int)) nl3)).same et (same_upd (o := .tup [.int (r3 % 3), .int wy]) ne)
        refine ⟨_, rfl, _, rfl, _, rfl, (show 2 ≤ sizeLine by decide), fun kk nkk => ?_⟩
        have hk9 := hk8.same et (same_upd (o := .tup [.int (0 + (i : Int)), .int x]) nkk)
        obtain ⟨kvs, hkv, hb, hE⟩ := hk9.ex
        refine ⟨k, _, rfl, DPut.t (k := ([0 + (i : Int), x] : List Int).map Sum.inl) hkv upd_same (size_lt (by omega)), ?_⟩
        refine ⟨_, _, _, _, rfl, (hk9.put et (ns := [0 + (i : Int), x]) ?_ hkv).mono (by omega) (by omega)⟩
        have he : upd (upd (upd H7 l3 (.lst (([2, 2, 0, 1, 2] : List Int).map V.int))) e (.tup [.int (r3 % 3), .int wy])) kk (.tup [.int (0 + (i : Int)), .int x]) e = some (.tup [.int (r3 % 3), .int wy]) := same_upd nkk _ _ upd_same
        refine ⟨[0 + (i : Int), x], rfl, rfl, bd2 (by omega) (by omega) xb.1 xb.2, xb.2, ?_, ?_⟩
        · show (tlTup _ (.ref e)).length = 2
          rw [tlTup_eq he]; rfl
        · show ∀ x ∈ tlTup _ (.ref e), _
          rw [tlTup_eq he]
          intro y hy
          rcases List.mem_cons.mp hy with rfl | hy
          · exact Da.flat rfl
          · rw [List.mem_singleton.mp hy]; exact Da.flat rfl
      · obtain ⟨z5, z6, z7, z8, rfl, hk4⟩ := hP
        exact ⟨_, _, _, _, _, _, rfl, hk4.mono (by omega) (by omega)⟩
    · obtain ⟨y3, y4, y5, y6, y7, y8, rfl, hk1⟩ := hP
      obtain ⟨kvs, hkv, hb, hE⟩ := hk1.ex
      refine rows_of_dict (K := K) (d := 2) (B := 2000000000) (tlTup H1) hkv (by omega) (fun e he => ?_) rfl (fun x => rfl) (fun ns b v H3 Qe sm hb3 ln hv vm qe => ?_) (fun t R H' sm ht lR hR _ _ => ?_)
      · obtain ⟨ns, e1, e2, e3, _⟩ := hE e he
        exact ⟨ns, e1, e2, e3⟩
      · obtain ⟨ns', e1, e2, e3, e4, e5, e6⟩ := hE _ vm
        obtain ⟨ve, ys, rfl, hys⟩ : ∃ ve ys, v = .ref ve ∧ H1 ve = some (.tup ys) := tlTup_of e5 (by decide)
        have et' : tlTup H1 (.ref ve) = ys := tlTup_eq hys
        have ly : ys.length = 2 := by rw [← et']; exact e5
        refine ⟨_, rfl, _, rfl, _, rfl, k, _, rfl, ?_, b, ve, _, ys, rfl, rfl, SqT.of hb3, SqT.of (sm _ _ hys), ?_, size_le (by rw [List.length_map]; omega), fun z => ?_, fun _ p np => qe p _ (same_upd np) ?_⟩
        · have := DGet.t (k := ns.map Sum.inl) (sm _ _ hkv) (show H3 b = some (.tup ((ns.map Sum.inl).map kV)) by rw [kV_ints]; exact hb3)
          rw [hv] at this
          exact this
        · intro z
          rw [List.map_eq_nil_iff] at z
          rw [z] at ln
          cases ln
        · rw [z] at ly; cases ly
        · rw [upd_same, et']
      · refine q t _ H' (hk1.kp.trans (Kp.of sm)) ((hk1.dk.same sm).mono (by omega)) (good_mk (Tk.of sm) hE (by omega) ht lR hR)
end
end WL

set_option Elab.async false
set_option linter.all false
set_option maxRecDepth 100000
namespace WL
open PySem PySem.Spec PyProof.Rows L2
def bud : Nat → Nat
  | 0 => 1
  | n + 1 => 1 + 2 * bud n
theorem fnFalse {P : Program} {w : World} {K : PySem.W.Frag} {mg : Str → Option Value} {base : Heap} {k : Nat} {f : Addr} {fd : FuncData} {ps : List Str} : FnOk P w K mg base CX0 k f fd ps (fun _ _ _ _ => False) :=
  ⟨fun _ _ _ _ h => h.elim, fun _ _ _ _ _ _ _ _ _ _ _ _ _ h => h.elim⟩
section
variable {P : Program} {w : World} {K : PySem.W.Frag} {mg : Str → Option Value} {base : Heap}
/-- a saying with at most n - 1 asks on a way; of 0: nothing is promised -/
def spSay : Nat → Sp
  | 0 => fun _ _ _ _ => False
  | n + 1 => fun vs H Q _ => ∃ (a : Addr) (d : Addr × Addr) (N : Nat) (kind z : Int), vs = [.ref a, .int kind, .int z] ∧ z = n ∧ Dk H a d N ∧ N + bud n ≤ 1000000 ∧ 0 ≤ kind ∧ kind < 4 ∧ ∀ v H', Kp a d H H' → Dk H' a d (N + bud n) → Da (n + 1) H' v → Q v H'
theorem ok_saying {f f1 : Addr} {fd fd1 : FuncData} (B : Bt mg) (D__law_saying : Df K mg "_law_saying" st__law_saying f fd ["_law_deck_here", "_law_kind", "_law_asks"]) (D__law_next : Df K mg "_law_next" st__law_next f1 fd1 ["_law_deck_here"])
    (G__law_next : FnOk P w K mg base CX0 1 f1 fd1 ["_law_deck_here"] spNext) : ∀ n, FnOk P w K mg base CX0 (n + 1) f fd ["_law_deck_here", "_law_kind", "_law_asks"] (spSay n) := by
  intro n
  induction n with
  | zero => exact fnFalse
  | succ n G__law_saying =>
  refine D__law_saying.F.ok sc__law_saying (fun vs H Q E h => ?_) (fun cdv A outer s H vs Q E hr h => ?_)
  · obtain ⟨a, d, N, kind, z, rfl, _⟩ := h
    rfl
  · obtain ⟨a, d, N, kind, z, rfl, rfl, hK, hN, k0, k4, q⟩ := h
    have bp : 1 ≤ bud n := by cases n <;> simp [bud] <;> omega
    refine ⟨_, (pss_cons (ps_set (i := 3) sc__law_saying.nd rfl (.inl rfl) (pe_call G__law_next (hr.mono (by omega)) (by rfl) D__law_next.g D__law_next.F.kp D__law_next.b .nil pass0 (pa_cons (pv 0) pa_nil)))
      (pss_cons (ps_if (PW.pt (pw_or (pt_cmpR op_eq (pv 1) pe_int (nomark _)) (pw_or (pt_cmpR op_eq (pv 2) pe_int (nomark _)) (pw_or1 (pt_cmpR op_eq (pe_op op_mod (pv 3) pe_int) pe_int (nomark _)))))) (pss_one (ps_ret (pe_tup (pa_cons pe_str (pa_cons (pe_ix ix_list (pe_lst (pa_cons pe_int (pa_cons (pe_op op_mod (pe_op op_fdivW (pv 3) pe_int) pe_int) pa_nil))) (pe_op op_mod (pe_op op_fdivW (pv 3) pe_int) pe_int) (fun _ _ => rfl)) pa_nil))))) pss_nil)
      (pss_cons (ps_set (i := 4) sc__law_saying.nd rfl (.inl rfl) (pe_ix ix_list (pe_lst (pa_cons pe_non (pa_cons pe_non (pa_cons (pe_op op_mod (pe_op op_fdivW (pv 3) pe_int) pe_int) (pa_cons (pe_op op_mod (pe_op op_fdivW (pv 3) pe_int) pe_int) pa_nil))))) (pe_op op_mod (pe_op op_fdivW (pv 3) pe_int) pe_int) (fun _ _ => rfl)))
      (pss_cons (ps_set (i := 5) sc__law_saying.nd rfl (.inl rfl) (pe_call G__law_saying hr (by rfl) D__law_saying.g D__law_saying.F.kp D__law_saying.b .nil pass0 (pa_cons (pv 0) (pa_cons (pv 1) (pa_cons (pe_op op_sub (pv 2) pe_int) pa_nil)))))
      (pss_cons (ps_set (i := 6) sc__law_saying.nd rfl (.inl rfl) (pe_call G__law_saying hr (by rfl) D__law_saying.g D__law_saying.F.kp D__law_saying.b .nil pass0 (pa_cons (pv 0) (pa_cons (pv 1) (pa_cons (pe_op op_sub (pv 2) pe_int) pa_nil)))))
      (pss_one (ps_ret (pe_tup (pa_cons pe_str (pa_cons (pe_op op_mod (pe_op op_fdivW (pv 3) pe_int) (pv 1)) (pa_cons (pv 4) (pa_cons (pe_op op_mod (pe_op op_fdivW (pv 3) pe_int) pe_int) (pa_cons (pv 5) (pa_cons (pv 6) pa_nil)))))))))))))), ?_⟩
    refine ⟨_, rfl, a, d, N, rfl, hK, by omega, fun r H1 kp1 dk1 r0 r1 => ?_⟩
    refine ⟨_, rfl, rfl, _, rfl, ite2 (fun e => iteT ?_) (fun e => ⟨_, rfl, rfl, _, rfl, ite2 (fun e2 => iteT ?_) (fun e2 => ⟨_, rfl, _, _, rfl, rfl, (show (0 : Int) < 4 by decide), rfl, _, rfl, ite2 (fun e3 => ?_) (fun e3 => ?_)⟩)⟩)⟩
    rotate_left 3
    · have kn : kind ≠ 0 := fun z => e (by rw [z]; exact decide_eq_true rfl)
      obtain ⟨m, rfl⟩ : ∃ m, n = m + 1 := by
        cases n with
        | zero => exact absurd (decide_eq_true rfl) e2
        | succ m => exact ⟨m, rfl⟩
      have eb : bud (m + 1) = 1 + 2 * bud m := rfl
      have hm := emod_lt (r := r / 4) (m := 4) (by decide)
      obtain ⟨wh, hwh, wm⟩ := atI_some (xs := [V.non, V.non, V.int (r / 24 % 4), V.int (r / 24 % 4)]) hm.1 hm.2
      have wf : flat wh = true := by
        have : ∀ x ∈ [V.non, V.non, V.int (r / 24 % 4), V.int (r / 24 % 4)], flat x = true := by simp [flat]
        exact this wh wm
      refine ⟨_, rfl, _, _, rfl, rfl, div_ok (by decide) (by decide), _, _, rfl, rfl, (show (0 : Int) < 4 by decide), _, rfl, _, _, rfl, rfl, div_ok (by decide) (by decide), _, _, rfl, rfl, (show (0 : Int) < 4 by decide), (show 4 ≤ sizeLine by decide), fun l nl => ?_⟩
      have s2 := same_upd (o := .lst [V.non, V.non, V.int (r / 24 % 4), V.int (r / 24 % 4)]) nl
      refine ⟨_, rfl, _, _, rfl, rfl, div_ok (by decide) (by decide), _, _, rfl, rfl, (show (0 : Int) < 4 by decide), l, _, _, _, rfl, rfl, SqL.of upd_same, hwh, ?_⟩
      refine ⟨_, rfl, _, rfl, _, rfl, _, _, rfl, rfl, a, d, _, kind, _, rfl, by omega, dk1.same s2, by omega, k0, k4, fun yes H3 kp3 dk3 day => ?_⟩
      refine ⟨_, rfl, _, rfl, _, rfl, _, _, rfl, rfl, a, d, _, kind, _, rfl, by omega, dk3, by omega, k0, k4, fun no H4 kp4 dk4 dan => ?_⟩
      have day4 := day.tk (dk3.tk kp4)
      refine ⟨_, rfl, _, _, rfl, rfl, div_ok (by decide) (by decide), _, rfl, _, _, rfl, rfl, (show (0 : Int) < kind by omega), _, rfl, _, rfl, _, _, rfl, rfl, div_ok (by decide) (by decide), _, _, rfl, rfl, (show (0 : Int) < 2 by decide), _, rfl, _, rfl, (show 6 ≤ sizeLine by decide), fun t nt => ?_⟩
      have s5 := same_upd (o := .tup [V.str "ask", .int (r / 96 % kind), wh, .int (r / 384 % 2), yes, no]) nt
      refine q _ _ (kp1.trans ((Kp.of s2).trans (kp3.trans (kp4.trans (Kp.of s5))))) ((dk4.same s5).mono (by omega)) (Da.tup upd_same (show 6 ≤ 1000 by decide) fun x hx => ?_)
      rcases List.mem_cons.mp hx with rfl | hx
      · exact Da.flat rfl
      rcases List.mem_cons.mp hx with rfl | hx
      · exact Da.flat rfl
      rcases List.mem_cons.mp hx with rfl | hx
      · exact Da.flat wf
      rcases List.mem_cons.mp hx with rfl | hx
      · exact Da.flat rfl
      rcases List.mem_cons.mp hx with rfl | hx
      · exact day4.tk (Tk.of s5)
      · rw [List.mem_singleton.mp hx]
        exact dan.tk (Tk.of s5)
    all_goals
      have hm := emod_lt (r := r / 4) (m := 2) (by decide)
      obtain ⟨x, hx, xm⟩ := pick_int (xs := [0, r / 8 % 10]) hm.1 hm.2
      refine ⟨_, rfl, _, _, rfl, rfl, div_ok (by decide) (by decide), _, _, rfl, rfl, (show (0 : Int) < 10 by decide), (show 2 ≤ sizeLine by decide), fun l nl => ?_⟩
      have s2 := same_upd (o := .lst (([0, r / 8 % 10] : List Int).map V.int)) nl
      refine ⟨_, rfl, _, _, rfl, rfl, div_ok (by decide) (by decide), _, _, rfl, rfl, (show (0 : Int) < 2 by decide), l, _, _, _, rfl, rfl, SqL.of upd_same, hx, (show 2 ≤ sizeLine by decide), fun t nt => ?_⟩
      have s3 := same_upd (o := .tup [V.str "say", .int x]) nt
      refine q _ _ (kp1.trans ((Kp.of s2).trans (Kp.of s3))) (((dk1.same s2).same s3).mono (by omega)) (Da.tup upd_same (show 2 ≤ 1000 by decide) fun y hy => ?_)
      rcases List.mem_cons.mp hy with rfl | hy
      · exact Da.flat rfl
      · rw [List.mem_singleton.mp hy]
        exact Da.flat rfl
def spLaws (K : PySem.W.Frag) (n : Nat) : Sp := fun vs H Q _ => ∃ (a : Addr) (d : Addr × Addr) (N : Nat) (span : Int), vs = [.ref a, .int span, .int n] ∧ Dk H a d N ∧ N ≤ 900000 ∧ 0 < span ∧ span ≤ 1000000001 ∧
  ∀ t rs H', Kp a d H H' → Dk H' a d (N + 4 * (3 + 2 * bud n)) → GoodRows K 1 (n + 1) 1 H' t rs → Q (.ref t) H'
theorem ok_laws {f f1 f2 : Addr} {fd fd1 fd2 : FuncData} (n : Nat) (hn : bud n ≤ 1000) (B : Bt mg) (D : Df K mg "_law_laws" st__law_laws f fd ["_law_deck_here", "_law_span_here", "_law_asks"]) (D__law_next : Df K mg "_law_next" st__law_next f1 fd1 ["_law_deck_here"]) (D__law_saying : Df K mg "_law_saying" st__law_saying f2 fd2 ["_law_deck_here", "_law_kind", "_law_asks"])
    (G__law_next : FnOk P w K mg base CX0 1 f1 fd1 ["_law_deck_here"] spNext) (G__law_saying : FnOk P w K mg base CX0 (n + 2) f2 fd2 ["_law_deck_here", "_law_kind", "_law_asks"] (spSay (n + 1))) : FnOk P w K mg base CX0 (n + 3) f fd ["_law_deck_here", "_law_span_here", "_law_asks"] (spLaws K n) := by
  have et : ∀ {H H' : Hp} {e : List Key × V}, Tk H H' → Ent 2 (n + 1) 1 tlOne H e → Ent 2 (n + 1) 1 tlOne H' e := fun tk h => h.one tk
  refine D.F.ok sc__law_laws (fun vs H Q E h => ?_) (fun cdv A outer s H vs Q E hr h => ?_)
  · obtain ⟨a, d, N, span, rfl, _⟩ := h
    rfl
  · obtain ⟨a, d, N, span, rfl, hK, hN, sp0, sp1, q⟩ := h
    refine ⟨_, (pss_cons (ps_set (i := 3) sc__law_laws.nd rfl (.inr rfl) pe_dnewT)
      (pss_cons (ps_for PassesOwn.never rfl (pi_range1 rfl B.range (pa_cons pe_int pa_nil)) (pg_name (i := 4) sc__law_laws.nd rfl (.inl rfl))
      (pss_cons (ps_set (i := 5) sc__law_laws.nd rfl (.inl rfl) (pe_call G__law_next (hr.mono (by omega)) (by rfl) D__law_next.g D__law_next.F.kp D__law_next.b .nil pass0 (pa_cons (pv 0) pa_nil)))
      (pss_one (ps_for PassesOwn.never rfl (pi_range1 rfl B.range (pa_cons (pe_ix ix_list (pe_lst (pa_cons pe_int (pa_cons pe_int (pa_cons pe_int (pa_cons pe_int pa_nil))))) (pe_op op_mod (pv 5) pe_int) (fun _ _ => rfl)) pa_nil)) (pg_name (i := 6) sc__law_laws.nd rfl (.inl rfl))
      (pss_cons (ps_set (i := 7) sc__law_laws.nd rfl (.inl rfl) (pe_ix ix_list (pe_lst (pa_cons pe_int (pa_cons (pe_op op_mod (pe_call G__law_next (hr.mono (by omega)) (by rfl) D__law_next.g D__law_next.F.kp D__law_next.b .nil pass0 (pa_cons (pv 0) pa_nil)) (pv 1)) pa_nil))) (pe_op op_mod (pe_op op_add (pe_op op_fdivW (pv 5) pe_int) (pv 6)) pe_int) (fun _ _ => rfl)))
      (pss_one (ps_dput (hu_of hr) (pv 3) (pe_tup (pa_cons (pv 4) (pa_cons (pv 7) pa_nil))) (pe_call G__law_saying hr (by rfl) D__law_saying.g D__law_saying.F.kp D__law_saying.b .nil pass0 (pa_cons (pv 0) (pa_cons (pv 4) (pa_cons (pv 2) pa_nil)))) rfl)))))))
      (pss_one (ps_ret (pe_callTy call_tuple_of (by rfl) B.tuple (by decide +kernel) (pa_cons (pe_lc (own := [("_law_key", 8)]) (g := gName 8) (tt := tYes) rfl sc__law_laws.nd (pi_list (pe_callB (cr_sortK (d := 2) (B := 2000000000) (by decide) rfl) (by rfl) B.sorted (by decide +kernel) (pa_cons (pe_bm0 PySem.F.plainAttrs_dict PySem.F.slot_dict_keys PySem.F.type_dict_keys mt_keysT (pv 3)) pa_nil))) (blkOk_by (own := [("_law_key", 8)]) (N := ["_law_deck_here", "_law_span_here", "_law_asks", "_law_kept", "_law_kind", "_law_number", "_law_k", "_law_since", "_law_key"]) (sc := defScope st__law_laws) (by decide +kernel)) (fun _ _ _ _ _ => (pg_name (i := 8) sc__law_laws.nd rfl (.inl rfl))) (fun _ _ _ _ _ => pts_nil) (fun _ _ _ _ _ => (pe_op (show OpR _ _ (rCatT K) from op_catT) (pv 8) (pe_tup (pa_cons (pe_dget (hu_of hr) (pv 3) (pv 8) (fun _ _ => rfl)) pa_nil))))) pa_nil)))))), ?_⟩
    intro k nk
    refine ⟨4, rfl, by decide, by decide, for_range (lo := 0) (n := 4) (fun i σ H' => ∃ y3 y4 y5 y6 y7, σ = [some (.ref a), some (.int span), some (.int n), some (.ref k), y3, y4, y5, y6, y7] ∧ Kept 2 (n + 1) 1 tlOne a d k H H' (N + (3 + 2 * bud n) * i) (2 * i))
      ⟨none, none, none, none, none, rfl, Kept.new hK nk⟩ (fun i σ H1 hi hP => ?_) (fun σ H1 hP => ?_)⟩
    · obtain ⟨y3, y4, y5, y6, y7, rfl, hk1⟩ := hP
      have hi3 : (3 + 2 * bud n) * i ≤ (3 + 2 * bud n) * 3 := Nat.mul_le_mul_left _ (by omega)
      have hi4 : (3 + 2 * bud n) * (i + 1) = (3 + 2 * bud n) * i + (3 + 2 * bud n) := by rw [Nat.mul_add, Nat.mul_one]
      refine ⟨_, rfl, a, d, _, rfl, hk1.dk, by omega, fun r H2 kp2 dk2 r0 r1 => ?_⟩
      have hk2 := hk1.step et kp2 dk2
      have hm := emod_lt (r := r) (m := 4) (by decide)
      obtain ⟨c, hc, cm⟩ := pick_int (xs := [1, 1, 2, 0]) hm.1 hm.2
      have c2 : 0 ≤ c ∧ c ≤ 2 := (by decide : ∀ c ∈ ([1, 1, 2, 0] : List Int), 0 ≤ c ∧ c ≤ 2) c cm
      refine ⟨(show 4 ≤ sizeLine by decide), fun l nl => ⟨_, rfl, _, _, rfl, rfl, (show (0 : Int) < 4 by decide), l, _, _, _, rfl, rfl, SqL.of upd_same, hc, c, rfl, by omega, by omega, ?_⟩⟩
      have hk3 := hk2.same et (same_upd (o := .lst (([1, 1, 2, 0] : List Int).map V.int)) nl)
      refine for_range (lo := 0) (n := c.toNat) (fun j σ H' => ∃ y5 y6 y7, σ = [some (.ref a), some (.int span), some (.int n), some (.ref k), some (.int (0 + (i : Int))), some (.int r), y5, y6, y7] ∧ Kept 2 (n + 1) 1 tlOne a d k H H' (N + (3 + 2 * bud n) * i + 1 + (1 + bud n) * j) (2 * i + j))
        ⟨y5, y6, y7, rfl, hk3.mono (by omega) (by omega)⟩ (fun j σ H4 hj hP => ?_) (fun σ H4 hP => ?_)
      · obtain ⟨z5, z6, z7, rfl, hk4⟩ := hP
        have hj2 : (1 + bud n) * j ≤ (1 + bud n) * 1 := Nat.mul_le_mul_left _ (by omega)
        have hj3 : (1 + bud n) * (j + 1) = (1 + bud n) * j + (1 + bud n) := by rw [Nat.mul_add, Nat.mul_one]
        refine ⟨_, rfl, a, d, _, rfl, hk4.dk, by omega, fun r2 H5 kp5 dk5 r20 r21 => ?_⟩
        have hk5 := hk4.step et kp5 dk5
        refine ⟨_, rfl, _, _, rfl, rfl, sp0, (show 2 ≤ sizeLine by decide), fun l2 nl2 => ?_⟩
        have hk6 := hk5.same et (same_upd (o := .lst (([0, r2 % span] : List Int).map V.int)) nl2)
        have hm2 := emod_lt (r := r / 4 + (0 + (j : Int))) (m := 2) (by decide)
        have hsp := emod_lt (r := r2) sp0
        obtain ⟨x, hx, xm⟩ := pick_int (xs := [0, r2 % span]) hm2.1 hm2.2
        have xb : 0 ≤ x ∧ x ≤ 1000000000 := by
          rcases List.mem_cons.mp xm with rfl | xm
          · omega
          · rw [List.mem_singleton.mp xm]; omega
        refine ⟨_, rfl, _, _, rfl, rfl, div_ok (by decide) (by decide), _, rfl, _, _, rfl, rfl, _, _, rfl, rfl, (show (0 : Int) < 2 by decide), l2, _, _, _, rfl, rfl, SqL.of upd_same, hx, ?_⟩
        refine ⟨_, rfl, _, rfl, _, rfl, a, d, _, _, _, rfl, rfl, hk6.dk, by omega, by omega, by omega, fun v H7 kp7 dk7 dv => ?_⟩
        have hk7 := hk6.step et kp7 dk7
        refine ⟨_, rfl, _, rfl, _, rfl, (show 2 ≤ sizeLine by decide), fun kk nkk => ?_⟩
        have s9 := same_upd (o := .tup [.int (0 + (i : Int)), .int x]) nkk
        have hk9 := hk7.same et s9
        obtain ⟨kvs, hkv, hb, hE⟩ := hk9.ex
        refine ⟨k, _, rfl, DPut.t (k := ([0 + (i : Int), x] : List Int).map Sum.inl) hkv upd_same (size_lt (by omega)), ?_⟩
        refine ⟨_, _, _, rfl, (hk9.put et (ns := [0 + (i : Int), x]) ?_ hkv).mono (by omega) (by omega)⟩
        refine ⟨[0 + (i : Int), x], rfl, rfl, bd2 (by omega) (by omega) xb.1 xb.2, xb.2, rfl, fun y hy => ?_⟩
        rw [List.mem_singleton.mp hy]
        exact dv.tk (Tk.of s9)
      · obtain ⟨z5, z6, z7, rfl, hk4⟩ := hP
        have hj2 : (1 + bud n) * c.toNat ≤ (1 + bud n) * 2 := Nat.mul_le_mul_left _ (by omega)
        exact ⟨_, _, _, _, _, rfl, hk4.mono (by omega) (by omega)⟩
    · obtain ⟨y3, y4, y5, y6, y7, rfl, hk1⟩ := hP
      obtain ⟨kvs, hkv, hb, hE⟩ := hk1.ex
      refine rows_of_dict (K := K) (d := 2) (B := 2000000000) (tlOne H1) hkv (by omega) (fun e he => ?_) rfl (fun x => rfl) (fun ns b v H3 Qe sm hb3 ln hv vm qe => ?_) (fun t R H' sm ht lR hR _ _ => ?_)
      · obtain ⟨ns, e1, e2, e3, _⟩ := hE e he
        exact ⟨ns, e1, e2, e3⟩
      · refine ⟨_, rfl, _, rfl, _, rfl, k, v, rfl, ?_, (show 1 ≤ sizeLine by decide), fun e ne => ?_⟩
        · have := DGet.t (k := ns.map Sum.inl) (sm _ _ hkv) (show H3 b = some (.tup ((ns.map Sum.inl).map kV)) by rw [kV_ints]; exact hb3)
          rw [hv] at this
          exact this
        have s4 := same_upd (o := .tup [v]) ne
        refine ⟨b, e, _, [v], rfl, rfl, SqT.of (s4 _ _ hb3), SqT.of upd_same, ?_, size_le (by rw [List.length_map]; show _ + 1 ≤ _; omega), (fun z => nomatch z), fun _ p np => qe p _ (s4.trans (same_upd np)) upd_same⟩
        intro z
        rw [List.map_eq_nil_iff] at z
        rw [z] at ln
        cases ln
      · refine q t _ H' (hk1.kp.trans (Kp.of sm)) ((hk1.dk.same sm).mono (by omega)) (good_mk (Tk.of sm) hE (by omega) ht lR hR)
end
end WL

set_option Elab.async false
set_option linter.all false
set_option maxRecDepth 100000
namespace WL
open PySem PySem.Spec PyProof.Rows L2
section
variable {P : Program} {w : World} {K : PySem.W.Frag} {mg : Str → Option Value} {base : Heap}
def spSame : Nat → Sp
  | 0 => fun _ _ _ _ => False
  | n + 1 => fun vs H Q _ => ∃ v w, vs = [v, w] ∧ Alike n H v w ∧ ∀ H', Same H H' → Q (.bl true) H'
theorem flat_of {n : Nat} {H : Hp} {v w : V} (h : Alike n H v w) : (flat v = true ∧ v = w) ∨ ∃ m a b xs ys, n = m + 1 ∧ v = .ref a ∧ w = .ref b ∧ H a = some (.tup xs) ∧ H b = some (.tup ys) ∧ xs.length = ys.length ∧ xs.length ≤ 1000 ∧ ∀ (i : Nat) x y, xs[i]? = some x → ys[i]? = some y → Alike m H x y := by
  cases n with
  | zero => exact .inl h
  | succ m =>
    rcases h with h | ⟨a, b, xs, ys, h⟩
    · exact .inl h
    · exact .inr ⟨m, a, b, xs, ys, rfl, h⟩
theorem ok_same {f : Addr} {fd : FuncData} (B : Bt mg) (D__law_same : Df K mg "_law_same" st__law_same f fd ["_law_found", "_law_due"]) : ∀ n, FnOk P w K mg base CX0 (n + 1) f fd ["_law_found", "_law_due"] (spSame n) := by
  intro n
  induction n with
  | zero => exact fnFalse
  | succ n G__law_same =>
  refine D__law_same.F.ok sc__law_same (fun vs H Q E h => ?_) (fun cdv A outer s H vs Q E hr h => ?_)
  · obtain ⟨v, w, rfl, _⟩ := h
    rfl
  · obtain ⟨v, w, rfl, hA, q⟩ := h
    refine ⟨_, (pss_cons (ps_if (pt_val (pe_callB call_isi (by rfl) B.isinstance (by decide +kernel) (pa_cons (pv 1) (pa_cons (pe_bltn (v := .ty "tuple") (by rfl) B.tuple (by decide +kernel) rfl) pa_nil)))) (pss_cons (ps_if (PW.pt (pw_or (pt_not (pt_val (pe_callB call_isi (by rfl) B.isinstance (by decide +kernel) (pa_cons (pv 0) (pa_cons (pe_bltn (v := .ty "tuple") (by rfl) B.tuple (by decide +kernel) rfl) pa_nil))))) (pw_or1 (pt_cmpR op_ne (pe_callB call_len_seq (by rfl) B.len (by decide +kernel) (pa_cons (pv 0) pa_nil)) (pe_callB call_len_seq (by rfl) B.len (by decide +kernel) (pa_cons (pv 1) pa_nil)) (nomark _))))) (pss_one (ps_ret pe_bl)) pss_nil)
      (pss_one (ps_ret (pe_callB (cr_all rfl) (by rfl) B.all (by decide +kernel) (pa_cons (pe_lc (own := [("_law_one", 2), ("_law_other", 3)]) (g := gTup K 2 (gCons (gName 2) (gCons (gName 3) gNil))) (tt := tYes) rfl sc__law_same.nd (RZ.pi_zipA (by rfl) B.zip (pa_cons (pv 0) (pa_cons (pv 1) pa_nil))) (blkOk_by (own := [("_law_one", 2), ("_law_other", 3)]) (N := ["_law_found", "_law_due", "_law_one", "_law_other"]) (sc := defScope st__law_same) (by decide +kernel)) (fun _ _ _ _ _ => (pg_tup rfl (pgs_cons (pg_name (i := 2) sc__law_same.nd rfl (.inl rfl)) (pgs_cons (pg_name (i := 3) sc__law_same.nd rfl (.inl rfl)) pgs_nil)))) (fun _ _ _ _ _ => pts_nil) (fun _ _ _ _ _ => (pe_call G__law_same hr (by rfl) D__law_same.g D__law_same.F.kp D__law_same.b .nil pass0 (pa_cons (pv 2) (pa_cons (pv 3) pa_nil))))) pa_nil))))) pss_nil)
      (pss_cons (ps_if (pt_cmp (pc_isN (pv 1))) (pss_one (ps_ret (pe_cmp (pc_isN (pv 0))))) pss_nil)
      (pss_cons (ps_if (PW.pt (pw_or (pt_cmpR op_ne (pe_callB call_isi (by rfl) B.isinstance (by decide +kernel) (pa_cons (pv 0) (pa_cons (pe_bltn (v := .ty "bool") (by rfl) B.bool (by decide +kernel) rfl) pa_nil))) (pe_callB call_isi (by rfl) B.isinstance (by decide +kernel) (pa_cons (pv 1) (pa_cons (pe_bltn (v := .ty "bool") (by rfl) B.bool (by decide +kernel) rfl) pa_nil))) (nomark _)) (pw_or1 (pt_cmpR op_ne (pe_callB call_isi (by rfl) B.isinstance (by decide +kernel) (pa_cons (pv 0) (pa_cons (pe_bltn (v := .ty "str") (by rfl) B.str (by decide +kernel) rfl) pa_nil))) (pe_callB call_isi (by rfl) B.isinstance (by decide +kernel) (pa_cons (pv 1) (pa_cons (pe_bltn (v := .ty "str") (by rfl) B.str (by decide +kernel) rfl) pa_nil))) (nomark _))))) (pss_one (ps_ret pe_bl)) pss_nil)
      (pss_one (ps_ret (pe_cmpR op_eq (pv 0) (pv 1) (nomark _))))))), ?_⟩
    rcases flat_of hA with ⟨fv, rfl⟩ | ⟨m, a, b, xs, ys, rfl, rfl, rfl, ha, hb, hl, h9, hx⟩
    · cases v with
      | non =>
        refine ⟨_, rfl, .non, .ty "tuple", .type "NoneType", .type "tuple", false, rfl, .ty _, .base .non, kit_ty (by decide +kernel), _, rfl, iteF ?_⟩
        exact ⟨_, rfl, _, rfl, itePos rfl ⟨_, rfl, q H (Same.refl H)⟩⟩
      | bl y =>
        refine ⟨_, rfl, .bl y, .ty "tuple", .type "bool", .type "tuple", false, rfl, .ty _, .base (.bl y), kit_ty (by decide +kernel), _, rfl, iteF ?_⟩
        refine ⟨_, rfl, _, rfl, iteNeg (fun c => nomatch c) ?_⟩
        refine ⟨_, rfl, .bl y, .ty "bool", .type "bool", .type "bool", true, rfl, .ty _, .base (.bl y), kit_ty (by decide +kernel), _, rfl, .bl y, .ty "bool", .type "bool", .type "bool", true, rfl, .ty _, .base (.bl y), kit_ty (by decide +kernel), rfl, _, rfl, iteNS rfl ?_⟩
        refine ⟨_, rfl, .bl y, .ty "str", .type "bool", .type "str", false, rfl, .ty _, .base (.bl y), kit_ty (by decide +kernel), _, rfl, .bl y, .ty "str", .type "bool", .type "str", false, rfl, .ty _, .base (.bl y), kit_ty (by decide +kernel), rfl, _, rfl, iteNS rfl ?_⟩
        refine ⟨_, rfl, _, rfl, rfl, ?_⟩
        rw [decide_eq_true rfl]
        exact q H (Same.refl H)
      | int y =>
        refine ⟨_, rfl, .int y, .ty "tuple", .type "int", .type "tuple", false, rfl, .ty _, .base (.int y), kit_ty (by decide +kernel), _, rfl, iteF ?_⟩
        refine ⟨_, rfl, _, rfl, iteNeg (fun c => nomatch c) ?_⟩
        refine ⟨_, rfl, .int y, .ty "bool", .type "int", .type "bool", false, rfl, .ty _, .base (.int y), kit_ty (by decide +kernel), _, rfl, .int y, .ty "bool", .type "int", .type "bool", false, rfl, .ty _, .base (.int y), kit_ty (by decide +kernel), rfl, _, rfl, iteNS rfl ?_⟩
        refine ⟨_, rfl, .int y, .ty "str", .type "int", .type "str", false, rfl, .ty _, .base (.int y), kit_ty (by decide +kernel), _, rfl, .int y, .ty "str", .type "int", .type "str", false, rfl, .ty _, .base (.int y), kit_ty (by decide +kernel), rfl, _, rfl, iteNS rfl ?_⟩
        refine ⟨_, rfl, _, rfl, rfl, ?_⟩
        rw [decide_eq_true rfl]
        exact q H (Same.refl H)
      | str y =>
        refine ⟨_, rfl, .str y, .ty "tuple", .type "str", .type "tuple", false, rfl, .ty _, .base (.str y), kit_ty (by decide +kernel), _, rfl, iteF ?_⟩
        refine ⟨_, rfl, _, rfl, iteNeg (fun c => nomatch c) ?_⟩
        refine ⟨_, rfl, .str y, .ty "bool", .type "str", .type "bool", false, rfl, .ty _, .base (.str y), kit_ty (by decide +kernel), _, rfl, .str y, .ty "bool", .type "str", .type "bool", false, rfl, .ty _, .base (.str y), kit_ty (by decide +kernel), rfl, _, rfl, iteNS rfl ?_⟩
        refine ⟨_, rfl, .str y, .ty "str", .type "str", .type "str", true, rfl, .ty _, .base (.str y), kit_ty (by decide +kernel), _, rfl, .str y, .ty "str", .type "str", .type "str", true, rfl, .ty _, .base (.str y), kit_ty (by decide +kernel), rfl, _, rfl, iteNS rfl ?_⟩
        refine ⟨_, rfl, _, rfl, rfl, ?_⟩
        rw [decide_eq_true rfl]
        exact q H (Same.refl H)
      | byt y => cases fv
      | flt y => cases fv
      | ref y => cases fv
      | ty y => cases fv
    · refine ⟨_, rfl, .ref b, .ty "tuple", .type "tuple", .type "tuple", true, rfl, .ty _, .base (.tup hb), kit_ty (by decide +kernel), _, rfl, iteT ?_⟩
      refine ⟨_, rfl, .ref a, .ty "tuple", .type "tuple", .type "tuple", true, rfl, .ty _, .base (.tup ha), kit_ty (by decide +kernel), _, rfl, iteF ?_⟩
      refine ⟨_, rfl, a, xs, rfl, .inr (SqT.of ha), _, rfl, b, ys, rfl, .inr (SqT.of hb), rfl, _, rfl, iteNS (by rw [hl]) ?_⟩
      refine ⟨_, rfl, _, rfl, a, b, xs, ys, rfl, .inr ⟨SqT.of ha, SqT.of hb, fun D nD => lc_zipT (K := K) (σ := [some (.ref a), some (.ref b), none, none]) hl
        (fun j H3 => H3 D = some (.lst (List.replicate j (V.bl true))) ∧ Same H H3 ∧ j ≤ xs.length)
        ⟨upd_same, same_upd nD, Nat.zero_le _⟩ (fun j H3 hP => ⟨SqT.of (hP.2.1 _ _ ha), SqT.of (hP.2.1 _ _ hb)⟩) (fun j x y T H3 ex ey hP nT => ?_) (fun H3 hP => ?_)⟩⟩
      · obtain ⟨hD, sm, _⟩ := hP
        have sT := same_upd (o := .tup [x, y]) nT
        have sm2 := sm.trans sT
        refine ⟨T, [x, y], rfl, SqT.of upd_same, rfl, x, [y], rfl, y, [], rfl, rfl, rfl, ?_⟩
        have jl : j < xs.length := (List.getElem?_eq_some_iff.mp ex).1
        simp only [tYes, if_true]
        refine ⟨_, rfl, _, rfl, x, y, rfl, (hx j x y ex ey).tk (Tk.of sm2), fun H4 sm4 => ?_⟩
        refine ⟨_, sm4 _ _ (sT _ _ hD), ?_, ?_⟩
        · rw [List.length_replicate]
          exact size_lt (by omega)
        · refine ⟨by rw [upd_same, List.replicate_succ'], fun c o hc => ?_, jl⟩
          rw [upd_ne (ne_of_none hc nD)]
          exact sm4 _ _ (sm2 _ _ hc)
      · obtain ⟨hD, sm, _⟩ := hP
        refine ⟨D, List.replicate xs.length true, rfl, SqL.of (by rw [List.map_replicate]; exact hD), ?_⟩
        have e : (List.replicate xs.length true).all id = true := by simp
        rw [e]
        exact q _ sm
end
end WL

set_option Elab.async false
set_option linter.all false
set_option maxRecDepth 100000
namespace WL
open PySem PySem.Spec PyProof.Rows L2
section
variable {P : Program} {w : World} {K : PySem.W.Frag} {mg : Str → Option Value} {base : Heap}
structure Ld where
  l : Addr
  w : Addr
  rs : List Row
def Ln (K : PySem.W.Frag) (n : Nat) (H : Hp) (q : Ld) : Prop := ∃ parts, H q.l = some (.tup parts) ∧ parts[1]? = some (.ref q.w) ∧ GoodRows K 1 (n + 1) 1 H q.w q.rs
theorem Ln.tk {K : PySem.W.Frag} {n : Nat} {H H' : Hp} {q : Ld} (t : Tk H H') (h : Ln K n H q) : Ln K n H' q := let ⟨ps, h1, h2, h3⟩ := h; ⟨ps, t _ _ h1, h2, h3.tk t⟩
def spLands (K : PySem.W.Frag) (n : Nat) : Sp := fun vs H Q _ => ∃ (a : Addr) (d : Addr × Addr) (N : Nat) (span : Int) (many : Nat), vs = [.ref a, .int many, .int span, .int n] ∧ many ≤ 5 ∧ Dk H a d N ∧ N ≤ 100000 ∧ 0 < span ∧ span ≤ 1000000001 ∧
  ∀ t (L : List Ld) H', Kp a d H H' → Dk H' a d (N + (20 + 4 * (3 + 2 * bud n)) * many) → H' t = some (.tup (L.map fun q => V.ref q.l)) → L.length = many → (∀ q ∈ L, Ln K n H' q) → Q (.ref t) H'
theorem ok_lands {f f1 f2 : Addr} {fd fd1 fd2 : FuncData} (n : Nat) (hn : bud n ≤ 1000) (B : Bt mg) (D : Df K mg "_law_lands" st__law_lands f fd ["_law_deck_here", "_law_many", "_law_span_here", "_law_asks"]) (D__law_rules : Df K mg "_law_rules" st__law_rules f1 fd1 ["_law_deck_here", "_law_span_here"]) (D__law_laws : Df K mg "_law_laws" st__law_laws f2 fd2 ["_law_deck_here", "_law_span_here", "_law_asks"])
    (G__law_rules : FnOk P w K mg base CX0 2 f1 fd1 ["_law_deck_here", "_law_span_here"] (spRules K)) (G__law_laws : FnOk P w K mg base CX0 (n + 3) f2 fd2 ["_law_deck_here", "_law_span_here", "_law_asks"] (spLaws K n)) : FnOk P w K mg base CX0 (n + 4) f fd ["_law_deck_here", "_law_many", "_law_span_here", "_law_asks"] (spLands K n) := by
  refine D.F.ok sc__law_lands (fun vs H Q E h => ?_) (fun cdv A outer s H vs Q E hr h => ?_)
  · obtain ⟨a, d, N, span, many, rfl, _⟩ := h
    rfl
  · obtain ⟨a, d, N, span, many, rfl, m5, hK, hN, sp0, sp1, q⟩ := h
    refine ⟨_, (pss_cons (ps_set (i := 4) sc__law_lands.nd rfl (.inl rfl) (pe_lst pa_nil))
      (pss_cons (ps_for PassesOwn.never rfl (pi_range1 rfl B.range (pa_cons (pv 1) pa_nil)) (pg_name (i := 5) sc__law_lands.nd rfl (.inl rfl))
      (pss_cons (ps_set (i := 6) sc__law_lands.nd rfl (.inl rfl) (pe_call G__law_rules (hr.mono (by omega)) (by rfl) D__law_rules.g D__law_rules.F.kp D__law_rules.b .nil pass0 (pa_cons (pv 0) (pa_cons (pv 2) pa_nil))))
      (pss_one (ps_expr (pe_bm PySem.F.plainAttrs_list PySem.F.slot_list_append PySem.F.type_list_append mt_append (pv 4) (pa_cons (pe_tup (pa_cons (pv 6) (pa_cons (pe_call G__law_laws hr (by rfl) D__law_laws.g D__law_laws.F.kp D__law_laws.b .nil pass0 (pa_cons (pv 0) (pa_cons (pv 2) (pa_cons (pv 3) pa_nil)))) (pa_cons (pe_tup pa_nil) (pa_cons (pe_tup pa_nil) (pa_cons (pe_tup pa_nil) pa_nil)))))) pa_nil))))))
      (pss_one (ps_ret (pe_callTy call_tuple_of (by rfl) B.tuple (by decide +kernel) (pa_cons (pv 4) pa_nil)))))), ?_⟩
    refine ⟨Nat.zero_le _, fun g ng => ?_⟩
    have s1 := same_upd (o := .lst []) ng
    have nn := hK.nn ng
    refine ⟨_, rfl, many, rfl, by omega, by omega, for_range (lo := 0) (n := many) (fun i σ H' => ∃ (y5 y6 : Option V) (L : List Ld), σ = [some (.ref a), some (.int many), some (.int span), some (.int n), some (.ref g), y5, y6] ∧ H' g = some (.lst (L.map fun q => V.ref q.l)) ∧ L.length = i ∧ (∀ q ∈ L, Ln K n H' q) ∧
        Dk H' a d (N + (20 + 4 * (3 + 2 * bud n)) * i) ∧ Kp a d H H')
      ⟨none, none, [], rfl, upd_same, rfl, (fun q hq => absurd hq List.not_mem_nil), hK.same s1, Kp.of s1⟩ (fun i σ H1 hi hP => ?_) (fun σ H1 hP => ?_)⟩
    · obtain ⟨y5, y6, L, rfl, hg, lL, hL, dk1, kp1⟩ := hP
      have hi4 : (20 + 4 * (3 + 2 * bud n)) * i ≤ (20 + 4 * (3 + 2 * bud n)) * 4 := Nat.mul_le_mul_left _ (by omega)
      have hi5 : (20 + 4 * (3 + 2 * bud n)) * (i + 1) = (20 + 4 * (3 + 2 * bud n)) * i + (20 + 4 * (3 + 2 * bud n)) := by rw [Nat.mul_add, Nat.mul_one]
      refine ⟨_, rfl, _, rfl, a, d, _, span, rfl, dk1, by omega, sp0, sp1, fun t1 rs1 H2 kp2 dk2 _ => ?_⟩
      have hg2 := kp2 _ _ nn.1 nn.2.1 hg
      refine ⟨.ref g, rfl, .inl ⟨rfl, _, SqL.of hg2⟩, _, rfl, _, rfl, _, rfl, _, rfl, a, d, _, span, rfl, dk2, by omega, sp0, sp1, fun t2 rs2 H3 kp3 dk3 gr => ?_⟩
      refine ⟨Nat.zero_le _, fun e1 ne1 => ⟨Nat.zero_le _, fun e2 ne2 => ⟨Nat.zero_le _, fun e3 ne3 => ⟨(show 5 ≤ sizeLine by decide), fun l nl => ?_⟩⟩⟩⟩
      have s4 := (((same_upd (o := .tup []) ne1).trans (same_upd (o := .tup []) ne2)).trans (same_upd (o := .tup []) ne3)).trans (same_upd (o := .tup [.ref t1, .ref t2, .ref e1, .ref e2, .ref e3]) nl)
      have hg4 := s4 _ _ (kp3 _ _ nn.1 nn.2.1 hg2)
      have tk5 := ((dk1.tk kp2).trans (dk2.tk kp3)).trans (Tk.of s4)
      refine ⟨g, _, _, rfl, rfl, hg4, size_lt (by rw [List.length_map]; omega), ?_⟩
      have tk6 : Tk _ (upd _ g (.lst (L.map (fun q => V.ref q.l) ++ [V.ref l]))) := Tk.upd hg4 (fun xs z => nomatch z)
      have dk4 := dk3.same s4
      refine ⟨_, _, L ++ [⟨l, t2, rs2⟩], rfl, ?_, ?_, fun z hz => ?_, ?_, ?_⟩
      · rw [upd_same, List.map_append]; rfl
      · rw [List.length_append, lL]; rfl
      · rcases List.mem_append.mp hz with h | h
        · exact (hL z h).tk (tk5.trans tk6)
        · rw [List.mem_singleton.mp h]
          exact Ln.tk tk6 ⟨_, upd_same, rfl, gr.tk (Tk.of s4)⟩
      · exact (dk4.updL nn.1 nn.2.1 nn.2.2).mono (by omega)
      · intro b o h1 h2 hb
        rw [upd_ne (ne_of_none hb ng)]
        exact s4 _ _ (kp3 _ _ h1 h2 (kp2 _ _ h1 h2 (kp1 _ _ h1 h2 hb)))
    · obtain ⟨y5, y6, L, rfl, hg, lL, hL, dk1, kp1⟩ := hP
      refine ⟨_, rfl, g, _, rfl, .inl ⟨SqL.of hg, fun t nt => ?_⟩⟩
      have s2 := same_upd (o := .tup (L.map fun q => V.ref q.l)) nt
      exact q t L _ (kp1.trans (Kp.of s2)) (dk1.same s2) upd_same lL fun z hz => (hL z hz).tk (Tk.of s2)
end
end WL

set_option Elab.async false
set_option linter.all false
set_option maxRecDepth 100000
namespace WL
open PySem PySem.Spec PyProof.Rows L2
section
variable {P : Program} {w : World} {K : PySem.W.Frag} {mg : Str → Option Value} {base : Heap}
def spLaw (K : PySem.W.Frag) : Sp := fun vs H Q _ => ∃ (s : Addr) (ns : List Int), vs = [.ref s] ∧ SqL K H s (ns.map V.int) ∧ ns.length ≤ 63 ∧ ∀ H', Q (.bl true) H'
theorem say0 {H : Hp} {p e : Addr} (hp : H p = some (.tup [.str "say", .int 0])) (he : H e = some (.tup [.str "say", .int 0])) : Alike 4 H (.ref p) (.ref e) :=
  .inr ⟨p, e, _, _, rfl, rfl, hp, he, rfl, (show 2 ≤ 1000 by decide), fun i x y e1 e2 => by
    rw [e1] at e2
    cases e2
    have hm := List.mem_of_getElem? e1
    rcases List.mem_cons.mp hm with rfl | hm
    · exact Da.flat rfl
    · rw [List.mem_singleton.mp hm]; exact Da.flat rfl⟩
theorem ok_law {f f1 f2 f3 f4 f5 f6 f7 : Addr} {fd fd1 fd2 fd3 fd4 fd5 fd6 fd7 : FuncData} (B : Bt mg) (D : Df K mg "law" st_law f fd ["_law_script"]) (D__law_deck : Df K mg "_law_deck" st__law_deck f1 fd1 ["_law_script"]) (D__law_next : Df K mg "_law_next" st__law_next f2 fd2 ["_law_deck_here"]) (D__law_span : Df K mg "_law_span" st__law_span f3 fd3 ["_law_deck_here"])
    (D__law_lands : Df K mg "_law_lands" st__law_lands f4 fd4 ["_law_deck_here", "_law_many", "_law_span_here", "_law_asks"]) (D__law_in_force : Df K mg "_law_in_force" st__law_in_force f5 fd5 ["_law_rows", "_law_begin", "_law_day"]) (D__law_same : Df K mg "_law_same" st__law_same f6 fd6 ["_law_found", "_law_due"]) (D_saying_at : Df K mg "saying_at" st_saying_at f7 fd7 ["lands", "land", "kind", "day"])
    (G__law_deck : FnOk P w K mg base CX0 1 f1 fd1 ["_law_script"] (spDeck K)) (G__law_next : FnOk P w K mg base CX0 1 f2 fd2 ["_law_deck_here"] spNext) (G__law_span : FnOk P w K mg base CX0 2 f3 fd3 ["_law_deck_here"] spSpan) (G__law_lands : FnOk P w K mg base CX0 7 f4 fd4 ["_law_deck_here", "_law_many", "_law_span_here", "_law_asks"] (spLands K 3))
    (G__law_in_force : FnOk P w K mg base CX0 1 f5 fd5 ["_law_rows", "_law_begin", "_law_day"] (spForce K)) (G__law_same : FnOk P w K mg base CX0 6 f6 fd6 ["_law_found", "_law_due"] (spSame 5)) (G_saying_at : FnOk P w K mg base CX0 3 f7 fd7 ["lands", "land", "kind", "day"] (spSayingAt K)) :
    FnOk P w K mg base CX0 8 f fd ["_law_script"] (spLaw K) := by
  refine D.F.ok sc_law (fun vs H Q E h => ?_) (fun cdv A outer s H vs Q E hr h => ?_)
  · obtain ⟨s, ns, rfl, _⟩ := h
    rfl
  · obtain ⟨sc, ns, rfl, hS, hn, q⟩ := h
    refine ⟨_, (pss_cons (ps_set (i := 1) sc_law.nd rfl (.inl rfl) (pe_call G__law_deck (hr.mono (by decide)) (by rfl) D__law_deck.g D__law_deck.F.kp D__law_deck.b .nil pass0 (pa_cons (pv 0) pa_nil)))
      (pss_cons (ps_set (i := 2) sc_law.nd rfl (.inl rfl) (pe_op op_add pe_int (pe_op op_mod (pe_call G__law_next (hr.mono (by decide)) (by rfl) D__law_next.g D__law_next.F.kp D__law_next.b .nil pass0 (pa_cons (pv 1) pa_nil)) pe_int)))
      (pss_cons (ps_set (i := 3) sc_law.nd rfl (.inl rfl) (pe_call G__law_span (hr.mono (by decide)) (by rfl) D__law_span.g D__law_span.F.kp D__law_span.b .nil pass0 (pa_cons (pv 1) pa_nil)))
      (pss_cons (ps_set (i := 4) sc_law.nd rfl (.inl rfl) (pe_call G__law_lands (hr.mono (by decide)) (by rfl) D__law_lands.g D__law_lands.F.kp D__law_lands.b .nil pass0 (pa_cons (pv 1) (pa_cons (pv 2) (pa_cons (pv 3) (pa_cons pe_int pa_nil))))))
      (pss_cons (ps_for PassesOwn.never rfl (pi_range1 rfl B.range (pa_cons (pv 2) pa_nil)) (pg_name (i := 5) sc_law.nd rfl (.inl rfl))
      (pss_cons (ps_set (i := 6) sc_law.nd rfl (.inl rfl) (pe_ix ix_tup (pe_ix ix_tup (pv 4) (pv 5) (fun _ _ => rfl)) pe_int (fun _ _ => rfl)))
      (pss_cons (ps_set (i := 7) sc_law.nd rfl (.inl rfl) (pe_lst (pa_cons pe_int (pa_cons pe_int (pa_cons (pe_op op_mod (pe_call G__law_next (hr.mono (by decide)) (by rfl) D__law_next.g D__law_next.F.kp D__law_next.b .nil pass0 (pa_cons (pv 1) pa_nil)) (pv 3)) pa_nil)))))
      (pss_cons (ps_for PassesOwn.never rfl (pi_tup (pv 6)) (pg_name (i := 8) sc_law.nd rfl (.inl rfl))
      (pss_one (ps_set (i := 7) sc_law.nd rfl (.inl rfl) (pe_op op_cat (pv 7) (pe_lst (pa_cons (pe_ix ix_tup (pv 8) pe_int (fun _ _ => rfl)) (pa_cons (pe_callB (call_max2 rfl) (by rfl) B.max (by decide +kernel) (pa_cons pe_int (pa_cons (pe_op op_sub (pe_ix ix_tup (pv 8) pe_int (fun _ _ => rfl)) pe_int) pa_nil))) (pa_cons (pe_callB (call_min2 rfl) (by rfl) B.min (by decide +kernel) (pa_cons pe_int (pa_cons (pe_op op_add (pe_ix ix_tup (pv 8) pe_int (fun _ _ => rfl)) pe_int) pa_nil))) pa_nil))))))))
      (pss_one (ps_for PassesOwn.never rfl (pi_range1 rfl B.range (pa_cons pe_int pa_nil)) (pg_name (i := 9) sc_law.nd rfl (.inl rfl))
      (pss_one (ps_for PassesOwn.never rfl (pi_list (pv 7)) (pg_name (i := 10) sc_law.nd rfl (.inl rfl))
      (pss_cons (ps_set (i := 8) sc_law.nd rfl (.inl rfl) (pe_call G__law_in_force (hr.mono (by decide)) (by rfl) D__law_in_force.g D__law_in_force.F.kp D__law_in_force.b .nil pass0 (pa_cons (pv 6) (pa_cons (pe_tup (pa_cons (pv 9) pa_nil)) (pa_cons (pv 10) pa_nil)))))
      (pss_cons (ps_set (i := 11) sc_law.nd rfl (.inl rfl) (pe_tup (pa_cons pe_str (pa_cons pe_int pa_nil))))
      (pss_cons (ps_if (pt_cmp (pc_notN (pv 8))) (pss_one (ps_set (i := 11) sc_law.nd rfl (.inl rfl) (pe_ix ix_tup (pv 8) pe_int (fun _ _ => rfl)))) pss_nil)
      (pss_one (ps_if (pt_not (pt_val (pe_call G__law_same (hr.mono (by decide)) (by rfl) D__law_same.g D__law_same.F.kp D__law_same.b .nil pass0 (pa_cons (pe_call G_saying_at (hr.mono (by decide)) (by rfl) D_saying_at.g D_saying_at.F.kp D_saying_at.b .nil pass0 (pa_cons (pv 4) (pa_cons (pv 5) (pa_cons (pv 9) (pa_cons (pv 10) pa_nil))))) (pa_cons (pv 11) pa_nil))))) (pss_one (ps_ret pe_bl)) pss_nil)))))))))))))
      (pss_one (ps_ret pe_bl))))))), ?_⟩
    refine ⟨_, rfl, sc, ns, rfl, hS, hn, fun a d H1 sm1 dk1 => ?_⟩
    refine ⟨_, rfl, a, d, _, rfl, dk1, by omega, fun r H2 kp2 dk2 r0 r1 => ⟨_, _, rfl, rfl, (show (0 : Int) < 4 by decide), _, _, rfl, rfl, ?_⟩⟩
    obtain ⟨m, em⟩ := Int.eq_ofNat_of_zero_le (show 0 ≤ 1 + r % 4 from by have := emod_lt (r := r) (m := 4) (by decide); omega)
    have m4 : m ≤ 4 := by have := emod_lt (r := r) (m := 4) (by decide); omega
    show gName 2 (.int (1 + r % 4)) _ _ _
    rw [em]
    refine ⟨_, rfl, a, d, _, rfl, dk2, by omega, fun sp H3 kp3 dk3 sp0 sp1 => ?_⟩
    refine ⟨_, rfl, _, rfl, _, rfl, a, d, _, sp, m, rfl, by omega, dk3, by omega, sp0, sp1, fun t L H4 kp4 dk4 ht lL hL => ?_⟩
    have b3 : bud 3 = 15 := rfl
    rw [b3] at dk4
    refine ⟨_, rfl, m, rfl, by omega, by omega, for_range (lo := 0) (n := m) (fun i σ H' => ∃ y5 y6 y7 y8 y9 y10 y11, σ = [some (.ref sc), some (.ref a), some (.int m), some (.int sp), some (.ref t), y5, y6, y7, y8, y9, y10, y11] ∧ Dk H' a d (10000 + i) ∧ Tk H4 H')
      ⟨none, none, none, none, none, none, none, rfl, dk4.mono (by omega), Tk.refl H4⟩ (fun i σ H5 hi hP => ?_) (fun σ H5 hP => q _)⟩
    obtain ⟨y5, y6, y7, y8, y9, y10, y11, rfl, dk5, tk5⟩ := hP
    obtain ⟨z, hz⟩ : ∃ z, L[i]? = some z := ⟨L[i], List.getElem?_eq_getElem (by omega)⟩
    obtain ⟨parts, hl, hp1, gr⟩ := (hL z (List.mem_of_getElem? hz)).tk tk5
    have ht5 := tk5 _ _ ht
    have hzt : (L.map fun q => V.ref q.l)[i]? = some (.ref z.l) := by rw [List.getElem?_map, hz]; rfl
    refine ⟨_, rfl, _, rfl, t, _, _, .ref z.l, rfl, rfl, SqT.of ht5, at_of (j := i) (by omega) hzt, z.l, parts, 1, .ref z.w, rfl, rfl, SqT.of hl, atI_nat (j := 1) hp1, ?_⟩
    refine ⟨_, rfl, a, d, _, rfl, dk5, by omega, fun r2 H6 kp6 dk6 r20 r21 => ?_⟩
    have tk6 := dk5.tk kp6
    have gr6 := gr.tk tk6
    refine ⟨_, rfl, _, _, rfl, rfl, sp0, (show 3 ≤ sizeLine by decide), fun g ng => ?_⟩
    have s7 := same_upd (o := .lst (([0, 1000000000, r2 % sp] : List Int).map V.int)) ng
    have tk7 := tk6.trans (Tk.of s7)
    have gr7 := gr6.tk (Tk.of s7)
    have dk7 := dk6.same s7
    have hR7 := gr7.1.1
    refine ⟨_, rfl, z.w, rfl, ⟨_, SqT.of hR7⟩, for_tup (K := K) (xs := z.rs.map fun q => V.ref q.a) (fun j σ H' => ∃ (g' : Addr) (zs : List Int) (y8 : Option V), σ = [some (.ref sc), some (.ref a), some (.int m), some (.int sp), some (.ref t), some (.int (0 + (i : Int))), some (.ref z.w), some (.ref g'), y8, y9, y10, y11] ∧ H' g' = some (.lst (zs.map V.int)) ∧ zs.length = 3 + 3 * j ∧ Same (upd H6 g (.lst (([0, 1000000000, r2 % sp] : List Int).map V.int))) H')
      ⟨g, [0, 1000000000, r2 % sp], _, rfl, upd_same, rfl, Same.refl _⟩ (fun j σ H' _ hP => ?_) (fun j x σ H8 hx hP => ?_) (fun σ H8 hP => ?_)⟩
    · obtain ⟨_, _, _, _, _, _, sm⟩ := hP
      exact SqT.of (sm _ _ hR7)
    · obtain ⟨g', zs, y8, rfl, hg', lz, sm8⟩ := hP
      rw [List.getElem?_map] at hx
      obtain ⟨v, hv, rfl⟩ := Option.map_eq_some_iff.mp hx
      obtain ⟨vn, hvr⟩ := (gr7.1.same sm8).2 v (List.mem_of_getElem? hv)
      obtain ⟨vk, ek⟩ := len1 vn
      rw [ek] at hvr
      have j60 : j < z.rs.length := (List.getElem?_eq_some_iff.mp hv).1
      have l60 := gr7.2.1
      refine ⟨_, rfl, .ref v.a, rfl, v.a, _, 1, _, rfl, rfl, SqT.of hvr, atI_nat (j := 1) rfl, .ref v.a, rfl, v.a, _, 1, _, rfl, rfl, SqT.of hvr, atI_nat (j := 1) rfl, _, _, rfl, rfl, _, _, rfl, .ref v.a, rfl, v.a, _, 1, _, rfl, rfl, SqT.of hvr, atI_nat (j := 1) rfl, _, _, rfl, rfl, _, _, rfl, (show 3 ≤ sizeLine by decide), fun h nh => ?_⟩
      have s9 := same_upd (o := .lst (([v.s, (if v.s - 1 > 0 then v.s - 1 else 0), (if v.s + 1 < 1000000000 then v.s + 1 else 1000000000)] : List Int).map V.int)) nh
      refine ⟨g', h, _, _, rfl, rfl, s9 _ _ hg', upd_same, size_le (by rw [List.length_map]; show _ + 3 ≤ _; omega), fun p np => ?_⟩
      refine ⟨p, zs ++ [v.s, (if v.s - 1 > 0 then v.s - 1 else 0), (if v.s + 1 < 1000000000 then v.s + 1 else 1000000000)], _, rfl, ?_, ?_, (sm8.trans s9).trans (same_upd np)⟩
      · rw [upd_same, List.map_append]; rfl
      · rw [List.length_append, lz]; show _ + 3 = _; omega
    · obtain ⟨g', zs, y8, rfl, hg8, lz, sm8⟩ := hP
      rw [List.length_map] at lz
      have dk8 := dk7.same sm8
      have tk8 := tk7.trans (Tk.of sm8)
      have gr8 := gr7.tk (Tk.of sm8)
      have ht8 := tk8 _ _ ht5
      have hl8 := tk8 _ _ hl
      refine ⟨4, rfl, by decide, by decide, for_range (lo := 0) (n := 4) (fun k σ H' => ∃ y8 y9 y10 y11, σ = [some (.ref sc), some (.ref a), some (.int m), some (.int sp), some (.ref t), some (.int (0 + (i : Int))), some (.ref z.w), some (.ref g'), y8, y9, y10, y11] ∧ Same H8 H')
        ⟨_, _, _, _, rfl, Same.refl _⟩ (fun k σ H9 hk hP => ?_) (fun σ H9 hP => ?_)⟩
      · obtain ⟨y8, y9, y10, y11, rfl, sm9⟩ := hP
        refine ⟨_, rfl, g', rfl, ⟨_, SqL.of (sm9 _ _ hg8)⟩, for_list (K := K) (xs := zs.map V.int) (fun j σ H' => ∃ y8 y10 y11, σ = [some (.ref sc), some (.ref a), some (.int m), some (.int sp), some (.ref t), some (.int (0 + (i : Int))), some (.ref z.w), some (.ref g'), y8, some (.int (0 + (k : Int))), y10, y11] ∧ Same H9 H')
          ⟨_, _, _, rfl, Same.refl _⟩ (fun j σ H' _ hP => ?_) (fun j x σ H10 hx hP => ?_) (fun σ H10 hP => ?_)⟩
        · obtain ⟨_, _, _, _, sm⟩ := hP
          exact SqL.of (sm _ _ (sm9 _ _ hg8))
        · obtain ⟨y8, y10, y11, rfl, sm10⟩ := hP
          rw [List.getElem?_map] at hx
          obtain ⟨day, hday, rfl⟩ := Option.map_eq_some_iff.mp hx
          have sm10' := sm9.trans sm10
          refine ⟨_, rfl, _, rfl, (show 1 ≤ sizeLine by decide), fun b nb => ?_⟩
          have s11 := sm10'.trans (same_upd (o := .tup [.int (0 + (k : Int))]) nb)
          refine ⟨_, rfl, z.w, b, day, [0 + (k : Int)], z.rs, rfl, gr8.1.same s11, SqT.of upd_same, fun H12 sm12 => ?_⟩
          have s12 := s11.trans sm12
          refine ⟨(show 2 ≤ sizeLine by decide), fun e ne => ?_⟩
          have s13 := s12.trans (same_upd (o := .tup [.str "say", .int 0]) ne)
          have gr13 := gr8.tk (Tk.of s13)
          have part : Part (upd H12 e (.tup [.str "say", .int 0])) t i 1 (.ref z.w) := ⟨_, parts, z.l, s13 _ _ ht8, hzt, s13 _ _ hl8, hp1⟩
          have ei : (0 : Int) + (i : Int) = (i : Nat) := by omega
          have back : Same H9 (upd H12 e (.tup [.str "say", .int 0])) := ((sm10.trans (same_upd nb)).trans sm12).trans (same_upd ne)
          cases ep : pick (hit [0 + (k : Int)] day) z.rs with
          | none =>
            refine ⟨_, rfl, _, rfl, iteNS rfl ?_⟩
            refine ⟨_, rfl, _, rfl, _, rfl, _, rfl, t, i, 0 + (k : Int), day, z.w, z.rs, (by rw [ei]; rfl), part, gr13.1, fun _ p np => ?_, fun y ey => by rw [ep] at ey; cases ey⟩
            have s14 := same_upd (o := .tup [.str "say", .int 0]) np
            refine ⟨_, rfl, _, _, rfl, say0 upd_same (s14 _ _ upd_same), fun H15 sm15 => ⟨true, rfl, iteF ⟨_, _, _, rfl, (back.trans s14).trans sm15⟩⟩⟩
          | some y =>
            have ym := (pick_mem ep).1
            obtain ⟨yn, hy⟩ := gr13.1.2 y ym
            obtain ⟨yk, ek⟩ := len1 yn
            obtain ⟨_, _, yl, yd⟩ := gr13.2.2 y ym
            obtain ⟨v, ev⟩ : ∃ v, y.l = [v] := by
              match h : y.l, yl with
              | [v], _ => exact ⟨v, rfl⟩
            rw [ek, ev] at hy
            have dv : Da 4 (upd H12 e (.tup [.str "say", .int 0])) v := yd v (by rw [ev]; exact List.mem_singleton.mpr rfl)
            refine ⟨_, rfl, _, rfl, iteNT (fun c => nomatch c) ?_⟩
            refine ⟨_, rfl, y.a, _, 2, v, rfl, rfl, SqT.of hy, atI_nat (j := 2) rfl, ?_⟩
            refine ⟨_, rfl, _, rfl, _, rfl, _, rfl, t, i, 0 + (k : Int), day, z.w, z.rs, (by rw [ei]; rfl), part, gr13.1, (fun en => by rw [ep] at en; cases en), fun y' ey' => ?_⟩
            rw [ep] at ey'
            cases ey'
            exact ⟨v, ev, _, rfl, _, _, rfl, dv, fun H15 sm15 => ⟨true, rfl, iteF ⟨_, _, _, rfl, back.trans sm15⟩⟩⟩
        · obtain ⟨y8, y10, y11, rfl, sm10⟩ := hP
          exact ⟨_, _, _, _, rfl, sm9.trans sm10⟩
      · obtain ⟨y8, y9, y10, y11, rfl, sm9⟩ := hP
        exact ⟨_, _, _, _, _, _, _, rfl, (dk8.same sm9).mono (by omega), (tk5.trans tk8).trans (Tk.of sm9)⟩
end
end WL

set_option Elab.async false
set_option linter.all false
set_option maxRecDepth 100000
namespace WL
open PySem PySem.Spec PyProof.Rows L2
theorem all_mk {l : PySem.W.OpenLaw} {w : World} {K : PySem.W.Frag} {h : Heap} {mg : Str → Option Value} {fa f_custom_at f_saying_at f_rows_of f_row_at f__law_deck f__law_next f__law_span f__law_rules f__law_saying f__law_laws f__law_lands f__law_in_force f__law_same f_law : Addr} (X : K.In h) (G : h.Ns mainGlobals mg) (hfa : mg "law" = some (.ref fa))
    {od_custom_at an_custom_at od_saying_at an_saying_at od_rows_of an_rows_of od_row_at an_row_at od__law_deck an__law_deck od__law_next an__law_next od__law_span an__law_span od__law_rules an__law_rules od__law_saying an__law_saying od__law_laws an__law_laws od__law_lands an__law_lands od__law_in_force an__law_in_force od__law_same an__law_same od_law an_law : Option Addr} {sl_custom_at sl_saying_at sl_rows_of sl_row_at sl__law_deck sl__law_next sl__law_span sl__law_rules sl__law_saying sl__law_laws sl__law_lands sl__law_in_force sl__law_same sl_law : Array (Option Value)} {oc_custom_at kV_custom_at dc_custom_at pm_custom_at cd_custom_at ct_custom_at oc_saying_at kV_saying_at dc_saying_at pm_saying_at cd_saying_at ct_saying_at oc_rows_of kV_rows_of dc_rows_of pm_rows_of cd_rows_of ct_rows_of oc_row_at kV_row_at dc_row_at pm_row_at cd_row_at ct_row_at oc__law_deck kV__law_deck dc__law_deck pm__law_deck cd__law_deck ct__law_deck oc__law_next kV__law_next dc__law_next pm__law_next cd__law_next ct__law_next oc__law_span kV__law_span dc__law_span pm__law_span cd__law_span ct__law_span oc__law_rules kV__law_rules dc__law_rules pm__law_rules cd__law_rules ct__law_rules oc__law_saying kV__law_saying dc__law_saying pm__law_saying cd__law_saying ct__law_saying oc__law_laws kV__law_laws dc__law_laws pm__law_laws cd__law_laws ct__law_laws oc__law_lands kV__law_lands dc__law_lands pm__law_lands cd__law_lands ct__law_lands oc__law_in_force kV__law_in_force dc__law_in_force pm__law_in_force cd__law_in_force ct__law_in_force oc__law_same kV__law_same dc__law_same pm__law_same cd__law_same ct__law_same oc_law kV_law dc_law pm_law cd_law ct_law : Value} {t_CUSTOMS : Tok}
    (a_custom_at : PySem.W.nsIn K mainGlobals "custom_at" = some (some (.ref f_custom_at))) (l_custom_at : K.lookup f_custom_at = some ⟨oc_custom_at, od_custom_at, .func (PySem.W.fnOf "custom_at" "custom_at" (defArgs st_custom_at) (defBody st_custom_at) (defScope st_custom_at) .none kV_custom_at dc_custom_at pm_custom_at an_custom_at cd_custom_at ct_custom_at), sl_custom_at⟩) (c_custom_at : PySem.W.codeIn K cd_custom_at "custom_at" = true) (k_custom_at : PySem.W.keepIn K (.ref f_custom_at) = true)
    (a_saying_at : PySem.W.nsIn K mainGlobals "saying_at" = some (some (.ref f_saying_at))) (l_saying_at : K.lookup f_saying_at = some ⟨oc_saying_at, od_saying_at, .func (PySem.W.fnOf "saying_at" "saying_at" (defArgs st_saying_at) (defBody st_saying_at) (defScope st_saying_at) .none kV_saying_at dc_saying_at pm_saying_at an_saying_at cd_saying_at ct_saying_at), sl_saying_at⟩) (c_saying_at : PySem.W.codeIn K cd_saying_at "saying_at" = true) (k_saying_at : PySem.W.keepIn K (.ref f_saying_at) = true)
    (a_rows_of : PySem.W.nsIn K mainGlobals "rows_of" = some (some (.ref f_rows_of))) (l_rows_of : K.lookup f_rows_of = some ⟨oc_rows_of, od_rows_of, .func (PySem.W.fnOf "rows_of" "rows_of" (defArgs st_rows_of) (defBody st_rows_of) (defScope st_rows_of) .none kV_rows_of dc_rows_of pm_rows_of an_rows_of cd_rows_of ct_rows_of), sl_rows_of⟩) (c_rows_of : PySem.W.codeIn K cd_rows_of "rows_of" = true) (k_rows_of : PySem.W.keepIn K (.ref f_rows_of) = true)
    (a_row_at : PySem.W.nsIn K mainGlobals "row_at" = some (some (.ref f_row_at))) (l_row_at : K.lookup f_row_at = some ⟨oc_row_at, od_row_at, .func (PySem.W.fnOf "row_at" "row_at" (defArgs st_row_at) (defBody st_row_at) (defScope st_row_at) .none kV_row_at dc_row_at pm_row_at an_row_at cd_row_at ct_row_at), sl_row_at⟩) (c_row_at : PySem.W.codeIn K cd_row_at "row_at" = true) (k_row_at : PySem.W.keepIn K (.ref f_row_at) = true)
    (a__law_deck : PySem.W.nsIn K mainGlobals "_law_deck" = some (some (.ref f__law_deck))) (l__law_deck : K.lookup f__law_deck = some ⟨oc__law_deck, od__law_deck, .func (PySem.W.fnOf "_law_deck" "_law_deck" (defArgs st__law_deck) (defBody st__law_deck) (defScope st__law_deck) .none kV__law_deck dc__law_deck pm__law_deck an__law_deck cd__law_deck ct__law_deck), sl__law_deck⟩) (c__law_deck : PySem.W.codeIn K cd__law_deck "_law_deck" = true) (k__law_deck : PySem.W.keepIn K (.ref f__law_deck) = true)
    (a__law_next : PySem.W.nsIn K mainGlobals "_law_next" = some (some (.ref f__law_next))) (l__law_next : K.lookup f__law_next = some ⟨oc__law_next, od__law_next, .func (PySem.W.fnOf "_law_next" "_law_next" (defArgs st__law_next) (defBody st__law_next) (defScope st__law_next) .none kV__law_next dc__law_next pm__law_next an__law_next cd__law_next ct__law_next), sl__law_next⟩) (c__law_next : PySem.W.codeIn K cd__law_next "_law_next" = true) (k__law_next : PySem.W.keepIn K (.ref f__law_next) = true)
    (a__law_span : PySem.W.nsIn K mainGlobals "_law_span" = some (some (.ref f__law_span))) (l__law_span : K.lookup f__law_span = some ⟨oc__law_span, od__law_span, .func (PySem.W.fnOf "_law_span" "_law_span" (defArgs st__law_span) (defBody st__law_span) (defScope st__law_span) .none kV__law_span dc__law_span pm__law_span an__law_span cd__law_span ct__law_span), sl__law_span⟩) (c__law_span : PySem.W.codeIn K cd__law_span "_law_span" = true) (k__law_span : PySem.W.keepIn K (.ref f__law_span) = true)
    (a__law_rules : PySem.W.nsIn K mainGlobals "_law_rules" = some (some (.ref f__law_rules))) (l__law_rules : K.lookup f__law_rules = some ⟨oc__law_rules, od__law_rules, .func (PySem.W.fnOf "_law_rules" "_law_rules" (defArgs st__law_rules) (defBody st__law_rules) (defScope st__law_rules) .none kV__law_rules dc__law_rules pm__law_rules an__law_rules cd__law_rules ct__law_rules), sl__law_rules⟩) (c__law_rules : PySem.W.codeIn K cd__law_rules "_law_rules" = true) (k__law_rules : PySem.W.keepIn K (.ref f__law_rules) = true)
    (a__law_saying : PySem.W.nsIn K mainGlobals "_law_saying" = some (some (.ref f__law_saying))) (l__law_saying : K.lookup f__law_saying = some ⟨oc__law_saying, od__law_saying, .func (PySem.W.fnOf "_law_saying" "_law_saying" (defArgs st__law_saying) (defBody st__law_saying) (defScope st__law_saying) .none kV__law_saying dc__law_saying pm__law_saying an__law_saying cd__law_saying ct__law_saying), sl__law_saying⟩) (c__law_saying : PySem.W.codeIn K cd__law_saying "_law_saying" = true) (k__law_saying : PySem.W.keepIn K (.ref f__law_saying) = true)
    (a__law_laws : PySem.W.nsIn K mainGlobals "_law_laws" = some (some (.ref f__law_laws))) (l__law_laws : K.lookup f__law_laws = some ⟨oc__law_laws, od__law_laws, .func (PySem.W.fnOf "_law_laws" "_law_laws" (defArgs st__law_laws) (defBody st__law_laws) (defScope st__law_laws) .none kV__law_laws dc__law_laws pm__law_laws an__law_laws cd__law_laws ct__law_laws), sl__law_laws⟩) (c__law_laws : PySem.W.codeIn K cd__law_laws "_law_laws" = true) (k__law_laws : PySem.W.keepIn K (.ref f__law_laws) = true)
    (a__law_lands : PySem.W.nsIn K mainGlobals "_law_lands" = some (some (.ref f__law_lands))) (l__law_lands : K.lookup f__law_lands = some ⟨oc__law_lands, od__law_lands, .func (PySem.W.fnOf "_law_lands" "_law_lands" (defArgs st__law_lands) (defBody st__law_lands) (defScope st__law_lands) .none kV__law_lands dc__law_lands pm__law_lands an__law_lands cd__law_lands ct__law_lands), sl__law_lands⟩) (c__law_lands : PySem.W.codeIn K cd__law_lands "_law_lands" = true) (k__law_lands : PySem.W.keepIn K (.ref f__law_lands) = true)
    (a__law_in_force : PySem.W.nsIn K mainGlobals "_law_in_force" = some (some (.ref f__law_in_force))) (l__law_in_force : K.lookup f__law_in_force = some ⟨oc__law_in_force, od__law_in_force, .func (PySem.W.fnOf "_law_in_force" "_law_in_force" (defArgs st__law_in_force) (defBody st__law_in_force) (defScope st__law_in_force) .none kV__law_in_force dc__law_in_force pm__law_in_force an__law_in_force cd__law_in_force ct__law_in_force), sl__law_in_force⟩) (c__law_in_force : PySem.W.codeIn K cd__law_in_force "_law_in_force" = true) (k__law_in_force : PySem.W.keepIn K (.ref f__law_in_force) = true)
    (a__law_same : PySem.W.nsIn K mainGlobals "_law_same" = some (some (.ref f__law_same))) (l__law_same : K.lookup f__law_same = some ⟨oc__law_same, od__law_same, .func (PySem.W.fnOf "_law_same" "_law_same" (defArgs st__law_same) (defBody st__law_same) (defScope st__law_same) .none kV__law_same dc__law_same pm__law_same an__law_same cd__law_same ct__law_same), sl__law_same⟩) (c__law_same : PySem.W.codeIn K cd__law_same "_law_same" = true) (k__law_same : PySem.W.keepIn K (.ref f__law_same) = true)
    (a_law : PySem.W.nsIn K mainGlobals "law" = some (some (.ref f_law))) (l_law : K.lookup f_law = some ⟨oc_law, od_law, .func (PySem.W.fnOf "law" "law" (defArgs st_law) (defBody st_law) (defScope st_law) .none kV_law dc_law pm_law an_law cd_law ct_law), sl_law⟩) (c_law : PySem.W.codeIn K cd_law "law" = true) (k_law : PySem.W.keepIn K (.ref f_law) = true)
    (g_CUSTOMS : PySem.W.nsIn K mainGlobals "CUSTOMS" = some (some (.int 1 t_CUSTOMS)))
    (z_len : PySem.W.nsIn K mainGlobals "len" = some none) (z_range : PySem.W.nsIn K mainGlobals "range" = some none) (z_sorted : PySem.W.nsIn K mainGlobals "sorted" = some none) (z_tuple : PySem.W.nsIn K mainGlobals "tuple" = some none) (z_list : PySem.W.nsIn K mainGlobals "list" = some none) (z_abs : PySem.W.nsIn K mainGlobals "abs" = some none) (z_isinstance : PySem.W.nsIn K mainGlobals "isinstance" = some none) (z_zip : PySem.W.nsIn K mainGlobals "zip" = some none) (z_all : PySem.W.nsIn K mainGlobals "all" = some none) (z_min : PySem.W.nsIn K mainGlobals "min" = some none) (z_max : PySem.W.nsIn K mainGlobals "max" = some none) (z_bool : PySem.W.nsIn K mainGlobals "bool" = some none) (z_str : PySem.W.nsIn K mainGlobals "str" = some none) (z_int : PySem.W.nsIn K mainGlobals "int" = some none) (z_set : PySem.W.nsIn K mainGlobals "set" = some none) (z_reversed : PySem.W.nsIn K mainGlobals "reversed" = some none) (z_enumerate : PySem.W.nsIn K mainGlobals "enumerate" = some none) :
    ∃ fd : FuncData, (∀ (s : Shared) (v : Value), BindsTo s fd ⟨[v], []⟩ [("_law_script", v)]) ∧ ∀ base : Heap, K.In base → base.Ns mainGlobals mg → FnOk l.prog w K mg base CX0 8 fa fd ["_law_script"] (spLaw K) := by
  have e := hfa.symm.trans (PySem.W.mg_of X G a_law)
  cases e
  have B : Bt mg := ⟨PySem.W.mg_none_of X G z_len, PySem.W.mg_none_of X G z_range, PySem.W.mg_none_of X G z_sorted, PySem.W.mg_none_of X G z_tuple, PySem.W.mg_none_of X G z_list, PySem.W.mg_none_of X G z_abs, PySem.W.mg_none_of X G z_isinstance, PySem.W.mg_none_of X G z_zip, PySem.W.mg_none_of X G z_all, PySem.W.mg_none_of X G z_min, PySem.W.mg_none_of X G z_max, PySem.W.mg_none_of X G z_bool, PySem.W.mg_none_of X G z_str, PySem.W.mg_none_of X G z_int, PySem.W.mg_none_of X G z_set, PySem.W.mg_none_of X G z_reversed, PySem.W.mg_none_of X G z_enumerate⟩
  have F_custom_at := fun_mk (st := st_custom_at) l_custom_at c_custom_at k_custom_at
  have D_custom_at : Df K mg "custom_at" st_custom_at _ _ ["lands", "land", "kind", "day"] := ⟨F_custom_at, PySem.W.mg_of X G a_custom_at, F_custom_at.binds (ps := ["lands", "land", "kind", "day"]) fun _ _ _ _ _ _ us hl => match us, hl with | [_, _, _, _], _ => rfl⟩
  have F_saying_at := fun_mk (st := st_saying_at) l_saying_at c_saying_at k_saying_at
  have D_saying_at : Df K mg "saying_at" st_saying_at _ _ ["lands", "land", "kind", "day"] := ⟨F_saying_at, PySem.W.mg_of X G a_saying_at, F_saying_at.binds (ps := ["lands", "land", "kind", "day"]) fun _ _ _ _ _ _ us hl => match us, hl with | [_, _, _, _], _ => rfl⟩
  have F_rows_of := fun_mk (st := st_rows_of) l_rows_of c_rows_of k_rows_of
  have D_rows_of : Df K mg "rows_of" st_rows_of _ _ ["lands", "land", "part"] := ⟨F_rows_of, PySem.W.mg_of X G a_rows_of, F_rows_of.binds (ps := ["lands", "land", "part"]) fun _ _ _ _ _ _ us hl => match us, hl with | [_, _, _], _ => rfl⟩
  have F_row_at := fun_mk (st := st_row_at) l_row_at c_row_at k_row_at
  have D_row_at : Df K mg "row_at" st_row_at _ _ ["rows", "key", "day"] := ⟨F_row_at, PySem.W.mg_of X G a_row_at, F_row_at.binds (ps := ["rows", "key", "day"]) fun _ _ _ _ _ _ us hl => match us, hl with | [_, _, _], _ => rfl⟩
  have F__law_deck := fun_mk (st := st__law_deck) l__law_deck c__law_deck k__law_deck
  have D__law_deck : Df K mg "_law_deck" st__law_deck _ _ ["_law_script"] := ⟨F__law_deck, PySem.W.mg_of X G a__law_deck, F__law_deck.binds (ps := ["_law_script"]) fun _ _ _ _ _ _ us hl => match us, hl with | [_], _ => rfl⟩
  have F__law_next := fun_mk (st := st__law_next) l__law_next c__law_next k__law_next
  have D__law_next : Df K mg "_law_next" st__law_next _ _ ["_law_deck_here"] := ⟨F__law_next, PySem.W.mg_of X G a__law_next, F__law_next.binds (ps := ["_law_deck_here"]) fun _ _ _ _ _ _ us hl => match us, hl with | [_], _ => rfl⟩
  have F__law_span := fun_mk (st := st__law_span) l__law_span c__law_span k__law_span
  have D__law_span : Df K mg "_law_span" st__law_span _ _ ["_law_deck_here"] := ⟨F__law_span, PySem.W.mg_of X G a__law_span, F__law_span.binds (ps := ["_law_deck_here"]) fun _ _ _ _ _ _ us hl => match us, hl with | [_], _ => rfl⟩
  have F__law_rules := fun_mk (st := st__law_rules) l__law_rules c__law_rules k__law_rules
  have D__law_rules : Df K mg "_law_rules" st__law_rules _ _ ["_law_deck_here", "_law_span_here"] := ⟨F__law_rules, PySem.W.mg_of X G a__law_rules, F__law_rules.binds (ps := ["_law_deck_here", "_law_span_here"]) fun _ _ _ _ _ _ us hl => match us, hl with | [_, _], _ => rfl⟩
  have F__law_saying := fun_mk (st := st__law_saying) l__law_saying c__law_saying k__law_saying
  have D__law_saying : Df K mg "_law_saying" st__law_saying _ _ ["_law_deck_here", "_law_kind", "_law_asks"] := ⟨F__law_saying, PySem.W.mg_of X G a__law_saying, F__law_saying.binds (ps := ["_law_deck_here", "_law_kind", "_law_asks"]) fun _ _ _ _ _ _ us hl => match us, hl with | [_, _, _], _ => rfl⟩
  have F__law_laws := fun_mk (st := st__law_laws) l__law_laws c__law_laws k__law_laws
  have D__law_laws : Df K mg "_law_laws" st__law_laws _ _ ["_law_deck_here", "_law_span_here", "_law_asks"] := ⟨F__law_laws, PySem.W.mg_of X G a__law_laws, F__law_laws.binds (ps := ["_law_deck_here", "_law_span_here", "_law_asks"]) fun _ _ _ _ _ _ us hl => match us, hl with | [_, _, _], _ => rfl⟩
  have F__law_lands := fun_mk (st := st__law_lands) l__law_lands c__law_lands k__law_lands
  have D__law_lands : Df K mg "_law_lands" st__law_lands _ _ ["_law_deck_here", "_law_many", "_law_span_here", "_law_asks"] := ⟨F__law_lands, PySem.W.mg_of X G a__law_lands, F__law_lands.binds (ps := ["_law_deck_here", "_law_many", "_law_span_here", "_law_asks"]) fun _ _ _ _ _ _ us hl => match us, hl with | [_, _, _, _], _ => rfl⟩
  have F__law_in_force := fun_mk (st := st__law_in_force) l__law_in_force c__law_in_force k__law_in_force
  have D__law_in_force : Df K mg "_law_in_force" st__law_in_force _ _ ["_law_rows", "_law_begin", "_law_day"] := ⟨F__law_in_force, PySem.W.mg_of X G a__law_in_force, F__law_in_force.binds (ps := ["_law_rows", "_law_begin", "_law_day"]) fun _ _ _ _ _ _ us hl => match us, hl with | [_, _, _], _ => rfl⟩
  have F__law_same := fun_mk (st := st__law_same) l__law_same c__law_same k__law_same
  have D__law_same : Df K mg "_law_same" st__law_same _ _ ["_law_found", "_law_due"] := ⟨F__law_same, PySem.W.mg_of X G a__law_same, F__law_same.binds (ps := ["_law_found", "_law_due"]) fun _ _ _ _ _ _ us hl => match us, hl with | [_, _], _ => rfl⟩
  have F_law := fun_mk (st := st_law) l_law c_law k_law
  have D_law : Df K mg "law" st_law _ _ ["_law_script"] := ⟨F_law, PySem.W.mg_of X G a_law, F_law.binds (ps := ["_law_script"]) fun _ _ _ _ _ _ us hl => match us, hl with | [_], _ => rfl⟩
  have C_CUSTOMS := PySem.W.mg_of X G g_CUSTOMS
  refine ⟨PySem.W.fnOf "law" "law" (defArgs st_law) (defBody st_law) (defScope st_law) .none kV_law dc_law pm_law an_law cd_law ct_law, fun s v => .of_eq rfl, fun base _ _ => ?_⟩
  have G_next := ok_next (P := l.prog) (w := w) (base := base) B D__law_next
  have G_say := ok_saying (P := l.prog) (w := w) (base := base) B D__law_saying D__law_next G_next 4
  have G_rules := ok_rules (P := l.prog) (w := w) (base := base) B D__law_rules D__law_next G_next
  have G_laws := ok_laws (P := l.prog) (w := w) (base := base) 3 (by decide) B D__law_laws D__law_next D__law_saying G_next G_say
  have G_row := ok_row_at (P := l.prog) (w := w) (base := base) D_row_at
  have G_rows := ok_rows_of (P := l.prog) (w := w) (base := base) B D_rows_of
  have G_cust := ok_custom_at (P := l.prog) (w := w) (base := base) D_custom_at D_row_at D_rows_of G_row G_rows C_CUSTOMS
  exact ok_law B D_law D__law_deck D__law_next D__law_span D__law_lands D__law_in_force D__law_same D_saying_at (ok_deck B D__law_deck) G_next (ok_span B D__law_span D__law_next G_next)
    (ok_lands 3 (by decide) B D__law_lands D__law_rules D__law_laws G_rules G_laws) (ok_in_force B D__law_in_force) (ok_same B D__law_same 5) (ok_saying_at D_saying_at D_custom_at G_cust)
end WL
open PySem PySem.W PyProof.Rows
set_option maxHeartbeats 0 in
theorem PySem.Challenge.cw_whoselaw_k02_sayings_in_force_holds : PySem.Challenge.rw_whoselaw_k02_sayings_in_force.Holds := by
  w_on; o_law; k_head; (case hw => w_witness2)
  k_fill
  refine L2.walk_of (l := PySem.Challenge.rw_whoselaw_k02_sayings_in_force) (n := 63) (k := 8) (x := "_law_script") (CX := fun _ => L2.CX0) (sp := fun w => WL.spLaw _) rfl (by decide) rfl ⟨rfl, by decide, by decide⟩ (fun w h Y => PySem.W.kIn_of Y) ?F (fun _ _ a ns hl _ hS => ⟨a, ns, rfl, hS, hl, fun _ => rfl⟩) (fun _ _ _ _ _ h => h)
  case F =>
    intro w mg fa h KX G hmg
    refine' WL.all_mk KX G hmg ?a_custom_at ?l_custom_at ?c_custom_at ?k_custom_at ?a_saying_at ?l_saying_at ?c_saying_at ?k_saying_at ?a_rows_of ?l_rows_of ?c_rows_of ?k_rows_of ?a_row_at ?l_row_at ?c_row_at ?k_row_at ?a__law_deck ?l__law_deck ?c__law_deck ?k__law_deck ?a__law_next ?l__law_next ?c__law_next ?k__law_next ?a__law_span ?l__law_span ?c__law_span ?k__law_span ?a__law_rules ?l__law_rules ?c__law_rules ?k__law_rules ?a__law_saying ?l__law_saying ?c__law_saying ?k__law_saying ?a__law_laws ?l__law_laws ?c__law_laws ?k__law_laws ?a__law_lands ?l__law_lands ?c__law_lands ?k__law_lands ?a__law_in_force ?l__law_in_force ?c__law_in_force ?k__law_in_force ?a__law_same ?l__law_same ?c__law_same ?k__law_same ?a_law ?l_law ?c_law ?k_law ?g_CUSTOMS ?z_len ?z_range ?z_sorted ?z_tuple ?z_list ?z_abs ?z_isinstance ?z_zip ?z_all ?z_min ?z_max ?z_bool ?z_str ?z_int ?z_set ?z_reversed ?z_enumerate
    (case a_custom_at => k_is); (case l_custom_at => k_is); (case c_custom_at => k_is); (case k_custom_at => k_is); (case a_saying_at => k_is); (case l_saying_at => k_is); (case c_saying_at => k_is); (case k_saying_at => k_is); (case a_rows_of => k_is); (case l_rows_of => k_is); (case c_rows_of => k_is); (case k_rows_of => k_is); (case a_row_at => k_is); (case l_row_at => k_is); (case c_row_at => k_is); (case k_row_at => k_is); (case a__law_deck => k_is); (case l__law_deck => k_is); (case c__law_deck => k_is); (case k__law_deck => k_is); (case a__law_next => k_is); (case l__law_next => k_is); (case c__law_next => k_is); (case k__law_next => k_is); (case a__law_span => k_is); (case l__law_span => k_is); (case c__law_span => k_is); (case k__law_span => k_is); (case a__law_rules => k_is); (case l__law_rules => k_is); (case c__law_rules => k_is); (case k__law_rules => k_is); (case a__law_saying => k_is); (case l__law_saying => k_is); (case c__law_saying => k_is); (case k__law_saying => k_is); (case a__law_laws => k_is); (case l__law_laws => k_is); (case c__law_laws => k_is); (case k__law_laws => k_is); (case a__law_lands => k_is); (case l__law_lands => k_is); (case c__law_lands => k_is); (case k__law_lands => k_is); (case a__law_in_force => k_is); (case l__law_in_force => k_is); (case c__law_in_force => k_is); (case k__law_in_force => k_is); (case a__law_same => k_is); (case l__law_same => k_is); (case c__law_same => k_is); (case k__law_same => k_is); (case a_law => k_is); (case l_law => k_is); (case c_law => k_is); (case k_law => k_is); (case g_CUSTOMS => k_is); (case z_len => k_is); (case z_range => k_is); (case z_sorted => k_is); (case z_tuple => k_is); (case z_list => k_is); (case z_abs => k_is); (case z_isinstance => k_is); (case z_zip => k_is); (case z_all => k_is); (case z_min => k_is); (case z_max => k_is); (case z_bool => k_is); (case z_str => k_is); (case z_int => k_is); (case z_set => k_is); (case z_reversed => k_is); (case z_enumerate => k_is)
