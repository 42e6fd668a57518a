import PyProof.Rows.All
import Wide.All
import OpenK.AllK
import Wide.FinOn
import HandS.ForMost
import HandS.IsInst
import HandS.TupSets
import HandS.Conv
import HandS.Zip
import HandS.Wide
import HandS.Flow
import HandS.TupLen
import HandS.DictTup
import KE.KDictCopyH
import HandS.Strs
import HandS.SetBool
import PySem.Challenge.RW_whoselaw_k06_what_stands
set_option Elab.async false
set_option linter.all false
set_option maxRecDepth 100000
namespace WL
open PySem PySem.Spec PyProof.Rows L2

/-! ### sorted(d.keys()), the keys tuples of ints -/
def keysO (p d : Addr) : HO := .ext fun h => PySem.W.KdlKeysView h p d
theorem keysO_ok {P : Program} {w : World} {H : Hp} {h : Heap} {p d : Addr} (e : h.get? p = some { cls := .type "dict_keys", data := .fields #[.ref d] }) : ObjOk P w H h p (keysO p d) :=
  ⟨⟨_, e, rfl, rfl⟩, ⟨_, e⟩, fun h1 h2 ⟨o, a, b, c⟩ k => ⟨o, k o a, b, c⟩⟩
def intK : Key → Int
  | .inl i => i
  | .inr _ => 0
section
variable {prog : Program} {w : World} {A : Around} {E : Value → Shared → Prop} {s : Shared}
theorem meetsKeys {d : Addr} {es : Array DictEntry} {ep : Nat} (hd : (d == sysModules) = false) :
    MeetsIn prog w (Builtin.«dict.keys» ⟨[.ref d], []⟩) (fun _ R s => s.heap.DictRaw d es ep ∧
      R (.ok (.ret (.ref s.heap.objs.size))) { s with heap := s.heap.push { cls := .type "dict_keys", data := .fields #[.ref d] } }) :=
  .of_wp fun A R s ⟨hm, h⟩ => by
    refine wpAny_bind ?_
    unfold Builtin.Dict.noArgs
    refine wpAny_bind (wpAny_notOrdered_dict hm.typeIs ?_)
    show wpAny _ _ (pure d) _ _ s
    refine wpAny_pure ?_
    show wpAny _ _ (Builtin.Dict.showsAll d >>= _) _ _ s
    unfold Builtin.Dict.showsAll
    rw [if_neg (by rw [hd]; exact Bool.false_ne_true)]
    refine wpAny_bind (wpAny_pure ?_)
    exact wpAny_bind (wpAny_newObj_type (wpAny_pure ⟨_, rfl, h⟩))
end
section
variable {X : Cx}
def rKeysT : V → List V → Hp → VK → Prop := fun x xs H Q => ∃ (a : Addr) (kvs : List (List Key × V)), x = .ref a ∧ xs = [] ∧ H a = some (.dT kvs) ∧ ∀ p, H p = none → Q (.ref p) (upd H p (keysO p a))
theorem mt_keysT : MtR X "dict.keys" rKeysT := by
  intro pins s σ H x xs v us Q I rx rxs h
  obtain ⟨a, kvs, rfl, rfl, ha, q⟩ := h
  cases rx
  cases rxs
  obtain ⟨z, hd, xs', rel, o, es, ep, ho, hx, hdat, _⟩ := dt_of I.hok ha
  have hf : H s.heap.objs.size = none := I.hok.fresh (Nat.le_refl _)
  have hm : s.heap.DictRaw a es ep := ⟨o, ho, hx, hdat⟩
  exact call_meetsIn PySem.F.slot_dict_keys hm.typeIs PySem.F.entry_dict_keys (PySem.F.args_dict_keys_1 _) (meetsKeys (es := es) (ep := ep) hd)
    ⟨hm, .ref s.heap.objs.size, upd H s.heap.objs.size (keysO s.heap.objs.size a), I.laid (t' := s.toks) (fun b u e => Heap.get?_push_of_some _ e) (Nat.le_refl _) (keysO_ok (Heap.get?_push_size _ rfl)), rfl, q _ hf⟩
/-- sorted(r), r a source of n values: what is left is the sort of a new list of them -/
theorem sorted_src {T : String} {r d : Addr} {n : Nat} {Pv : Nat → Value → Prop} {OK : Heap → Prop} {s : Shared} {Q : Value → Shared → Prop} {E : Value → Shared → Prop} (src : PySem.W.KdlSrc X.prog X.w T r d n Pv OK) (hh : X.A.handled = none) (ok : OK s.heap) (hn : n ≤ sizeLine)
    (fin : ∀ (h' : Heap) (tk : Nat) (vs : List Value), (∀ b o, s.heap.get? b = some o → h'.get? b = some o) → vs.length = n → (∀ (j : Nat) v, vs[j]? = some v → Pv j v) →
      wpAny (model X.prog X.w) X.A.in1 (call (.builtin "list.sort") [.ref h'.objs.size]) (fun _ s' => Q (.ref h'.objs.size) s') E { s with heap := h'.push (seqObj "list" vs.toArray 0), toks := tk }) :
    wpAny (model X.prog X.w) X.A (call (.builtin "sorted") [.ref r]) Q E s := by
  apply Calls.call_function_entry PyProof.Rows.kind_sorted PyProof.Rows.plain_sorted PyProof.Rows.entry_sorted (PyProof.Rows.args_sorted1 _)
  unfold Builtin.«sorted»
  apply wpAny_bind
  apply wpAny_pure
  apply wpAny_bind
  apply PySem.W.kdu_collect (A := X.A.in1) src hh ok hn
  intro h' tk acc keeps items
  have len : acc.toList.length = n := by rw [Array.length_toList]; exact items.1
  apply wpAny_bind
  apply wpAny_newList _ (by rw [len]; exact hn)
  apply wpAny_bind
  apply wpAny_holding
  refine wpAny_mono (fin h' tk acc.toList keeps len fun j v e => items.2 j v ?_) (fun _ s' y => wpAny_pure ⟨_, rfl, y⟩) fun _ _ y => y
  rw [← Array.getElem?_toList]
  exact e
/-- sorted(d.keys()): each key d ints in [0, B) -/
def rSortK (d : Nat) (B : Int) : List V → Hp → VK → Prop := fun vs H Q => ∃ (p a : Addr) (kvs : List (List Key × V)), vs = [.ref p] ∧ H p = some (keysO p a) ∧ H a = some (.dT kvs) ∧ kvs.length < 64 ∧
  (∀ e ∈ kvs, ∃ ns : List Int, e.1 = ns.map Sum.inl ∧ ns.length = d ∧ TS.Bd B ns) ∧
  ∀ (l : Addr) (L : List (List Int × Addr)), (L.map fun q => q.1.map Sum.inl).Perm (kvs.map (·.1)) → (∀ q ∈ L, H q.2 = some (.tup (q.1.map V.int))) → L.Pairwise (fun q r => TS.code B q.1 ≤ TS.code B r.1) → H l = none →
    Q (.ref l) (upd H l (.lst (L.map fun q => V.ref q.2)))
theorem kV_ints (ns : List Int) : (ns.map Sum.inl).map kV = ns.map V.int := by
  rw [List.map_map]; rfl
theorem intK_ints (ns : List Int) : (ns.map (Sum.inl : Int → Key)).map intK = ns := by
  rw [List.map_map]
  show ns.map (fun x => x) = ns
  rw [List.map_id']
theorem cr_sortK {d : Nat} {B : Int} (hd : 1 ≤ d) (hc : X.calm = true) : CallR X (.builtin "sorted") (rSortK d B) := by
  intro pins s σ H xs us Q I r h
  obtain ⟨p, a, kvs, rfl, hp, ha, h64, hk, q⟩ := h
  obtain rfl := Vals.ref1 r
  have view : PySem.W.KdlKeysView s.heap p a := (show ObjOk X.prog X.w H s.heap p (keysO p a) from I.hok p _ hp).1
  obtain ⟨z, hs, ks, pr, o, es, ep, ho, hx, hdt, he, _, hn⟩ := dt_of I.hok ha
  have l1 : es.size = ks.length := size_of_entries he
  have l2 : kvs.length = ks.length := Paired.length pr
  have kat : ∀ x ∈ ks, ∃ ns : List Int, x.1 = ns.map Sum.inl ∧ ns.length = d ∧ TS.Bd B ns ∧ H x.2.1 = some (.tup (ns.map V.int)) := fun x hx' => by
    obtain ⟨j, hj⟩ := List.mem_iff_getElem?.mp hx'
    obtain ⟨e0, he0, r1, r2, r3⟩ := DX.pget pr hj
    obtain ⟨ns, e1, e2, e3⟩ := hk e0 (List.mem_of_getElem? he0)
    refine ⟨ns, by rw [← r1, e1], e2, e3, ?_⟩
    rw [r2, e1, kV_ints]
  have keys : ks.map (·.1) = kvs.map (·.1) := by
    have : ∀ {l1 : List (List Key × V)} {l2 : List (List Key × Addr × Value)}, KT H l1 l2 → l2.map (·.1) = l1.map (·.1) := fun r => by
      induction r with
      | nil => rfl
      | cons h t ih => rw [List.map_cons, List.map_cons, ih, h.1]
    exact this pr
  refine sorted_src (KdlSrc.rawKeys (r := p) (d := a) (es := es) (ep := ep)) (I.ok.hd hc) ⟨view, o, ho, hx, hdt⟩ (by rw [sizeLine_eq]; omega) fun h' tk vs hkeep hlv it => ?_
  have ea : vs = ks.map fun x => Value.ref x.2.1 := by
    apply List.ext_getElem?
    intro j
    rw [List.getElem?_map]
    cases hj : vs[j]? with
    | none =>
      have h1 := List.getElem?_eq_none_iff.mp hj
      rw [List.getElem?_eq_none (by omega)]
      rfl
    | some v =>
      obtain ⟨hi, hv⟩ := it j v hj
      have qe := entry_at he j
      rw [Array.getElem?_eq_getElem hi] at qe
      cases hb : ks[j]? with
      | none =>
        rw [hb] at qe
        cases qe
      | some b =>
        rw [hb] at qe
        have e2 : es[j] = entryOfKey (tupleKind (mixKind X.prog X.w)) b := Option.some.inj qe
        rw [hv, e2]
        rfl
  have hal : vs.length = ks.length := by rw [ea, List.length_map]
  have I1 : Inv X pins σ H { s with heap := h', toks := tk } := I.kept hkeep
  have hoL : (h'.push (seqObj "list" vs.toArray 0)).get? h'.objs.size = some (seqObj "list" vs.toArray 0) := Heap.get?_push_size _ rfl
  have I2 : Inv X pins σ H { s with heap := h'.push (seqObj "list" vs.toArray 0), toks := tk } := I1.kept (t' := tk) fun b u e => Heap.get?_push_of_some _ e
  have tin : ∀ x ∈ ks, ∀ ns : List Int, H x.2.1 = some (.tup (ns.map V.int)) → TS.TupInts (h'.push (seqObj "list" vs.toArray 0)) (.ref x.2.1) ns := fun x _ ns e => tupI_raw I2 (SqT.of e)
  refine wpAny_call_entry PyProof.Rows.slot_list_sort ⟨_, hoL, rfl⟩ PyProof.Rows.entry_list_sort
    (TS.sort_tups (s := { s with heap := h'.push (seqObj "list" vs.toArray 0), toks := tk }) (d := d) (B := B) hoL (by rw [hal, ← l2]; exact h64) hd (fun v hv => ?_)
      (fun v => TS.code B (TS.intsOf (h'.push (seqObj "list" vs.toArray 0)) v)) (fun v hv ns t => by rw [t.ints]) fun out g1 g2 => ⟨_, rfl, ?_⟩) (PyProof.Rows.args_list_sort _)
  · rw [ea] at hv
    obtain ⟨x, hx', rfl⟩ := List.mem_map.mp hv
    obtain ⟨ns, e1, e2, e3, e4⟩ := kat x hx'
    exact ⟨ns, tin x hx' ns e4, e2, e3⟩
  · rw [ea] at g1
    obtain ⟨ks', pk, ek⟩ := perm_lift (fun x : List Key × Addr × Value => Value.ref x.2.1) g1 ks rfl
    obtain ⟨e', he'⟩ := PyProof.Rows.sortedHeap_at (vs := vs) (out := out) hoL
    have hin : ∀ x ∈ ks', x ∈ ks := fun x hx' => pk.mem_iff.mp hx'
    have hlen : (((ks'.map fun x => (x.1.map intK, x.2.1)).map fun q : List Int × Addr => V.ref q.2)).length ≤ sizeLine := by
      rw [List.length_map, List.length_map, pk.length_eq, sizeLine_eq]; omega
    have rv : Vals ((ks'.map fun x => (x.1.map intK, x.2.1)).map fun q : List Int × Addr => V.ref q.2) out.toList := by
      rw [← ek, List.map_map]
      exact vals_maps (fun x : List Key × Addr × Value => V.ref x.2.1) (fun x => Value.ref x.2.1) ks' fun _ _ => rfl
    refine ⟨.ref h'.objs.size, upd H h'.objs.size (.lst ((ks'.map fun x => (x.1.map intK, x.2.1)).map fun q : List Int × Addr => V.ref q.2)), I1.laid (t' := tk) (fun b u e => ?_) (Nat.le_refl _)
      (show ObjOk X.prog X.w _ _ _ (.lst _) from ⟨hlen, out.toList, e', rv, by rw [Array.toArray_toList]; exact he'⟩), rfl, q _ _ ?_ ?_ ?_ (I1.hok.fresh (Nat.le_refl _))⟩
    · have hb : b < h'.objs.size := Heap.lt_size e
      rw [PyProof.Rows.sortedHeap_old (Nat.ne_of_lt hb) (by rw [size_push']; exact Nat.lt_succ_of_lt hb)]
      exact Heap.get?_push_of_some _ e
    · rw [← keys, List.map_map]
      have e5 : ks'.map ((fun q : List Int × Addr => q.1.map (Sum.inl : Int → Key)) ∘ fun x => (x.1.map intK, x.2.1)) = ks'.map (·.1) := List.map_congr_left fun x hx' => by
        obtain ⟨ns, e1, _⟩ := kat x (hin x hx')
        show (x.1.map intK).map Sum.inl = x.1
        rw [e1, intK_ints]
      rw [e5]
      exact pk.map (·.1)
    · intro q hq
      obtain ⟨x, hx', rfl⟩ := List.mem_map.mp hq
      obtain ⟨ns, e1, _, _, e4⟩ := kat x (hin x hx')
      show H x.2.1 = some (.tup ((x.1.map intK).map V.int))
      rw [e1, intK_ints]
      exact e4
    · rw [List.pairwise_map]
      rw [← ek, List.pairwise_map] at g2
      refine List.Pairwise.imp_of_mem (fun {x y} hx' hy h => ?_) g2
      obtain ⟨ns, e1, _, _, e4⟩ := kat x (hin x hx')
      obtain ⟨ms, f1, _, _, f4⟩ := kat y (hin y hy)
      have i1 := (tin x (hin x hx') ns e4).ints
      have i2 := (tin y (hin y hy) ms f4).ints
      rw [i1, i2] at h
      show TS.code B (x.1.map intK) ≤ TS.code B (y.1.map intK)
      rw [e1, f1, intK_ints, intK_ints]
      exact h
/-- d.keys(), a dict with int and text keys -/
def rKeysK : V → List V → Hp → VK → Prop := fun x xs H Q => ∃ (a : Addr) (kvs : List (Key × V)), x = .ref a ∧ xs = [] ∧ H a = some (.dK kvs) ∧ ∀ p, H p = none → Q (.ref p) (upd H p (keysO p a))
theorem mt_keysK : MtR X "dict.keys" rKeysK := by
  intro pins s σ H x xs v us Q I rx rxs h
  obtain ⟨a, kvs, rfl, rfl, ha, q⟩ := h
  cases rx
  cases rxs
  obtain ⟨z, lo, vs, rel, dd⟩ := dk_rd I.hok (.inl ha)
  have hf : H s.heap.objs.size = none := I.hok.fresh (Nat.le_refl _)
  exact call_meetsIn PySem.F.slot_dict_keys dd.typeIs PySem.F.entry_dict_keys (PySem.F.args_dict_keys_1 _) (PySem.W.kdl_meets_keys (mixKind X.prog X.w) a lo)
    ⟨⟨vs, dd⟩, .ref s.heap.objs.size, upd H s.heap.objs.size (keysO s.heap.objs.size a), I.laid (t' := s.toks) (fun b u e => Heap.get?_push_of_some _ e) (Nat.le_refl _) (keysO_ok (Heap.get?_push_size _ rfl)), rfl, q _ hf⟩
def rSortKI : List V → Hp → VK → Prop := fun vs H Q => ∃ (p a : Addr) (kvs : List (Key × V)) (ks : List Int), vs = [.ref p] ∧ H p = some (keysO p a) ∧ H a = some (.dK kvs) ∧ kvs.map (·.1) = ks.map Sum.inl ∧ ks.length < 64 ∧
  ∀ (ys : List Int) (l : Addr), ys.Perm ks → ys.Pairwise (· ≤ ·) → H l = none → Q (.ref l) (upd H l (.lst (ys.map V.int)))
theorem cr_sortKI (hcalm : X.calm = true) : CallR X (.builtin "sorted") rSortKI := by
  intro pins s σ H xs us Q I r h
  obtain ⟨p, a, kvs, ks, rfl, hp, hd, hks, h64, q⟩ := h
  obtain rfl := Vals.ref1 r
  have view : PySem.W.KdlKeysView s.heap p a := (show ObjOk X.prog X.w H s.heap p (keysO p a) from I.hok p _ hp).1
  obtain ⟨z, lo, vs, rel, dd⟩ := dk_rd I.hok (.inl hd)
  obtain ⟨ep, hat⟩ := dd.dictAt
  have hkeys : vs.map (·.1) = ks.map Sum.inl := rel.keys.symm.trans hks
  have hl : vs.length = ks.length := by simpa using congrArg List.length hkeys
  refine sorted_src (PySem.W.kdl_keys (knd := mixKind X.prog X.w) (r := p) (d := a) (kvs := vs) (ep := ep)) (I.ok.hd hcalm) ⟨view, hat⟩ (by rw [hl, sizeLine_eq]; omega) fun h' tk us hk lu it => ?_
  have allI : IntsAre us ks := ints_each (by omega) fun j v e => by
    obtain ⟨k, x, e1, e2⟩ := it j v e
    have e3 : (ks.map (Sum.inl : Int → Key))[j]? = some k := by
      rw [← hkeys, List.getElem?_map, e1]
      rfl
    rw [List.getElem?_map] at e3
    obtain ⟨y, hy, rfl⟩ := Option.map_eq_some_iff.mp e3
    obtain ⟨t, ev⟩ := Value.isInt_shape (k := y) (v := v) e2
    exact ⟨y, t, hy, ev⟩
  have I1 : Inv X pins σ H { s with heap := h', toks := tk } := I.kept hk
  have at_ : (h'.push (seqObj "list" us.toArray 0)).get? h'.objs.size = some (seqObj "list" us.toArray 0) := Heap.get?_push_size _ rfl
  refine wpAny_call_entry PyProof.Rows.slot_list_sort ⟨_, at_, rfl⟩ PyProof.Rows.entry_list_sort
    (PyProof.Rows.list_sort_tree (s := { s with heap := h'.push (seqObj "list" us.toArray 0), toks := tk }) at_ allI (by omega) fun out ys g1 g2 g3 => ⟨_, rfl, ?_⟩) (PyProof.Rows.args_list_sort _)
  obtain ⟨e', he'⟩ := PyProof.Rows.sortedHeap_at (vs := us) (out := out) at_
  have small : (ys.map V.int).length ≤ sizeLine := by
    rw [List.length_map, g2.length_eq, sizeLine_eq]
    omega
  refine ⟨.ref h'.objs.size, upd H h'.objs.size (.lst (ys.map V.int)), I1.laid (t' := tk) (fun b u e => ?_) (Nat.le_refl _) ⟨small, out.toList, e', vals_of_ints g1, by rw [Array.toArray_toList]; exact he'⟩, rfl, q ys _ g2 g3 (I1.hok.fresh (Nat.le_refl _))⟩
  have lt : b < h'.objs.size := Heap.lt_size e
  rw [PyProof.Rows.sortedHeap_old (Nat.ne_of_lt lt) (by rw [size_push']; exact Nat.lt_succ_of_lt lt)]
  exact Heap.get?_push_of_some _ e
end
end WL

set_option Elab.async false
set_option linter.all false
set_option maxRecDepth 100000
namespace WL
open PySem PySem.Spec PyProof.Rows L2

structure Bt (mg : Str → Option Value) : Prop where
  len : mg "len" = none
  range : mg "range" = none
  sorted : mg "sorted" = none
  tuple : mg "tuple" = none
  list : mg "list" = none
  abs : mg "abs" = none
  isinstance : mg "isinstance" = none
  zip : mg "zip" = none
  all : mg "all" = none
  min : mg "min" = none
  max : mg "max" = none
  bool : mg "bool" = none
  str : mg "str" = none
  int : mg "int" = none
  set : mg "set" = none
  reversed : mg "reversed" = none
  enumerate : mg "enumerate" = none
structure Df (K : PySem.W.Frag) (mg : Str → Option Value) (x : Str) (st : Stmt) (f : Addr) (fd : FuncData) (ps : List Str) : Prop where
  F : Fun K x x st f fd
  g : mg x = some (.ref f)
  b : Binds K fd ps []

/-! ### heaps -/
theorem same_upd {H : Hp} {p : Addr} {o : HO} (h : H p = none) : Same H (upd H p o) := fun b x e => by
  rw [upd_ne (ne_of_none e h)]
  exact e
theorem sameT {K : PySem.W.Frag} {H H' : Hp} {a : Addr} {xs : List V} (e : Same H H') (h : SqT K H a xs) : SqT K H' a xs := by
  rcases h with (h | ⟨o, h⟩) | h
  · exact .inl (.inl (e _ _ h))
  · exact .inl (.inr ⟨o, e _ _ h⟩)
  · exact .inr h
/-- the tuples are kept -/
def Tk (H H' : Hp) : Prop := ∀ b xs, H b = some (.tup xs) → H' b = some (.tup xs)
theorem Tk.refl (H : Hp) : Tk H H := fun _ _ h => h
theorem Tk.trans {H H1 H2 : Hp} (a : Tk H H1) (b : Tk H1 H2) : Tk H H2 := fun c o h => b c o (a c o h)
theorem Tk.of {H H' : Hp} (s : Same H H') : Tk H H' := fun b xs h => s b _ h
theorem Tk.upd {H : Hp} {p : Addr} {o u : HO} (h : H p = some u) (nt : ∀ xs, u ≠ .tup xs) : Tk H (upd H p o) := fun b xs e => by
  rw [upd_ne]
  · exact e
  · intro z
    subst z
    rw [h] at e
    exact nt xs (Option.some.inj e)
/-- all but a and d.1 are as they were -/
def Kp (a : Addr) (d : Addr × Addr) (H H' : Hp) : Prop := ∀ b o, b ≠ a → b ≠ d.1 → H b = some o → H' b = some o
theorem Kp.refl (a : Addr) (d : Addr × Addr) (H : Hp) : Kp a d H H := fun _ _ _ _ h => h
theorem Kp.trans {a : Addr} {d : Addr × Addr} {H H1 H2 : Hp} (x : Kp a d H H1) (y : Kp a d H1 H2) : Kp a d H H2 := fun b o h1 h2 h => y b o h1 h2 (x b o h1 h2 h)
theorem Kp.of {a : Addr} {d : Addr × Addr} {H H' : Hp} (s : Same H H') : Kp a d H H' := fun b o _ _ h => s b o h

/-! ### the last that is let by -/
def pick {α : Type} (p : α → Bool) (rs : List α) : Option α := rs.reverse.find? p
theorem pick_nil {α : Type} (p : α → Bool) : pick p [] = none := rfl
theorem pick_snoc {α : Type} (p : α → Bool) (rs : List α) (x : α) : pick p (rs ++ [x]) = if p x then some x else pick p rs := by
  unfold pick
  rw [List.reverse_append]
  show List.find? p (x :: rs.reverse) = _
  rw [List.find?_cons]
  cases p x <;> rfl
theorem pick_take {α : Type} (p : α → Bool) {rs : List α} {i : Nat} {x : α} (h : rs[i]? = some x) : pick p (rs.take (i + 1)) = if p x then some x else pick p (rs.take i) := by
  rw [List.take_add_one, h]
  exact pick_snoc p _ x
theorem pick_mem {α : Type} {p : α → Bool} {rs : List α} {x : α} (h : pick p rs = some x) : x ∈ rs ∧ p x = true :=
  ⟨List.mem_reverse.mp (List.mem_of_find?_eq_some h), List.find?_some h⟩
theorem find_congr {α : Type} {p q : α → Bool} : ∀ {rs : List α}, (∀ x ∈ rs, p x = q x) → rs.find? p = rs.find? q
  | [], _ => rfl
  | y :: l, h => by
    rw [List.find?_cons, List.find?_cons, h y List.mem_cons_self, find_congr fun x hx => h x (List.mem_cons_of_mem _ hx)]
theorem pick_congr {α : Type} {p q : α → Bool} {rs : List α} (h : ∀ x ∈ rs, p x = q x) : pick p rs = pick q rs :=
  find_congr fun x hx => h x (List.mem_reverse.mp hx)

/-! ### data -/
theorem dp_ints {K : PySem.W.Frag} {H : Hp} : ∀ ns : List Int, DpAll K H (ns.map V.int) (ns.map PyData.int)
  | [] => .nil
  | n :: r => .cons (.int n) (dp_ints r)
theorem depth_ints : ∀ ns : List Int, PyData.depthAll (ns.map PyData.int) = 0
  | [] => rfl
  | n :: r => by
    show max (PyData.depth (PyData.int n)) (PyData.depthAll (r.map PyData.int)) = 0
    rw [depth_ints r]
    rfl
theorem lay_ints : ∀ ns : List Int, PyData.canLayAll0 (ns.map PyData.int) = true
  | [] => rfl
  | n :: r => by
    show (PyData.canLay0 (PyData.int n) && PyData.canLayAll0 (r.map PyData.int)) = true
    rw [lay_ints r]
    rfl
theorem shaped_ints (ns : List Int) : SeqAt.shaped (.tuple (ns.map PyData.int)) = true := by
  unfold SeqAt.shaped
  show (PyData.canLayAll0 (ns.map PyData.int) && decide (PyData.depthAll (ns.map PyData.int) + 1 ≤ 64)) = true
  rw [lay_ints, depth_ints]
  rfl
theorem shaped_intsL (ns : List Int) : SeqAt.shaped (.list (ns.map PyData.int)) = true := by
  unfold SeqAt.shaped
  show (PyData.canLayAll0 (ns.map PyData.int) && decide (PyData.depthAll (ns.map PyData.int) + 1 ≤ 64)) = true
  rw [lay_ints, depth_ints]
  rfl
theorem eqvAll_ints : ∀ ns ms : List Int, PyData.eqvAll (ns.map PyData.int) (ms.map PyData.int) = decide (ns = ms)
  | [], [] => rfl
  | [], _ :: _ => rfl
  | _ :: _, [] => rfl
  | n :: r, m :: t => by
    show (PyData.eqv (PyData.int n) (PyData.int m) && PyData.eqvAll (r.map PyData.int) (t.map PyData.int)) = _
    rw [eqvAll_ints r t]
    show ((n == m) && decide (r = t)) = decide (n :: r = m :: t)
    by_cases h : n = m
    · subst h
      by_cases h2 : r = t
      · subst h2; simp
      · simp [h2]
    · simp [h]
/-- an item of a list that is not empty -/
theorem atI_some {α : Type} {xs : List α} {i : Int} (h0 : 0 ≤ i) (h1 : i < xs.length) : ∃ v, atI xs i = some v ∧ v ∈ xs := by
  obtain ⟨j, rfl⟩ := Int.eq_ofNat_of_zero_le h0
  have hj : j < xs.length := by omega
  exact ⟨xs[j], atI_nat (List.getElem?_eq_getElem hj), List.getElem_mem hj⟩
theorem emod_lt {r m : Int} (h : 0 < m) : 0 ≤ r % m ∧ r % m < m := ⟨Int.emod_nonneg r (by omega), Int.emod_lt_of_pos r h⟩
theorem size_lt {n : Nat} (h : n ≤ 1000000) : n < sizeLine := Nat.lt_of_le_of_lt h (by decide)
theorem size_le {n : Nat} (h : n ≤ 1000000) : n ≤ sizeLine := Nat.le_of_lt (size_lt h)
theorem itePos {c A B : Prop} [Decidable c] (hc : c) (h : A) : if decide c = true then A else B := by
  rw [decide_eq_true hc]
  exact iteT h
theorem iteNeg {c A B : Prop} [Decidable c] (hc : ¬ c) (h : B) : if decide c = true then A else B := by
  rw [decide_eq_false hc]
  exact iteF h
theorem iteNT {c A B : Prop} [Decidable c] (hc : ¬ c) (h : A) : if (!decide c) = true then A else B := by
  rw [decide_eq_false hc]
  exact iteT h
theorem len1 {ns : List Int} (h : ns.length = 1) : ∃ k, ns = [k] := by
  match ns, h with
  | [k], _ => exact ⟨k, rfl⟩
theorem len2 {ns : List Int} (h : ns.length = 2) : ∃ k r, ns = [k, r] := by
  match ns, h with
  | [k, r], _ => exact ⟨k, r, rfl⟩

/-! ### rows: some ints, a day, the rest -/
structure Row where
  a : Addr
  ns : List Int
  s : Int
  l : List V
def Rw (n : Nat) (H : Hp) (q : Row) : Prop := q.ns.length = n ∧ H q.a = some (.tup (q.ns.map V.int ++ .int q.s :: q.l))
def hit (bs : List Int) (t : Int) (q : Row) : Bool := decide (q.ns = bs) && decide (q.s ≤ t)
def optV : Option Row → V
  | none => .non
  | some q => .ref q.a
def Rows (K : PySem.W.Frag) (n : Nat) (H : Hp) (r : Addr) (rs : List Row) : Prop := H r = some (.tup (rs.map fun q => V.ref q.a)) ∧ ∀ q ∈ rs, Rw n H q
theorem Rows.same {K : PySem.W.Frag} {n : Nat} {H H' : Hp} {r : Addr} {rs : List Row} (s : Same H H') (h : Rows K n H r rs) : Rows K n H' r rs := ⟨s _ _ h.1, fun q hq => ⟨(h.2 q hq).1, s _ _ (h.2 q hq).2⟩⟩
theorem Rows.tk {K : PySem.W.Frag} {n : Nat} {H H' : Hp} {r : Addr} {rs : List Row} (s : Tk H H') (h : Rows K n H r rs) : Rows K n H' r rs := ⟨s _ _ h.1, fun q hq => ⟨(h.2 q hq).1, s _ _ (h.2 q hq).2⟩⟩
/-- lands as they are read: the land at i, its part p -/
def Part (H : Hp) (a : Addr) (i p : Nat) (v : V) : Prop := ∃ (ls parts : List V) (l : Addr), H a = some (.tup ls) ∧ ls[i]? = some (.ref l) ∧ H l = some (.tup parts) ∧ parts[p]? = some v
theorem Part.tk {H H' : Hp} {a : Addr} {i p : Nat} {v : V} (s : Tk H H') (h : Part H a i p v) : Part H' a i p v := let ⟨ls, ps, l, h1, h2, h3, h4⟩ := h; ⟨ls, ps, l, s _ _ h1, h2, s _ _ h3, h4⟩
theorem cut_to {as : List V} {b : V} {l : List V} : cutV (as ++ b :: l) none (some (as.length : Int)) = as := by
  unfold cutV
  rw [HT.sIx_none, show HT.sIx (as ++ b :: l).length (as ++ b :: l).length (some (as.length : Int)) = min as.length (as ++ b :: l).length from HT.sIx_nat _ _ _]
  rw [show min as.length (as ++ b :: l).length = as.length by rw [List.length_append]; omega]
  simp
theorem notwhole {as : List V} {b : V} {l : List V} : ¬ (HT.sIx (as ++ b :: l).length 0 none = 0 ∧ HT.sIx (as ++ b :: l).length (as ++ b :: l).length (some (as.length : Int)) = (as ++ b :: l).length) := fun h => by
  have h2 := h.2
  rw [show HT.sIx (as ++ b :: l).length (as ++ b :: l).length (some (as.length : Int)) = min as.length (as ++ b :: l).length from HT.sIx_nat _ _ _, List.length_append, List.length_cons] at h2
  omega
theorem mul_bd {x y a b : Int} (h0 : 0 ≤ x) (h1 : x ≤ a) (h2 : 0 ≤ y) (h3 : y ≤ b) : 0 ≤ x * y ∧ x * y ≤ a * b :=
  ⟨Int.mul_nonneg h0 h2, Int.mul_le_mul h1 h3 h2 (by omega)⟩

/-! ### the deck -/
abbrev MM : Int := 2147483629
def primes : List Int := [48271, 69621, 16807, 39373, 30323, 51749, 44417, 27449, 63073, 55001, 33791, 40009]
theorem prime_at {i : Int} (h0 : 0 ≤ i) (h1 : i < 12) : ∃ x, atI (primes.map V.int) i = some (.int x) ∧ 0 ≤ x ∧ x ≤ 70000 := by
  obtain ⟨v, hv, hm⟩ := atI_some (xs := primes.map V.int) h0 h1
  obtain ⟨x, hx, rfl⟩ := List.mem_map.mp hm
  have : ∀ x ∈ primes, 0 ≤ x ∧ x ≤ 70000 := by decide
  exact ⟨x, hv, this x hx⟩
def Dk (H : Hp) (a : Addr) (d : Addr × Addr) (N : Nat) : Prop := ∃ (ds cs : List Int) (n : Nat), H a = some (.lst [.ref d.1, .ref d.2, .int n]) ∧ H d.1 = some (.lst (ds.map V.int)) ∧ H d.2 = some (.lst (cs.map V.int)) ∧
  a ≠ d.1 ∧ d.2 ≠ a ∧ d.2 ≠ d.1 ∧ n ≤ N ∧ (∀ x ∈ ds, 0 ≤ x ∧ x < MM) ∧ (∀ x ∈ cs, 0 ≤ x ∧ x < MM) ∧ 0 < cs.length ∧ cs.length ≤ 64
section
variable {H H' : Hp} {a p : Addr} {d : Addr × Addr} {N M : Nat} {o u : HO}
theorem Dk.mono (h : Dk H a d N) (l : N ≤ M) : Dk H a d M := by
  obtain ⟨ds, cs, n, h1, h2, h3, h4, h5, h6, h7, h8⟩ := h
  exact ⟨ds, cs, n, h1, h2, h3, h4, h5, h6, by omega, h8⟩
theorem Dk.same (h : Dk H a d N) (s : Same H H') : Dk H' a d N := by
  obtain ⟨ds, cs, n, h1, h2, h3, h4⟩ := h
  exact ⟨ds, cs, n, s _ _ h1, s _ _ h2, s _ _ h3, h4⟩
/-- something else is written -/
theorem Dk.updL (h : Dk H a d N) (n1 : p ≠ a) (n2 : p ≠ d.1) (n3 : p ≠ d.2) : Dk (upd H p o) a d N := by
  obtain ⟨ds, cs, n, h1, h2, h3, h4⟩ := h
  exact ⟨ds, cs, n, by rw [upd_ne n1.symm]; exact h1, by rw [upd_ne n2.symm]; exact h2, by rw [upd_ne n3.symm]; exact h3, h4⟩
theorem Dk.ne (h : Dk H a d N) (hp : H p = some u) (nl : ∀ xs, u ≠ .lst xs) : p ≠ a ∧ p ≠ d.1 ∧ p ≠ d.2 := by
  obtain ⟨ds, cs, n, h1, h2, h3, h4⟩ := h
  refine ⟨fun z => ?_, fun z => ?_, fun z => ?_⟩
  · subst z; rw [h1] at hp; exact nl _ (Option.some.inj hp).symm
  · subst z; rw [h2] at hp; exact nl _ (Option.some.inj hp).symm
  · subst z; rw [h3] at hp; exact nl _ (Option.some.inj hp).symm
theorem Dk.nn (h : Dk H a d N) (hp : H p = none) : p ≠ a ∧ p ≠ d.1 ∧ p ≠ d.2 := by
  obtain ⟨ds, cs, n, h1, h2, h3, h4⟩ := h
  exact ⟨(ne_of_none h1 hp).symm, (ne_of_none h2 hp).symm, (ne_of_none h3 hp).symm⟩
theorem Dk.upd (h : Dk H a d N) (hp : H p = some u) (nl : ∀ xs, u ≠ .lst xs) : Dk (upd H p o) a d N :=
  let ⟨n1, n2, n3⟩ := h.ne hp nl
  h.updL n1 n2 n3
theorem Dk.tk (h : Dk H a d N) (k : Kp a d H H') : Tk H H' := fun b xs e =>
  let ⟨n1, n2, _⟩ := h.ne e (fun ys z => nomatch z)
  k b _ n1 n2 e
end
end WL

set_option Elab.async false
set_option linter.all false
set_option maxRecDepth 100000
namespace WL
open PySem PySem.Spec PyProof.Rows L2

theorem valV_in : ∀ {kvs : List (List Key × V)} {k : List Key}, k ∈ kvs.map (·.1) → ∃ v, valV kvs k = some v ∧ (k, v) ∈ kvs
  | [], k, h => by simp at h
  | p :: r, k, h => by
    by_cases e : p.1 = k
    · exact ⟨p.2, valV_pos e, by rw [← e]; exact List.mem_cons_self⟩
    · have h' : k ∈ r.map (·.1) := by
        rw [List.map_cons] at h
        rcases List.mem_cons.mp h with z | z
        · exact absurd z.symm e
        · exact z
      obtain ⟨v, h1, h2⟩ := valV_in h'
      exact ⟨v, by rw [valV_neg e]; exact h1, List.mem_cons_of_mem _ h2⟩
theorem putK_mem {kvs : List (List Key × V)} {k : List Key} {v : V} {p : List Key × V} (h : p ∈ putK kvs k v) : p ∈ kvs ∨ p = (k, v) := by
  unfold putK at h
  split at h
  · obtain ⟨q, hq, e⟩ := List.mem_map.mp h
    by_cases c : q.1 = k
    · rw [if_pos c] at e
      exact .inr (by rw [← e, c])
    · rw [if_neg c] at e
      exact .inl (by rw [← e]; exact hq)
  · rcases List.mem_append.mp h with z | z
    · exact .inl z
    · exact .inr (List.mem_singleton.mp z)
theorem putK_len {kvs : List (List Key × V)} {k : List Key} {v : V} : (putK kvs k v).length ≤ kvs.length + 1 := by
  unfold putK
  split
  · rw [List.length_map]; omega
  · rw [List.length_append]; exact Nat.le_refl _

/-- what comes behind the key in a row -/
def tlOne (_ : Hp) (v : V) : List V := [v]
def tlTup (H : Hp) (v : V) : List V := match v with
  | .ref e => match H e with
    | some (.tup ys) => ys
    | _ => []
  | _ => []
/-- a row made of an entry of the dict -/
structure DRow where
  a : Addr
  ns : List Int
  v : V
/-- tuple([key + .. for key in sorted(kept.keys())]) -/
theorem rows_of_dict {K : PySem.W.Frag} {σ : L2.St} {H : Hp} {Q : VK} {te : TE} {ks i d : Nat} {B : Int} {k : Addr} {kvs : List (List Key × V)} (tl : V → List V)
    (hk : H k = some (.dT kvs)) (h64 : kvs.length < 64) (hB : ∀ e ∈ kvs, ∃ ns : List Int, e.1 = ns.map Sum.inl ∧ ns.length = d ∧ TS.Bd B ns)
    (h0 : σ[ks]? = some (some (.ref k))) (hw : ∀ x, wipe ((wipe σ [i]).set i (some x)) [i] = wipe σ [i])
    (hstep : ∀ (ns : List Int) (b : Addr) (v : V) (H3 : Hp) (Qe : VK), Same H H3 → H3 b = some (.tup (ns.map V.int)) → ns.length = d → valV kvs (ns.map Sum.inl) = some v → (ns.map Sum.inl, v) ∈ kvs →
      (∀ p H4, Same H3 H4 → H4 p = some (.tup (ns.map V.int ++ tl v)) → Qe (.ref p) H4) → te ((wipe σ [i]).set i (some (.ref b))) H3 Qe)
    (q : ∀ (t : Addr) (R : List DRow) (H' : Hp), Same H H' → H' t = some (.tup (R.map fun q => V.ref q.a)) → R.length = kvs.length → (∀ q ∈ R, H' q.a = some (.tup (q.ns.map V.int ++ tl q.v)) ∧ q.ns.length = d ∧ (q.ns.map Sum.inl, q.v) ∈ kvs) →
      R.Pairwise (fun q r => TS.code B q.ns ≤ TS.code B r.ns) → H t = none → Q (.ref t) H') :
    tCB (fun xs H Q => ∃ p ys, xs = [V.ref p] ∧ ((SqL K H p ys ∧ ∀ l, H l = none → Q (.ref l) (upd H l (.tup ys))) ∨ (SqT K H p ys ∧ Q (.ref p) H)))
      (tCons (tLc (iList K (tCB (rSortK d B) (tCons (tBM0 K "dict" rKeysT (tVar ks)) tNil))) (gName i) tYes te [i]) tNil) σ H Q := by
  refine ⟨_, h0, .inr (.inr (.inl ⟨rfl, .inr ⟨kvs, hk⟩⟩)), k, kvs, rfl, rfl, hk, fun p np => ?_⟩
  have s1 : Same H (upd H p (keysO p k)) := same_upd np
  refine ⟨p, k, kvs, rfl, upd_same, s1 _ _ hk, h64, hB, fun l L perm hL pw nl => ?_⟩
  have s2 := s1.trans (same_upd (o := .lst (L.map fun q => V.ref q.2)) nl)
  refine ⟨l, rfl, ⟨_, SqL.of upd_same⟩, fun D nD => lc_list (K := K) (xs := L.map fun q => V.ref q.2)
    (fun j H3 => ∃ R : List DRow, R.length = j ∧ H3 D = some (.lst (R.map fun q => V.ref q.a)) ∧ Same (upd (upd H p (keysO p k)) l (.lst (L.map fun q => V.ref q.2))) H3 ∧
      (∀ q ∈ R, H3 q.a = some (.tup (q.ns.map V.int ++ tl q.v)) ∧ q.ns.length = d ∧ (q.ns.map Sum.inl, q.v) ∈ kvs) ∧ R.map (fun q => q.ns) = (L.take j).map (·.1))
    ⟨[], rfl, upd_same, same_upd nD, (fun q hq => absurd hq List.not_mem_nil), rfl⟩ (fun j H3 _ hP => ?_) (fun j x H3 hx hP => ?_) (fun H3 hP => ?_)⟩
  · obtain ⟨R, _, _, sm, _⟩ := hP
    exact SqL.of (sm _ _ upd_same)
  · obtain ⟨R, lR, hD, sm, hR, eR⟩ := hP
    rw [List.getElem?_map] at hx
    obtain ⟨⟨ns, b⟩, hz, rfl⟩ := Option.map_eq_some_iff.mp hx
    have zm := List.mem_of_getElem? hz
    have hb := hL _ zm
    have hb3 : H3 b = some (.tup (ns.map V.int)) := sm _ _ (by
      rw [upd_ne (ne_of_none hb nl)]
      exact hb)
    have hkm : (ns.map Sum.inl : List Key) ∈ kvs.map (·.1) := perm.mem_iff.mp (List.mem_map.mpr ⟨(ns, b), zm, rfl⟩)
    obtain ⟨v, hv, vm⟩ := valV_in hkm
    have hlen : ns.length = d := by
      obtain ⟨ns', e1, e2, _⟩ := hB _ vm
      have e3 : ns.map (Sum.inl : Int → Key) = ns'.map Sum.inl := e1
      have e4 := congrArg List.length e3
      rw [List.length_map, List.length_map] at e4
      omega
    have jl : j < L.length := (List.getElem?_eq_some_iff.mp hz).1
    have l64 : L.length < 64 := by
      have := perm.length_eq
      rw [List.length_map, List.length_map] at this
      omega
    refine ⟨hw _, ?_⟩
    simp only [tYes, if_true]
    refine hstep ns b v H3 _ (s2.trans sm) hb3 hlen hv vm fun p' H4 sm4 hp' => ⟨R.map fun q => V.ref q.a, sm4 _ _ hD, size_lt (by rw [List.length_map]; omega), R ++ [⟨p', ns, v⟩], ?_, ?_, ?_, ?_, ?_⟩
    · rw [List.length_append, lR]; rfl
    · rw [upd_same, List.map_append]; rfl
    · intro c o hc
      rw [upd_ne (ne_of_none hc nD)]
      exact sm4 _ _ (sm _ _ hc)
    · intro r hr
      have nD' : ∀ (c : Addr) (ys : List V), H4 c = some (.tup ys) → c ≠ D := fun c ys hc z => by
        subst z
        rw [sm4 _ _ hD] at hc
        cases hc
      rcases List.mem_append.mp hr with h | h
      · obtain ⟨h1, h2⟩ := hR r h
        have h3 := sm4 _ _ h1
        exact ⟨by rw [upd_ne (nD' _ _ h3)]; exact h3, h2⟩
      · rw [List.mem_singleton.mp h]
        exact ⟨by rw [upd_ne (nD' _ _ hp')]; exact hp', hlen, vm⟩
    · rw [List.map_append, eR, List.take_add_one, hz, List.map_append]
      rfl
  · obtain ⟨R, lR, hD, sm, hR, eR⟩ := hP
    rw [List.length_map] at lR
    rw [List.length_map, List.take_length] at eR
    have eL : L.length = kvs.length := by
      have := perm.length_eq
      rw [List.length_map, List.length_map] at this
      exact this
    refine ⟨D, _, rfl, .inl ⟨SqL.of hD, fun t nt => q t R _ (s2.trans (sm.trans (same_upd nt))) upd_same (by omega) (fun r hr => ?_) ?_ ((s2.trans sm).free nt)⟩⟩
    · obtain ⟨h1, h2⟩ := hR r hr
      exact ⟨by rw [upd_ne (ne_of_none h1 nt)]; exact h1, h2⟩
    · have e : R.Pairwise (fun q r => TS.code B q.ns ≤ TS.code B r.ns) ↔ (R.map fun q => q.ns).Pairwise (fun n m => TS.code B n ≤ TS.code B m) := by rw [List.pairwise_map]
      rw [e, eR, List.pairwise_map]
      exact pw

/-- a comprehension over zip(t, u), t and u tuples of one length -/
theorem lc_zipT {K : PySem.W.Frag} {a b : Addr} {xs ys : List V} {g : TG} {tt : TT} {te : TE} {vs : List Nat} {σ : L2.St} {H1 : Hp} {D : Addr} {Qd : Hp → Prop} (hl : xs.length = ys.length) (Pv : Nat → Hp → Prop) (h0 : Pv 0 (upd H1 D (.lst []))) (hq : ∀ i H, Pv i H → SqT K H a xs ∧ SqT K H b ys)
    (hs : ∀ (i : Nat) (x y : V) (T : Addr) (H : Hp), xs[i]? = some x → ys[i]? = some y → Pv i H → H T = none → g (.ref T) (wipe σ vs) (upd H T (.tup [x, y])) fun σ2 H2 => wipe σ2 vs = wipe σ vs ∧ tt σ2 H2 fun b H3 =>
      if b = true then te σ2 H3 fun y H4 => ∃ acc, H4 D = some (.lst acc) ∧ acc.length < sizeLine ∧ Pv (i + 1) (upd H4 D (.lst (acc ++ [y]))) else Pv (i + 1) H3) (hd : ∀ H, Pv xs.length H → Qd H) :
    ∃ W : Nat → Nat → Hp → Prop, (∃ m, W 0 m (upd H1 D (.lst []))) ∧ ∀ i m H, W i m H →
      ((RZ.ItzT K a b).stop i H ∧ Qd H) ∨ ((RZ.ItzT K a b).go i H ∧ ∃ Nx : Hp → Prop, (∀ H', Nx H' → ∃ m', m' < m ∧ W (i + 1) m' H') ∧ ∀ x H', (RZ.ItzT K a b).yld i H x H' → g x (wipe σ vs) H' fun σ2 H2 => wipe σ2 vs = wipe σ vs ∧ tt σ2 H2 fun b H3 =>
        if b = true then te σ2 H3 fun y H4 => ∃ acc, H4 D = some (.lst acc) ∧ acc.length < sizeLine ∧ Nx (upd H4 D (.lst (acc ++ [y]))) else Nx H3) := by
  refine ⟨fun i m H => m = xs.length - i ∧ i ≤ xs.length ∧ Pv i H, ⟨xs.length, by simp, Nat.zero_le _, h0⟩, ?_⟩
  rintro i m H ⟨rfl, hi, p⟩
  obtain ⟨qx, qy⟩ := hq i H p
  by_cases hlt : i < xs.length
  · have hx : xs[i]? = some xs[i] := List.getElem?_eq_getElem hlt
    have hlt2 : i < ys.length := by omega
    have hy : ys[i]? = some ys[i] := List.getElem?_eq_getElem hlt2
    refine .inr ⟨⟨xs, ys, _, _, qx, qy, hx, hy⟩, Pv (i + 1), fun H' p' => ⟨xs.length - (i + 1), by omega, rfl, hlt, p'⟩, fun v H' y => ?_⟩
    obtain ⟨T, x', y', rfl, hT, rfl, f1, f2⟩ := y
    exact hs i x' y' T H (f1 xs qx) (f2 ys qy) p hT
  · have e : i = xs.length := by omega
    subst e
    exact .inl ⟨⟨xs, ys, qx, qy, Or.inl (Nat.le_refl _)⟩, hd H p⟩

/-! ### data -/
def flat : V → Bool
  | .non => true
  | .bl _ => true
  | .int _ => true
  | .str _ => true
  | _ => false
/-- two like data, at most n tuples deep -/
def Alike : Nat → Hp → V → V → Prop
  | 0, _, v, w => flat v = true ∧ v = w
  | n + 1, H, v, w => (flat v = true ∧ v = w) ∨ ∃ a b xs ys, v = .ref a ∧ w = .ref b ∧ H a = some (.tup xs) ∧ H b = some (.tup ys) ∧ xs.length = ys.length ∧ xs.length ≤ 1000 ∧ ∀ (i : Nat) x y, xs[i]? = some x → ys[i]? = some y → Alike n H x y
theorem Alike.tk {H H' : Hp} (t : Tk H H') : ∀ {n : Nat} {v w : V}, Alike n H v w → Alike n H' v w
  | 0, _, _, h => h
  | n + 1, _, _, .inl h => .inl h
  | n + 1, _, _, .inr ⟨a, b, xs, ys, h1, h2, h3, h4, h5, h7, h6⟩ => .inr ⟨a, b, xs, ys, h1, h2, t _ _ h3, t _ _ h4, h5, h7, fun i x y e1 e2 => (h6 i x y e1 e2).tk t⟩
theorem Alike.mono {H : Hp} : ∀ {n : Nat} {v w : V}, Alike n H v w → Alike (n + 1) H v w
  | 0, _, _, h => .inl h
  | n + 1, _, _, .inl h => .inl h
  | n + 1, _, _, .inr ⟨a, b, xs, ys, h1, h2, h3, h4, h5, h7, h6⟩ => .inr ⟨a, b, xs, ys, h1, h2, h3, h4, h5, h7, fun i x y e1 e2 => (h6 i x y e1 e2).mono⟩
theorem Alike.le {H : Hp} {n m : Nat} {v w : V} (h : Alike n H v w) (l : n ≤ m) : Alike m H v w := by
  induction l with
  | refl => exact h
  | step _ ih => exact ih.mono
/-- data, at most n tuples deep -/
def Da (n : Nat) (H : Hp) (v : V) : Prop := Alike n H v v
theorem Da.flat {n : Nat} {H : Hp} {v : V} (h : flat v = true) : Da n H v := by
  cases n with
  | zero => exact ⟨h, rfl⟩
  | succ n => exact .inl ⟨h, rfl⟩
theorem Da.tup {n : Nat} {H : Hp} {a : Addr} {xs : List V} (h : H a = some (.tup xs)) (hl : xs.length ≤ 1000) (hx : ∀ x ∈ xs, Da n H x) : Da (n + 1) H (.ref a) :=
  .inr ⟨a, a, xs, xs, rfl, rfl, h, h, rfl, hl, fun i x y e1 e2 => by
    rw [e1] at e2
    cases e2
    exact hx x (List.mem_of_getElem? e1)⟩
end WL

set_option Elab.async false
set_option linter.all false
set_option maxRecDepth 100000
namespace WL
open PySem PySem.Spec PyProof.Rows L2
/-! ### rows out of entries -/
def toRow (tl : V → List V) (q : DRow) : Row := ⟨q.a, q.ns.dropLast, q.ns.getLastD 0, tl q.v⟩
theorem rows_mk {K : PySem.W.Frag} {d : Nat} {H : Hp} {t : Addr} {R : List DRow} {tl : V → List V} (ht : H t = some (.tup (R.map fun q => V.ref q.a))) (hR : ∀ q ∈ R, H q.a = some (.tup (q.ns.map V.int ++ tl q.v)) ∧ q.ns.length = d + 1) : Rows K d H t (R.map (toRow tl)) := by
  refine ⟨?_, fun q hq => ?_⟩
  · rw [List.map_map]
    exact ht
  · obtain ⟨r, hr, rfl⟩ := List.mem_map.mp hq
    obtain ⟨h1, h2⟩ := hR r hr
    refine ⟨by show r.ns.dropLast.length = d; rw [List.length_dropLast]; omega, ?_⟩
    show H r.a = some (.tup (r.ns.dropLast.map V.int ++ .int (r.ns.getLastD 0) :: tl r.v))
    have e : r.ns = r.ns.dropLast ++ [r.ns.getLastD 0] := by
      cases e : r.ns with
      | nil => rw [e] at h2; simp at h2
      | cons x y =>
        rw [List.getLastD_cons, List.getLastD_eq_getLast?]
        have := List.dropLast_concat_getLast (l := x :: y) (List.cons_ne_nil x y)
        rw [← this]
        simp [List.getLast_cons, List.getLast?_eq_getLast]
        cases y with
        | nil => simp
        | cons z w => simp [List.getLast?_eq_getLast]
    rw [h1]
    conv => lhs; rw [e]
    rw [List.map_append, List.append_assoc]
    rfl
/-- rows that are good: n ints ahead, a day, c things behind, each data of depth m -/
def GoodRows (K : PySem.W.Frag) (n m c : Nat) (H : Hp) (t : Addr) (rs : List Row) : Prop := Rows K n H t rs ∧ rs.length ≤ 60 ∧ ∀ q ∈ rs, 0 ≤ q.s ∧ q.s ≤ 1000000000 ∧ q.l.length = c ∧ ∀ x ∈ q.l, Da m H x
theorem GoodRows.tk {K : PySem.W.Frag} {n m c : Nat} {H H' : Hp} {t : Addr} {rs : List Row} (s : Tk H H') (h : GoodRows K n m c H t rs) : GoodRows K n m c H' t rs := ⟨h.1.tk s, h.2.1, fun q hq => let ⟨a, b, c, d⟩ := h.2.2 q hq; ⟨a, b, c, fun x hx => (d x hx).tk s⟩⟩
theorem tkT {K : PySem.W.Frag} {H H' : Hp} {a : Addr} {xs : List V} (t : Tk H H') (h : H a = some (.tup xs)) : SqT K H' a xs := SqT.of (t _ _ h)
/-- an entry of a dict of rows -/
def Ent (d m c : Nat) (tl : Hp → V → List V) (H : Hp) (e : List Key × V) : Prop := ∃ ns : List Int, e.1 = ns.map Sum.inl ∧ ns.length = d ∧ TS.Bd 2000000000 ns ∧ ns.getLastD 0 ≤ 1000000000 ∧ (tl H e.2).length = c ∧ ∀ x ∈ tl H e.2, Da m H x
theorem last_nn {ns : List Int} (h : TS.Bd 2000000000 ns) : 0 ≤ ns.getLastD 0 := by
  cases e : ns with
  | nil => exact Int.le_refl _
  | cons x y =>
    rw [List.getLastD_cons, List.getLastD_eq_getLast?]
    cases e2 : y.getLast? with
    | none => exact (h x (by rw [e]; exact List.mem_cons_self)).1
    | some z => exact (h z (by rw [e]; exact List.mem_cons_of_mem _ (List.mem_of_getLast? e2))).1
theorem good_mk {K : PySem.W.Frag} {d m c : Nat} {H H' : Hp} {t : Addr} {R : List DRow} {kvs : List (List Key × V)} {tl : Hp → V → List V} (tk : Tk H H') (hE : ∀ e ∈ kvs, Ent (d + 1) m c tl H e) (h64 : kvs.length ≤ 60) (ht : H' t = some (.tup (R.map fun q => V.ref q.a))) (lR : R.length = kvs.length)
    (hR : ∀ q ∈ R, H' q.a = some (.tup (q.ns.map V.int ++ tl H q.v)) ∧ q.ns.length = d + 1 ∧ (q.ns.map Sum.inl, q.v) ∈ kvs) : GoodRows K d m c H' t (R.map (toRow (tl H))) := by
  refine ⟨rows_mk ht fun q hq => ⟨(hR q hq).1, (hR q hq).2.1⟩, by rw [List.length_map]; omega, fun q hq => ?_⟩
  obtain ⟨r, hr, rfl⟩ := List.mem_map.mp hq
  obtain ⟨ns, e1, e2, e3, e4, e5, e6⟩ := hE _ (hR r hr).2.2
  have en : r.ns = ns := by
    have e1' : r.ns.map (Sum.inl : Int → Key) = ns.map Sum.inl := e1
    have := congrArg (List.map intK) e1'
    rw [intK_ints, intK_ints] at this
    exact this
  refine ⟨?_, ?_, e5, fun x hx => (e6 x hx).tk tk⟩
  · show 0 ≤ r.ns.getLastD 0
    rw [en]; exact last_nn e3
  · show r.ns.getLastD 0 ≤ 1000000000
    rw [en]; exact e4
/-- while a dict of rows is filled -/
structure Kept (d m c : Nat) (tl : Hp → V → List V) (a : Addr) (dd : Addr × Addr) (k : Addr) (H0 H : Hp) (N b : Nat) : Prop where
  ex : ∃ kvs, H k = some (.dT kvs) ∧ kvs.length ≤ b ∧ ∀ e ∈ kvs, Ent d m c tl H e
  dk : Dk H a dd N
  kp : Kp a dd H0 H
  nk : H0 k = none
theorem Ent.one {d m : Nat} {H H' : Hp} {e : List Key × V} (tk : Tk H H') (h : Ent d m 1 tlOne H e) : Ent d m 1 tlOne H' e := by
  obtain ⟨ns, e1, e2, e3, e4, e5, e6⟩ := h
  exact ⟨ns, e1, e2, e3, e4, e5, fun x hx => (e6 x hx).tk tk⟩
theorem tlTup_eq {H : Hp} {e : Addr} {ys : List V} (h : H e = some (.tup ys)) : tlTup H (.ref e) = ys := by
  unfold tlTup
  simp only [h]
theorem tlTup_of {H : Hp} {v : V} {c : Nat} (h : (tlTup H v).length = c) (hc : 0 < c) : ∃ e ys, v = .ref e ∧ H e = some (.tup ys) := by
  cases v with
  | ref x =>
    cases hx : H x with
    | none =>
      unfold tlTup at h
      simp only [hx] at h
      simp at h
      omega
    | some o =>
      cases o with
      | tup ys => exact ⟨x, ys, rfl, hx⟩
      | _ =>
        unfold tlTup at h
        simp only [hx] at h
        simp at h
        omega
  | _ =>
    unfold tlTup at h
    simp at h
    omega
theorem Ent.tup {d m c : Nat} {H H' : Hp} {e : List Key × V} (tk : Tk H H') (hc : 0 < c) (h : Ent d m c tlTup H e) : Ent d m c tlTup H' e := by
  obtain ⟨ns, e1, e2, e3, e4, e5, e6⟩ := h
  have ee : tlTup H' e.2 = tlTup H e.2 := by
    cases ev : e.2 with
    | ref x =>
      cases hx : H x with
      | none =>
        rw [ev] at e5
        unfold tlTup at e5
        simp only [hx] at e5
        simp at e5
        omega
      | some o =>
        cases o with
        | tup ys => rw [tlTup_eq hx, tlTup_eq (tk _ _ hx)]
        | _ =>
          rw [ev] at e5
          unfold tlTup at e5
          simp only [hx] at e5
          simp at e5
          omega
    | _ =>
      rw [ev] at e5
      unfold tlTup at e5
      simp at e5
      omega
  exact ⟨ns, e1, e2, e3, e4, by rw [ee]; exact e5, by rw [ee]; exact fun x hx => (e6 x hx).tk tk⟩
section
variable {d m c : Nat} {tl : Hp → V → List V} {a k : Addr} {dd : Addr × Addr} {H0 H H' : Hp} {N b : Nat}
theorem Kept.nek (x : Kept d m c tl a dd k H0 H N b) : k ≠ a ∧ k ≠ dd.1 ∧ k ≠ dd.2 := by
  obtain ⟨kvs, hk, _⟩ := x.ex
  exact x.dk.ne hk fun xs => fun z => nomatch z
/-- the deck moves on, or new things come -/
theorem Kept.step (et : ∀ {H H' : Hp} {e : List Key × V}, Tk H H' → Ent d m c tl H e → Ent d m c tl H' e) (x : Kept d m c tl a dd k H0 H N b) (kp : Kp a dd H H') {N' : Nat} (dk : Dk H' a dd N') : Kept d m c tl a dd k H0 H' N' b := by
  obtain ⟨kvs, hk, hb, hE⟩ := x.ex
  have tk := x.dk.tk kp
  exact ⟨⟨kvs, kp _ _ x.nek.1 x.nek.2.1 hk, hb, fun e he => et tk (hE e he)⟩, dk, x.kp.trans kp, x.nk⟩
theorem Kept.same (et : ∀ {H H' : Hp} {e : List Key × V}, Tk H H' → Ent d m c tl H e → Ent d m c tl H' e) (x : Kept d m c tl a dd k H0 H N b) (s : Same H H') : Kept d m c tl a dd k H0 H' N b := x.step et (Kp.of s) (x.dk.same s)
theorem Kept.mono {N' b' : Nat} (x : Kept d m c tl a dd k H0 H N b) (h1 : N ≤ N') (h2 : b ≤ b') : Kept d m c tl a dd k H0 H N' b' := by
  obtain ⟨kvs, hk, hb, hE⟩ := x.ex
  exact ⟨⟨kvs, hk, by omega, hE⟩, x.dk.mono h1, x.kp, x.nk⟩
theorem Kept.new (h : Dk H0 a dd N) (np : H0 k = none) : Kept d m c tl a dd k H0 (upd H0 k (.dT [])) N 0 :=
  ⟨⟨[], upd_same, Nat.le_refl _, fun e he => absurd he List.not_mem_nil⟩, h.same (same_upd np), Kp.of (same_upd np), np⟩
/-- an entry is put -/
theorem Kept.put (et : ∀ {H H' : Hp} {e : List Key × V}, Tk H H' → Ent d m c tl H e → Ent d m c tl H' e) (x : Kept d m c tl a dd k H0 H N b) {ns : List Int} {v : V} (hv : Ent d m c tl H (ns.map Sum.inl, v)) {kvs : List (List Key × V)} (hk : H k = some (.dT kvs)) :
    Kept d m c tl a dd k H0 (upd H k (.dT (putK kvs (ns.map Sum.inl) v))) N (b + 1) := by
  obtain ⟨kvs', hk', hb, hE⟩ := x.ex
  rw [hk] at hk'
  cases hk'
  have tk : Tk H (upd H k (.dT (putK kvs (ns.map Sum.inl) v))) := Tk.upd hk fun xs z => nomatch z
  refine ⟨⟨_, upd_same, Nat.le_trans putK_len (by omega), fun e he => et tk ?_⟩, x.dk.upd hk (fun xs z => nomatch z), fun p o h1 h2 hp => ?_, x.nk⟩
  · rcases putK_mem he with z | z
    · exact hE e z
    · rw [z]; exact hv
  · rw [upd_ne (ne_of_none hp x.nk)]
    exact x.kp p o h1 h2 hp
end
theorem pick_int {xs : List Int} {i : Int} (h0 : 0 ≤ i) (h1 : i < (xs.map V.int).length) : ∃ x, atI (xs.map V.int) i = some (.int x) ∧ x ∈ xs := by
  obtain ⟨v, hv, hm⟩ := atI_some h0 h1
  obtain ⟨x, hx, rfl⟩ := List.mem_map.mp hm
  exact ⟨x, hv, hx⟩
theorem div_ok {i : Int} {k : Int} (h : 0 < k) (h2 : k.natAbs < 2 ^ 31) : CDivW i k := wide_div (b := 31) h h2 (by decide) (by decide)
theorem fnFalse {P : Program} {w : World} {K : PySem.W.Frag} {mg : Str → Option Value} {base : Heap} {k : Nat} {f : Addr} {fd : FuncData} {ps : List Str} : FnOk P w K mg base CX0 k f fd ps (fun _ _ _ _ => False) :=
  ⟨fun _ _ _ _ h => h.elim, fun _ _ _ _ _ _ _ _ _ _ _ _ _ h => h.elim⟩
end WL

set_option Elab.async false
set_option linter.all false
set_option maxRecDepth 100000
namespace WL
open PySem PySem.Spec PyProof.Rows L2
theorem Kp.free {a : Addr} {d : Addr × Addr} {H H' : Hp} (s : Kp a d H H') {l : Addr} (h1 : l ≠ a) (h2 : l ≠ d.1) (h : H' l = none) : H l = none := by
  cases q : H l with
  | none => rfl
  | some o =>
    rw [s l o h1 h2 q] at h
    cases h
/-! ### a dict with int keys that is filled -/
def EntK (m : Nat) (H : Hp) (e : Key × V) : Prop := ∃ s : Int, e.1 = .inl s ∧ 0 ≤ s ∧ s ≤ 1000000000 ∧ Da m H e.2
structure KeptK (m : Nat) (a : Addr) (dd : Addr × Addr) (k : Addr) (H0 H : Hp) (N b : Nat) : Prop where
  ex : ∃ kvs, H k = some (.dK kvs) ∧ kvs.length ≤ b ∧ ∀ e ∈ kvs, EntK m H e
  dk : Dk H a dd N
  kp : Kp a dd H0 H
  nk : H0 k = none
theorem EntK.tk {m : Nat} {H H' : Hp} {e : Key × V} (t : Tk H H') (h : EntK m H e) : EntK m H' e := let ⟨s, h1, h2, h3, h4⟩ := h; ⟨s, h1, h2, h3, h4.tk t⟩
theorem putK_memK {kvs : List (Key × V)} {k : Key} {v : V} {p : Key × V} (h : p ∈ putK kvs k v) : p ∈ kvs ∨ p = (k, v) := by
  unfold putK at h
  split at h
  · obtain ⟨q, hq, e⟩ := List.mem_map.mp h
    by_cases c : q.1 = k
    · rw [if_pos c] at e
      exact .inr (by rw [← e, c])
    · rw [if_neg c] at e
      exact .inl (by rw [← e]; exact hq)
  · rcases List.mem_append.mp h with z | z
    · exact .inl z
    · exact .inr (List.mem_singleton.mp z)
theorem putK_lenK {kvs : List (Key × V)} {k : Key} {v : V} : (putK kvs k v).length ≤ kvs.length + 1 := by
  unfold putK
  split
  · rw [List.length_map]; omega
  · rw [List.length_append]; exact Nat.le_refl _
section
variable {m : Nat} {a k : Addr} {dd : Addr × Addr} {H0 H H' : Hp} {N b : Nat}
theorem KeptK.nek (x : KeptK m a dd k H0 H N b) : k ≠ a ∧ k ≠ dd.1 ∧ k ≠ dd.2 := by
  obtain ⟨kvs, hk, _⟩ := x.ex
  exact x.dk.ne hk fun xs => fun z => nomatch z
theorem KeptK.step (x : KeptK m a dd k H0 H N b) (kp : Kp a dd H H') {N' : Nat} (dk : Dk H' a dd N') : KeptK m a dd k H0 H' N' b := by
  obtain ⟨kvs, hk, hb, hE⟩ := x.ex
  have tk := x.dk.tk kp
  exact ⟨⟨kvs, kp _ _ x.nek.1 x.nek.2.1 hk, hb, fun e he => (hE e he).tk tk⟩, dk, x.kp.trans kp, x.nk⟩
theorem KeptK.same (x : KeptK m a dd k H0 H N b) (s : Same H H') : KeptK m a dd k H0 H' N b := x.step (Kp.of s) (x.dk.same s)
theorem KeptK.mono {N' b' : Nat} (x : KeptK m a dd k H0 H N b) (h1 : N ≤ N') (h2 : b ≤ b') : KeptK m a dd k H0 H N' b' := by
  obtain ⟨kvs, hk, hb, hE⟩ := x.ex
  exact ⟨⟨kvs, hk, by omega, hE⟩, x.dk.mono h1, x.kp, x.nk⟩
theorem KeptK.new (h : Dk H0 a dd N) (np : H0 k = none) : KeptK m a dd k H0 (upd H0 k (.dK [])) N 0 :=
  ⟨⟨[], upd_same, Nat.le_refl _, fun e he => absurd he List.not_mem_nil⟩, h.same (same_upd np), Kp.of (same_upd np), np⟩
theorem KeptK.put (x : KeptK m a dd k H0 H N b) {s : Int} {v : V} (h0 : 0 ≤ s) (h1 : s ≤ 1000000000) (hv : Da m H v) {kvs : List (Key × V)} (hk : H k = some (.dK kvs)) :
    KeptK m a dd k H0 (upd H k (.dK (putK kvs (.inl s) v))) N (b + 1) := by
  obtain ⟨kvs', hk', hb, hE⟩ := x.ex
  rw [hk] at hk'
  cases hk'
  have tk : Tk H (upd H k (.dK (putK kvs (.inl s) v))) := Tk.upd hk fun xs z => nomatch z
  refine ⟨⟨_, upd_same, Nat.le_trans putK_lenK (by omega), fun e he => ?_⟩, x.dk.upd hk (fun xs z => nomatch z), fun p o h1 h2 hp => ?_, x.nk⟩
  · rcases putK_memK he with z | z
    · exact (hE e z).tk tk
    · rw [z]; exact ⟨s, rfl, h0, h1, hv.tk tk⟩
  · rw [upd_ne (ne_of_none hp x.nk)]
    exact x.kp p o h1 h2 hp
/-- a list that came later is written -/
theorem KeptK.lst {g : Addr} {xs : List V} {o : HO} (x : KeptK m a dd k H0 H N b) (hg : H g = some (.lst xs)) (n : g ≠ a ∧ g ≠ dd.1 ∧ g ≠ dd.2) (ng : H0 g = none) : KeptK m a dd k H0 (upd H g o) N b := by
  obtain ⟨kvs, hk, hb, hE⟩ := x.ex
  have tk : Tk H (upd H g o) := Tk.upd hg fun xs z => nomatch z
  refine ⟨⟨kvs, ?_, hb, fun e he => (hE e he).tk tk⟩, x.dk.updL n.1 n.2.1 n.2.2, fun p u h1 h2 hp => ?_, x.nk⟩
  · rw [upd_ne (ne_of hk hg fun z => nomatch z)]
    exact hk
  · rw [upd_ne (ne_of_none hp ng)]
    exact x.kp p u h1 h2 hp
end
theorem valV_inK : ∀ {kvs : List (Key × V)} {k : Key}, k ∈ kvs.map (·.1) → ∃ v, valV kvs k = some v ∧ (k, v) ∈ kvs
  | [], k, h => by simp at h
  | p :: r, k, h => by
    by_cases e : p.1 = k
    · exact ⟨p.2, valV_pos e, by rw [← e]; exact List.mem_cons_self⟩
    · have h' : k ∈ r.map (·.1) := by
        rw [List.map_cons] at h
        rcases List.mem_cons.mp h with z | z
        · exact absurd z.symm e
        · exact z
      obtain ⟨v, h1, h2⟩ := valV_inK h'
      exact ⟨v, by rw [valV_neg e]; exact h1, List.mem_cons_of_mem _ h2⟩
/-- tuple([(key, kept[key]) for key in sorted(kept.keys())]), the keys ints -/
theorem rows_of_dictK {K : PySem.W.Frag} {σ : L2.St} {H : Hp} {Q : VK} {ks i : Nat} {k : Addr} {kvs : List (Key × V)} {m : Nat}
    (hk : H k = some (.dK kvs)) (h60 : kvs.length ≤ 60) (hE : ∀ e ∈ kvs, EntK m H e)
    (h0 : σ[ks]? = some (some (.ref k))) (hw : ∀ x, wipe ((wipe σ [i]).set i (some x)) [i] = wipe σ [i])
    (hi : ∀ x, ((wipe σ [i]).set i (some x))[i]? = some (some x)) (hks : ∀ x, ((wipe σ [i]).set i (some x))[ks]? = some (some (.ref k)))
    (q : ∀ (t : Addr) (rs : List Row) (H' : Hp), Same H H' → GoodRows K 0 m 1 H' t rs → H t = none → Q (.ref t) H') :
    tCB (fun xs H Q => ∃ p ys, xs = [V.ref p] ∧ ((SqL K H p ys ∧ ∀ l, H l = none → Q (.ref l) (upd H l (.tup ys))) ∨ (SqT K H p ys ∧ Q (.ref p) H)))
      (tCons (tLc (iList K (tCB rSortKI (tCons (tBM0 K "dict" rKeysK (tVar ks)) tNil))) (gName i) tYes (tTup (tCons (tVar i) (tCons (tDGet (tVar ks) (tVar i)) tNil))) [i]) tNil) σ H Q := by
  obtain ⟨is, eis⟩ : ∃ is : List Int, kvs.map (·.1) = is.map Sum.inl := by
    refine ⟨kvs.map fun e => intK e.1, ?_⟩
    rw [List.map_map]
    refine List.map_congr_left fun e he => ?_
    obtain ⟨s, h1, _⟩ := hE e he
    show e.1 = Sum.inl (intK e.1)
    rw [h1]
    rfl
  have lis : is.length = kvs.length := by simpa using (congrArg List.length eis).symm
  refine ⟨_, h0, .inr (.inr (.inl ⟨rfl, .inl ⟨kvs, hk⟩⟩)), k, kvs, rfl, rfl, hk, fun p np => ?_⟩
  have s1 : Same H (upd H p (keysO p k)) := same_upd np
  refine ⟨p, k, kvs, is, rfl, upd_same, s1 _ _ hk, eis, by omega, fun ys l perm _ nl => ?_⟩
  have s2 := s1.trans (same_upd (o := .lst (ys.map V.int)) nl)
  refine ⟨l, rfl, ⟨_, SqL.of upd_same⟩, fun D nD => lc_list (K := K) (xs := ys.map V.int)
    (fun j H3 => ∃ R : List Row, R.length = j ∧ H3 D = some (.lst (R.map fun q => V.ref q.a)) ∧ Same (upd (upd H p (keysO p k)) l (.lst (ys.map V.int))) H3 ∧
      ∀ q ∈ R, Rw 0 H3 q ∧ 0 ≤ q.s ∧ q.s ≤ 1000000000 ∧ q.l.length = 1 ∧ ∀ x ∈ q.l, Da m H3 x)
    ⟨[], rfl, upd_same, same_upd nD, (fun q hq => absurd hq List.not_mem_nil)⟩ (fun j H3 _ hP => ?_) (fun j x H3 hx hP => ?_) (fun H3 hP => ?_)⟩
  · obtain ⟨R, _, _, sm, _⟩ := hP
    exact SqL.of (sm _ _ upd_same)
  · obtain ⟨R, lR, hD, sm, hR⟩ := hP
    rw [List.getElem?_map] at hx
    obtain ⟨s, hz, rfl⟩ := Option.map_eq_some_iff.mp hx
    have sm3 := s2.trans sm
    have hkm : (Sum.inl s : Key) ∈ kvs.map (·.1) := by
      rw [eis]
      exact List.mem_map.mpr ⟨s, perm.mem_iff.mp (List.mem_of_getElem? hz), rfl⟩
    obtain ⟨v, hv, vm⟩ := valV_inK hkm
    obtain ⟨s', e1, b0, b1, dv⟩ := hE _ vm
    cases e1
    have jl : j < ys.length := (List.getElem?_eq_some_iff.mp hz).1
    have l64 : ys.length = kvs.length := by rw [perm.length_eq]; exact lis
    refine ⟨hw _, ?_⟩
    simp only [tYes, if_true]
    refine ⟨_, hi _, _, hks _, _, hi _, k, v, rfl, ?_, (show 2 ≤ sizeLine by decide), fun e ne => ?_⟩
    · have := DGet.k (k := (Sum.inl s : Key)) (sm3 _ _ hk)
      rw [hv] at this
      exact this
    have s4 := same_upd (o := .tup [.int s, v]) ne
    have sm4 := sm.trans s4
    have nD' : ∀ (c : Addr) (zs : List V), upd H3 e (.tup [.int s, v]) c = some (.tup zs) → c ≠ D := fun c zs hc z => by
      subst z
      rw [s4 _ _ hD] at hc
      cases hc
    have tkD : Tk (upd H3 e (.tup [.int s, v])) (upd (upd H3 e (.tup [.int s, v])) D (.lst (R.map (fun q => V.ref q.a) ++ [V.ref e]))) := Tk.upd (s4 _ _ hD) fun xs z => nomatch z
    refine ⟨R.map fun q => V.ref q.a, s4 _ _ hD, size_lt (by rw [List.length_map]; omega), R ++ [⟨e, [], s, [v]⟩], ?_, ?_, ?_, ?_⟩
    · rw [List.length_append, lR]; rfl
    · rw [upd_same, List.map_append]; rfl
    · intro c o hc
      rw [upd_ne (ne_of_none hc nD)]
      exact sm4 _ _ hc
    · intro r hr
      rcases List.mem_append.mp hr with h | h
      · obtain ⟨⟨h1, h2⟩, h3, h4, h5, h6⟩ := hR r h
        exact ⟨⟨h1, tkD _ _ (s4 _ _ h2)⟩, h3, h4, h5, fun x hx => ((h6 x hx).tk (Tk.of s4)).tk tkD⟩
      · rw [List.mem_singleton.mp h]
        refine ⟨⟨rfl, tkD _ _ upd_same⟩, b0, b1, rfl, fun x hx => ?_⟩
        rw [List.mem_singleton.mp hx]
        exact ((dv.tk (Tk.of sm3)).tk (Tk.of s4)).tk tkD
  · obtain ⟨R, lR, hD, sm, hR⟩ := hP
    rw [List.length_map] at lR
    have l64 : ys.length = kvs.length := by rw [perm.length_eq]; exact lis
    refine ⟨D, _, rfl, .inl ⟨SqL.of hD, fun t nt => ?_⟩⟩
    have s5 := same_upd (o := .tup (R.map fun q => V.ref q.a)) nt
    exact q t R _ ((s2.trans sm).trans s5) ⟨⟨upd_same, fun r hr => ⟨(hR r hr).1.1, s5 _ _ (hR r hr).1.2⟩⟩, by omega, fun r hr => ⟨(hR r hr).2.1, (hR r hr).2.2.1, (hR r hr).2.2.2.1, fun x hx => ((hR r hr).2.2.2.2 x hx).tk (Tk.of s5)⟩⟩ ((s2.trans sm).free nt)
end WL

set_option Elab.async false
set_option linter.all false
set_option maxRecDepth 100000
namespace WL
open PySem PySem.Spec PyProof.Rows L2
/-! ### a dict with keys of ints that is filled, whatever is said of its entries -/
abbrev EntR := Hp → List Int → V → Prop
structure KeptB (d : Nat) (R : EntR) (a : Addr) (dd : Addr × Addr) (k : Addr) (H0 H : Hp) (N b : Nat) : Prop where
  ex : ∃ kvs, H k = some (.dT kvs) ∧ kvs.length ≤ b ∧ ∀ e ∈ kvs, ∃ ns : List Int, e.1 = ns.map Sum.inl ∧ ns.length = d ∧ TS.Bd 2000000000 ns ∧ R H ns e.2
  dk : Dk H a dd N
  kp : Kp a dd H0 H
  nk : H0 k = none
section
variable {d : Nat} {R : EntR} {a k : Addr} {dd : Addr × Addr} {H0 H H' : Hp} {N b : Nat}
theorem KeptB.nek (x : KeptB d R a dd k H0 H N b) : k ≠ a ∧ k ≠ dd.1 ∧ k ≠ dd.2 := by
  obtain ⟨kvs, hk, _⟩ := x.ex
  exact x.dk.ne hk fun xs => fun z => nomatch z
theorem KeptB.step (et : ∀ (H H' : Hp) (ns : List Int) (v : V), Tk H H' → R H ns v → R H' ns v) (x : KeptB d R a dd k H0 H N b) (kp : Kp a dd H H') {N' : Nat} (dk : Dk H' a dd N') : KeptB d R a dd k H0 H' N' b := by
  obtain ⟨kvs, hk, hb, hE⟩ := x.ex
  have tk := x.dk.tk kp
  exact ⟨⟨kvs, kp _ _ x.nek.1 x.nek.2.1 hk, hb, fun e he => let ⟨ns, h1, h2, h3, h4⟩ := hE e he; ⟨ns, h1, h2, h3, et _ _ _ _ tk h4⟩⟩, dk, x.kp.trans kp, x.nk⟩
theorem KeptB.same (et : ∀ (H H' : Hp) (ns : List Int) (v : V), Tk H H' → R H ns v → R H' ns v) (x : KeptB d R a dd k H0 H N b) (s : Same H H') : KeptB d R a dd k H0 H' N b := KeptB.step et x (Kp.of s) (x.dk.same s)
theorem KeptB.mono {N' b' : Nat} (x : KeptB d R a dd k H0 H N b) (h1 : N ≤ N') (h2 : b ≤ b') : KeptB d R a dd k H0 H N' b' := by
  obtain ⟨kvs, hk, hb, hE⟩ := x.ex
  exact ⟨⟨kvs, hk, by omega, hE⟩, x.dk.mono h1, x.kp, x.nk⟩
theorem KeptB.new (h : Dk H0 a dd N) (np : H0 k = none) : KeptB d R a dd k H0 (upd H0 k (.dT [])) N 0 :=
  ⟨⟨[], upd_same, Nat.le_refl _, fun e he => absurd he List.not_mem_nil⟩, h.same (same_upd np), Kp.of (same_upd np), np⟩
theorem KeptB.put (et : ∀ (H H' : Hp) (ns : List Int) (v : V), Tk H H' → R H ns v → R H' ns v) (x : KeptB d R a dd k H0 H N b) {ns : List Int} {v : V} (ln : ns.length = d) (hb : TS.Bd 2000000000 ns) (hv : R H ns v) {kvs : List (List Key × V)} (hk : H k = some (.dT kvs)) :
    KeptB d R a dd k H0 (upd H k (.dT (putK kvs (ns.map Sum.inl) v))) N (b + 1) := by
  obtain ⟨kvs', hk', hb', hE⟩ := x.ex
  rw [hk] at hk'
  cases hk'
  have tk : Tk H (upd H k (.dT (putK kvs (ns.map Sum.inl) v))) := Tk.upd hk fun xs z => nomatch z
  refine ⟨⟨_, upd_same, Nat.le_trans putK_len (by omega), fun e he => ?_⟩, x.dk.upd hk (fun xs z => nomatch z), fun p o h1 h2 hp => ?_, x.nk⟩
  · rcases putK_mem he with z | z
    · obtain ⟨ms, h1, h2, h3, h4⟩ := hE e z
      exact ⟨ms, h1, h2, h3, et _ _ _ _ tk h4⟩
    · rw [z]; exact ⟨ns, rfl, ln, hb, et _ _ _ _ tk hv⟩
  · rw [upd_ne (ne_of_none hp x.nk)]
    exact x.kp p o h1 h2 hp
/-- the number of entries, as it stands -/
theorem KeptB.len (x : KeptB d R a dd k H0 H N b) : ∃ kvs, H k = some (.dT kvs) ∧ KeptB d R a dd k H0 H N kvs.length ∧ kvs.length ≤ b := by
  obtain ⟨kvs, hk, hb, hE⟩ := x.ex
  exact ⟨kvs, hk, ⟨⟨kvs, hk, Nat.le_refl _, hE⟩, x.dk, x.kp, x.nk⟩, hb⟩
end
/-! ### where ways meet again -/
def tJoin (t : TS) : TS := fun D σ H => ∃ M : L2.St → Hp → Prop, t { D with nx := M } σ H ∧ ∀ σ' H', M σ' H' → D.nx σ' H'
theorem ps_join {X : Cx} {st : Stmt} {t : TS} (h : PS X st t) : PS X st (tJoin t) := by
  refine ⟨fun pins s σ H D I hw => ?_⟩
  obtain ⟨M, h1, h2⟩ := hw
  refine thn (h.run pins s σ H { D with nx := M } I h1) fun f s1 q => ?_
  cases f with
  | next =>
    obtain ⟨σ', H', I', m⟩ := q
    exact ⟨σ', H', I', h2 _ _ m⟩
  | ret v => exact q
  | brk => exact q
  | cont => exact q
theorem shaped_at {w : Str} {x : Int} (hw : w = "in" ∨ w = "with") : SeqAt.shaped (.tuple [.str w, .int x]) = true := by
  have e : PyData.canLay0 (.tuple [.str w, .int x]) = PyData.canLay0 (.tuple [.str w, .int 0]) := rfl
  unfold SeqAt.shaped
  rw [e]
  show (PyData.canLay0 (.tuple [.str w, .int 0]) && decide (PyData.depth (.tuple [.str w, .int 0]) ≤ 64)) = true
  rcases hw with rfl | rfl
  · decide +kernel
  · decide +kernel
/-! ### books -/
def AtW (H : Hp) (v : V) : Prop := ∃ (e : Addr) (w : Str) (x : Int), v = .ref e ∧ H e = some (.tup [.str w, .int x]) ∧ (w = "in" ∨ w = "with") ∧ 0 ≤ x ∧ x < 100
theorem AtW.tk {H H' : Hp} {v : V} (t : Tk H H') (h : AtW H v) : AtW H' v := let ⟨e, w, x, h1, h2, h3⟩ := h; ⟨e, w, x, h1, t _ _ h2, h3⟩
/-- who, role below 100, a day, an at -/
def FactR : EntR := fun H ns v => (∀ n ∈ ns.dropLast, 0 ≤ n ∧ n < 100) ∧ ns.getLastD 0 ≤ 1000000000 ∧ AtW H v
theorem FactR.tk : ∀ (H H' : Hp) (ns : List Int) (v : V), Tk H H' → FactR H ns v → FactR H' ns v := fun _ _ _ _ t h => ⟨h.1, h.2.1, h.2.2.tk t⟩
def Fact (H : Hp) (q : Row) : Prop := (∀ n ∈ q.ns, 0 ≤ n ∧ n < 100) ∧ 0 ≤ q.s ∧ q.s ≤ 1000000000 ∧ ∃ v, q.l = [v] ∧ AtW H v
theorem Fact.tk {H H' : Hp} {q : Row} (t : Tk H H') (h : Fact H q) : Fact H' q := let ⟨h1, h2, h3, v, h4, h5⟩ := h; ⟨h1, h2, h3, v, h4, h5.tk t⟩
def Book (K : PySem.W.Frag) (H : Hp) (t : Addr) (rs : List Row) : Prop := Rows K 2 H t rs ∧ rs.length ≤ 62 ∧ ∀ q ∈ rs, Fact H q
theorem Book.tk {K : PySem.W.Frag} {H H' : Hp} {t : Addr} {rs : List Row} (s : Tk H H') (h : Book K H t rs) : Book K H' t rs := ⟨h.1.tk s, h.2.1, fun q hq => (h.2.2 q hq).tk s⟩
theorem book_mk {K : PySem.W.Frag} {H H' : Hp} {t : Addr} {R : List DRow} {kvs : List (List Key × V)} (tk : Tk H H') (hE : ∀ e ∈ kvs, ∃ ns : List Int, e.1 = ns.map Sum.inl ∧ ns.length = 3 ∧ TS.Bd 2000000000 ns ∧ FactR H ns e.2) (h64 : kvs.length ≤ 62) (ht : H' t = some (.tup (R.map fun q => V.ref q.a))) (lR : R.length = kvs.length)
    (hR : ∀ q ∈ R, H' q.a = some (.tup (q.ns.map V.int ++ tlOne H q.v)) ∧ q.ns.length = 3 ∧ (q.ns.map Sum.inl, q.v) ∈ kvs) : Book K H' t (R.map (toRow (tlOne H))) := by
  refine ⟨rows_mk ht fun q hq => ⟨(hR q hq).1, (hR q hq).2.1⟩, by rw [List.length_map]; omega, fun q hq => ?_⟩
  obtain ⟨r, hr, rfl⟩ := List.mem_map.mp hq
  obtain ⟨ns, e1, e2, e3, e4⟩ := hE _ (hR r hr).2.2
  have en : r.ns = ns := by
    have e1' : r.ns.map (Sum.inl : Int → Key) = ns.map Sum.inl := e1
    have := congrArg (List.map intK) e1'
    rw [intK_ints, intK_ints] at this
    exact this
  refine ⟨?_, ?_, ?_, r.v, rfl, e4.2.2.tk tk⟩
  · show ∀ n ∈ r.ns.dropLast, _
    rw [en]; exact e4.1
  · show 0 ≤ r.ns.getLastD 0
    rw [en]; exact last_nn e3
  · show r.ns.getLastD 0 ≤ 1000000000
    rw [en]; exact e4.2.1
theorem fact_da {K : PySem.W.Frag} {H : Hp} {t : Addr} {rs : List Row} (h : Book K H t rs) {q : Row} (hq : q ∈ rs) : Da 2 H (.ref q.a) := by
  obtain ⟨h1, h2⟩ := h.1.2 q hq
  obtain ⟨_, _, _, v, hv, e, w, x, rfl, he, _⟩ := h.2.2 q hq
  refine Da.tup h2 ?_ fun y hy => ?_
  · rw [List.length_append, List.length_map, List.length_cons, h1, hv]; show 2 + (1 + 1) ≤ 1000; decide
  · rcases List.mem_append.mp hy with z | z
    · obtain ⟨u, _, rfl⟩ := List.mem_map.mp z
      exact Da.flat rfl
    · rcases List.mem_cons.mp z with rfl | z
      · exact Da.flat rfl
      · rw [hv] at z
        rw [List.mem_singleton.mp z]
        refine Da.tup he (show 2 ≤ 1000 by decide) fun y hy => ?_
        rcases List.mem_cons.mp hy with rfl | hy
        · exact Da.flat rfl
        · rw [List.mem_singleton.mp hy]; exact Da.flat rfl
/-! ### a trail -/
/-- the word and the number of a fact's at -/
structure Trl where
  w : Str
  x : Int
  fs : List Row
def walkN (fnd : Int → Option (Row × Str × Int)) : Nat → Int → List Int → List Row → Trl
  | 0, c, _, fs => ⟨"open", c, fs⟩
  | n + 1, c, ps, fs => match fnd c with
    | none => ⟨"open", c, fs⟩
    | some (q, w, x) => if w = "in" then ⟨"in", x, fs ++ [q]⟩ else if x ∈ ps then ⟨"round", x, fs ++ [q]⟩ else walkN fnd n x (ps ++ [x]) (fs ++ [q])
theorem walk_some {fnd : Int → Option (Row × Str × Int)} {n : Nat} {c x : Int} {ps : List Int} {fs : List Row} {q : Row} {w : Str} (h : fnd c = some (q, w, x)) : walkN fnd (n + 1) c ps fs = if w = "in" then ⟨"in", x, fs ++ [q]⟩ else if x ∈ ps then ⟨"round", x, fs ++ [q]⟩ else walkN fnd n x (ps ++ [x]) (fs ++ [q]) := by
  show (match fnd c with
    | none => (⟨"open", c, fs⟩ : Trl)
    | some (q, w, x) => if w = "in" then ⟨"in", x, fs ++ [q]⟩ else if x ∈ ps then ⟨"round", x, fs ++ [q]⟩ else walkN fnd n x (ps ++ [x]) (fs ++ [q])) = _
  rw [h]
/-- pigeons -/
theorem int_nodup_len : ∀ (l D : List Int), l.Nodup → (∀ x ∈ l, x ∈ D) → l.length ≤ D.length
  | [], _, _, _ => Nat.zero_le _
  | x :: l, D, hn, hs => by
    obtain ⟨h1, h2⟩ := List.nodup_cons.mp hn
    have hx : x ∈ D := hs x List.mem_cons_self
    have ih := int_nodup_len l (D.erase x) h2 fun y hy => (List.mem_erase_of_ne (show y ≠ x from fun e => h1 (by rw [← e]; exact hy))).2 (hs y (List.mem_cons_of_mem _ hy))
    have e := List.length_erase_of_mem hx
    have hp : 0 < D.length := List.length_pos_of_mem hx
    rw [List.length_cons]
    omega
/-- what is found of a one: the fact that stands, its word and number -/
structure Finds (H : Hp) (rs : List Row) (role day : Int) (fnd : Int → Option (Row × Str × Int)) : Prop where
  none : ∀ c, fnd c = none → pick (hit [c, role] day) rs = none
  some : ∀ c q w x, fnd c = some (q, w, x) → pick (hit [c, role] day) rs = some q ∧ ∃ e, q.l = [.ref e] ∧ H e = some (.tup [.str w, .int x]) ∧ (w = "in" ∨ w = "with")
theorem Finds.tk {H H' : Hp} {rs : List Row} {role day : Int} {fnd : Int → Option (Row × Str × Int)} (t : Tk H H') (h : Finds H rs role day fnd) : Finds H' rs role day fnd :=
  ⟨h.none, fun c q w x e => let ⟨h1, e', h2, h3, h4⟩ := h.some c q w x e; ⟨h1, e', h2, t _ _ h3, h4⟩⟩
/-- the word and number at a heap -/
def fndOf (H : Hp) (rs : List Row) (role day : Int) (c : Int) : Option (Row × Str × Int) := match pick (hit [c, role] day) rs with
  | none => none
  | some q => match q.l with
    | [.ref e] => match H e with
      | some (.tup [.str w, .int x]) => some (q, w, x)
      | _ => none
    | _ => none
theorem finds_of {K : PySem.W.Frag} {H : Hp} {t : Addr} {rs : List Row} (h : Book K H t rs) (role day : Int) : Finds H rs role day (fndOf H rs role day) := by
  have val : ∀ c q, pick (hit [c, role] day) rs = some q → ∃ e w x, q.l = [.ref e] ∧ H e = some (.tup [.str w, .int x]) ∧ (w = "in" ∨ w = "with") ∧ fndOf H rs role day c = some (q, w, x) := fun c q e => by
    obtain ⟨_, _, _, v, hv, e', w, x, rfl, he, hw, _⟩ := h.2.2 q (pick_mem e).1
    refine ⟨e', w, x, hv, he, hw, ?_⟩
    unfold fndOf
    rw [e]
    simp only [hv, he]
  refine ⟨fun c e => ?_, fun c q w x e => ?_⟩
  · cases ep : pick (hit [c, role] day) rs with
    | none => rfl
    | some q =>
      obtain ⟨_, _, _, _, _, _, e2⟩ := val c q ep
      rw [e] at e2
      cases e2
  · cases ep : pick (hit [c, role] day) rs with
    | none =>
      unfold fndOf at e
      rw [ep] at e
      cases e
    | some q' =>
      obtain ⟨e', w', x', h1, h2, h3, h4⟩ := val c q' ep
      rw [e] at h4
      cases h4
      exact ⟨rfl, e', h1, h2, h3⟩
end WL

set_option Elab.async false
set_option linter.all false
set_option maxRecDepth 100000
namespace WL
open PySem PySem.Spec PyProof.Rows L2
/-! ### a set comprehension whose members are ints -/
/-- what the reading asks; D: the new set -/
def tScI (w : World) (wi : TI) (g : TG) (tt : TT) (te : TE) (vs : List Nat) : TE := fun σ H Q => wi σ H fun J H1 => ∀ D, H1 D = none → ∃ W : Nat → Nat → Hp → Prop,
  (∃ m, W 0 m (upd H1 D (SetO w D (fun _ => false) 0))) ∧ ∀ i m H, W i m H → (J.stop i H ∧ Q (.ref D) H) ∨
    (J.go i H ∧ ∃ Nx : Hp → Prop, (∀ H', Nx H' → ∃ m', m' < m ∧ W (i + 1) m' H') ∧ ∀ x H', J.yld i H x H' → g x (wipe σ vs) H' fun σ2 H2 => wipe σ2 vs = wipe σ vs ∧ tt σ2 H2 fun b H3 =>
      if b = true then te σ2 H3 fun y H4 => ∃ (c : Int) (S : Int → Bool) (n : Nat), y = .int c ∧ H4 D = some (SetO w D S n) ∧ n + 1 < scanBound ∧ Nx (upd H4 D (SetO w D (fun j => S j || decide (j = c)) (if S c = true then n else n + 1))) else Nx H3)
section
variable {X : Cx}
/-- what is known of the iterator's own objects through the block -/
theorem fp_block {Y : Cx} {fp : List Addr} (hex : ∀ b ∈ fp, b ∈ Y.ex) (hpn : Y.pn = []) {σ : L2.St} {H : Hp} {s : Shared} (I : Inv Y [] σ H s) (hn : ∀ b ∈ fp, H b = none) : ∀ b ∈ fp, FpOk Y [] H b := fun b hb =>
  ⟨hn b hb, (I.ok.exf b (hex b hb)).1, I.ok.exfs b (hex b hb), .inl (hex b hb), fun x c e => (I.ok.exf b (hex b hb)).2 x c e, fun p hp => by rw [hpn] at hp; cases hp⟩
theorem pe_scI {elt tg iter : Expr} {ifs : List Expr} {scope : Scope} {own : List (Str × Nat)} {pos : Pos} {wi : TI} {g : TG} {tt : TT} {te : TE} (hc : X.calm = true) (hN : X.N.Nodup) (hi : PI X tg iter wi) (ok : BlkOk X.N X.env.scope scope own)
    (hg : ∀ (s : Shared) (H : Hp) (C : Addr) (cl : List (Str × Addr)) (fp : List Addr), PG (X.blk s H scope (compEnvC scope cl C X.env) fp) tg g) (ht : ∀ (s : Shared) (H : Hp) (C : Addr) (cl : List (Str × Addr)) (fp : List Addr), PTs (X.blk s H scope (compEnvC scope cl C X.env) fp) ifs tt)
    (he : ∀ (s : Shared) (H : Hp) (C : Addr) (cl : List (Str × Addr)) (fp : List Addr), PE (X.blk s H scope (compEnvC scope cl C X.env) fp) elt te) (hs : ∀ x, foldedSetIterable iter X.env x = pure x := by intro _; rfl) :
    PE X (.SetComp elt [⟨tg, iter, ifs, 0⟩] scope pos) (tScI X.w wi g tt te (own.map (·.2))) := by
  refine ⟨fun pins s σ H Q I h => ?_⟩
  rw [PpSet.eval_SetComp]
  have frees : ∀ y ∈ scope.names, y.2 = .free → ∃ c, X.env.cells.lookup y.1 = some c := fun y hy e =>
    (ok.free y hy e).elim (fun k => I.ok.has _ (.inl k)) fun k => I.ok.has _ (.inr k)
  refine wpAny_comprehension_free (use := none) rfl hs (closure_ok frees) ok.kind (fun y hy e => by rw [ok.uniq y hy, e]) (thn (hi.run pins s σ H _ I h) fun _ s1 hx => thn hx fun _ s2 h2 => ?_)
  obtain ⟨it, fp, tn, J, H2, rfl, I2, T, st2, f2, q⟩ := h2
  refine PpSet.newSet_ok (newEnv_comp ?_)
  -- the new set at D
  obtain ⟨D, eD⟩ : ∃ D, D = s2.heap.objs.size := ⟨_, rfl⟩
  have nD : H2 D = none := I2.hok.fresh (Nat.le_of_eq eD.symm)
  obtain ⟨W, ⟨m0, w0⟩, turn⟩ := q D nD
  have laid : Inv X pins σ (upd H2 D (SetO X.w D (fun _ => false) 0)) { s2 with heap := s2.heap.push { cls := .type "set", dict := none, data := .set #[] 0 (.fresh 0 0 (!X.w.params.followText "set-order")) } } := by
    refine I2.laid (t' := s2.toks) (fun b o e => Heap.get?_push_of_some _ e) (Nat.le_of_eq eD.symm) ?_
    rw [eD]
    exact setO_new (setR_fresh X.w)
  rw [← eD]
  generalize e3 : ({ s2 with heap := s2.heap.push { cls := .type "set", dict := none, data := .set #[] 0 (.fresh 0 0 (!X.w.params.followText "set-order")) } } : Shared) = s3 at laid ⊢
  have h3 : s3.heap = s2.heap.push { cls := .type "set", dict := none, data := .set #[] 0 (.fresh 0 0 (!X.w.params.followText "set-order")) } := by rw [← e3]
  generalize eH3 : upd H2 D (SetO X.w D (fun _ => false) 0) = H3 at laid w0
  have f3 : ∀ b ∈ fp, FpOk X pins H3 b ∧ b < s3.heap.objs.size := fun b hb => by
    obtain ⟨o, e, _⟩ := T.obj _ _ st2 b hb
    have lt := Heap.lt_size e
    refine ⟨⟨?_, (f2 b hb).2⟩, by rw [h3, Heap.size_push]; exact Nat.lt_succ_of_lt lt⟩
    rw [← eH3, upd_ne (by rw [eD]; exact Nat.ne_of_lt lt)]
    exact (f2 b hb).1
  have st3 : tn 0 s3.heap := T.keep _ _ _ st2 fun b _ o e => by rw [h3]; exact Heap.get?_push_of_some _ e
  have I4 := block_start laid ok hN f3
  have pg := hg s3 H3 s3.heap.objs.size (cellsFrom (s3.heap.objs.size + 1) scope.names (cloFrom X.env.cells scope.names [])) fp
  have pt := ht s3 H3 s3.heap.objs.size (cellsFrom (s3.heap.objs.size + 1) scope.names (cloFrom X.env.cells scope.names [])) fp
  have pe := he s3 H3 s3.heap.objs.size (cellsFrom (s3.heap.objs.size + 1) scope.names (cloFrom X.env.cells scope.names [])) fp
  show codeAny _ _ (.compStart (.SetComp elt [⟨tg, iter, ifs, 0⟩] scope pos) 0 (.ref it) (.ref D) (compEnvC scope (cellsFrom (s3.heap.objs.size + 1) scope.names (cloFrom X.env.cells scope.names [])) s3.heap.objs.size X.env)) (compPost (model X.prog X.w) X.A X.xe none (EP X pins σ Q) (.ref D) s3.heap.objs.size) { s3 with heap := pushCells (s3.heap.push { cls := .type "dict", data := .dict #[] }) scope.names }
  generalize ece : compEnvC scope (cellsFrom (s3.heap.objs.size + 1) scope.names (cloFrom X.env.cells scope.names [])) s3.heap.objs.size X.env = ce at I4 pg pt pe ⊢
  have locals : ce.locals = s3.heap.objs.size := by subst ece; rfl
  generalize e4 : ({ s3 with heap := pushCells (s3.heap.push { cls := .type "dict", data := .dict #[] }) scope.names } : Shared) = s4 at I4 ⊢
  have st4 : tn 0 s4.heap := T.keep _ _ _ st3 fun b _ o e => by rw [← e4]; exact pushCells_keeps _ _ _ _ (Heap.get?_push_of_some _ e)
  have loop : codeAny (model X.prog X.w) X.A (.compLoop (.SetComp elt [⟨tg, iter, ifs, 0⟩] scope pos) 0 (.ref it) (.ref D) ce) (compPost (model X.prog X.w) X.A X.xe none (EP X pins σ Q) (.ref D) s3.heap.objs.size) s4 := by
    refine PpSet.compLoopS_any (fun n s' => ∃ i H', Inv (X.blk s3 H3 scope ce fp) [] (wipe σ (own.map (·.2))) H' s' ∧ tn i s'.heap ∧ (∀ b ∈ fp, H' b = none) ∧ W i n H') ?_ m0 ⟨0, H3, I4, st4, fun b hb => (f3 b hb).1.1, w0⟩
    rintro n s5 ⟨i, H5, I5, st5, n5, w5⟩
    have own5 := fp_block (Y := X.blk s3 H3 scope ce fp) (fp := fp) (fun _ hb => hb) rfl I5 n5
    rcases turn i n H5 w5 with ⟨stop, fin⟩ | ⟨go, Nx, next, step⟩
    · refine thnF (T.done (X.blk s3 H3 scope ce fp) rfl rfl rfl hc i [] s5 _ H5 (fun _ _ => False) I5 own5 st5 stop) fun _ s6 ⟨hr, I6⟩ => ?_
      subst hr
      have back : Inv X pins σ H5 s6 := laid.call' (ch := fp) I6.os I6.base I6.hok I6.bare fun b hb => ⟨(f3 b hb).1.2.2.2.1, (f3 b hb).1.2.1, (f3 b hb).1.2.2.2.2.1, (f3 b hb).1.2.2.2.2.2⟩
      obtain ⟨m, ns, _⟩ := I6.loc
      have ns : s6.heap.Ns ce.locals m := ns
      have free : H5 ce.locals = none := I6.free
      rw [locals] at ns free
      refine ⟨m, ns, fun h'' sb => ?_⟩
      obtain ⟨g0, g1, g2, g3, g4, g5⟩ := laid.fpOk (H' := H5) (Nat.le_refl _) free
      exact ⟨.ref D, H5, back.turned (t' := s6.toks) (fun b o hb e => (sb.2 b hb).trans e) g0 g1 g3 g4 g5, rfl, fin⟩
    · refine thnF (T.item (X.blk s3 H3 scope ce fp) rfl rfl rfl hc i [] s5 _ H5 (fun _ _ => False) I5 own5 st5 go) fun _ s6 ⟨u, hr, h6⟩ => ?_
      subst hr
      refine thnF h6 fun _ s7 ⟨x, H7, I7, r7, y7, st7, n7⟩ => ?_
      have I7' := I7.pinned (fp_block (Y := X.blk s3 H3 scope ce fp) (fp := fp) (fun _ hb => hb) rfl I7 n7) (T.obj _ _ st7)
      refine thnF (pg.run _ s7 _ H7 x u _ I7' r7 (step x H7 y7)) fun _ s8 ⟨σ8, H8, I8, wiped, q8⟩ => thnF (pt.run _ s8 σ8 H8 _ I8 q8) fun b s9 ⟨H9, I9, q9⟩ => ?_
      have again : ∀ {s' : Shared} {H' : Hp}, Inv (X.blk s3 H3 scope ce fp) ([] ++ pinsAt fp s7.heap) σ8 H' s' → Nx H' → ∃ m, m < n ∧ ∃ i H', Inv (X.blk s3 H3 scope ce fp) [] (wipe σ (own.map (·.2))) H' s' ∧ tn i s'.heap ∧ (∀ b ∈ fp, H' b = none) ∧ W i m H' := fun {s' H'} I' nx => by
        obtain ⟨m', lt, w'⟩ := next H' nx
        have pinned : ∀ b ∈ fp, ∀ o, s7.heap.get? b = some o → s'.heap.get? b = some o ∧ H' b = none := fun b hb o e =>
          have z := I'.pin (b, o) (List.mem_append_right _ (List.mem_append_right _ (mem_pinsAt hb e)))
          ⟨z.1, z.2.1⟩
        refine ⟨m', lt, i + 1, H', (I'.unpinned (pins := [])).weak (by rw [← wiped, wipe_length]) (fun j v e => (wipe_some (by rw [wiped]; exact e)).1), T.keep _ _ _ st7 fun b hb o e => (pinned b hb o e).1, fun b hb => ?_, w'⟩
        obtain ⟨o, e, _⟩ := T.obj _ _ st7 b hb
        exact (pinned b hb o e).2
      cases b with
      | false =>
        simp only [Bool.false_eq_true, if_false] at q9 ⊢
        exact again I9 q9
      | true =>
        simp only [if_true] at q9 ⊢
        refine thnF (pe.run _ s9 σ8 H9 _ I9 q9) fun z s10 ⟨_, H10, I10, r10, c, S, k, ey, hD, room, nx⟩ => ?_
        subst ey
        exact thnF (mt_sadd (X := X.blk s3 H3 scope ce fp) _ s10 σ8 H10 (.ref D) [.int c] (.ref D) [z] (fun _ H' => Nx H') I10 rfl (.cons r10 .nil) ⟨D, c, S, k, rfl, rfl, hD, room, nx⟩) fun _ s11 ⟨_, H11, I11, _, nx'⟩ => again I11 nx'
  exact PpSet.codeAny_compStart_set loop (T.self X.A 0 _ _ _ st4 loop)
end
/-- over a tuple that the block leaves as it is -/
theorem scI_tup {w : World} {K : PySem.W.Frag} {a : Addr} {xs : List V} {g : TG} {tt : TT} {te : TE} {vs : List Nat} {σ : L2.St} {H1 : Hp} {D : Addr} {Qd : Hp → Prop} (Pv : Nat → Hp → Prop) (h0 : Pv 0 (upd H1 D (SetO w D (fun _ => false) 0))) (stays : ∀ i H, Pv i H → SqT K H a xs)
    (one : ∀ i x H, xs[i]? = some x → Pv i H → g x (wipe σ vs) H fun σ2 H2 => wipe σ2 vs = wipe σ vs ∧ tt σ2 H2 fun b H3 =>
      if b = true then te σ2 H3 fun y H4 => ∃ (c : Int) (S : Int → Bool) (n : Nat), y = .int c ∧ H4 D = some (SetO w D S n) ∧ n + 1 < scanBound ∧ Pv (i + 1) (upd H4 D (SetO w D (fun j => S j || decide (j = c)) (if S c = true then n else n + 1))) else Pv (i + 1) H3)
    (fin : ∀ H, Pv xs.length H → Qd H) :
    ∃ W : Nat → Nat → Hp → Prop, (∃ m, W 0 m (upd H1 D (SetO w D (fun _ => false) 0))) ∧ ∀ i m H, W i m H → ((Itt K a).stop i H ∧ Qd H) ∨
      ((Itt K a).go i H ∧ ∃ Nx : Hp → Prop, (∀ H', Nx H' → ∃ m', m' < m ∧ W (i + 1) m' H') ∧ ∀ x H', (Itt K a).yld i H x H' → g x (wipe σ vs) H' fun σ2 H2 => wipe σ2 vs = wipe σ vs ∧ tt σ2 H2 fun b H3 =>
        if b = true then te σ2 H3 fun y H4 => ∃ (c : Int) (S : Int → Bool) (n : Nat), y = .int c ∧ H4 D = some (SetO w D S n) ∧ n + 1 < scanBound ∧ Nx (upd H4 D (SetO w D (fun j => S j || decide (j = c)) (if S c = true then n else n + 1))) else Nx H3) := by
  refine ⟨fun i m H => i + m = xs.length ∧ Pv i H, ⟨xs.length, Nat.zero_add _, h0⟩, fun i m H ⟨sum, p⟩ => ?_⟩
  have q := stays i H p
  cases m with
  | zero =>
    have e : i = xs.length := by omega
    subst e
    exact .inl ⟨⟨xs, q, Nat.le_refl _⟩, fin H p⟩
  | succ m =>
    have lt : i < xs.length := by omega
    refine .inr ⟨⟨xs, xs[i], q, List.getElem?_eq_getElem lt⟩, Pv (i + 1), fun H' p' => ⟨m, Nat.lt_succ_self m, by omega, p'⟩, fun x H' y => ?_⟩
    obtain ⟨e, y⟩ := y
    subst e
    exact one i x _ (y xs q) p
theorem sorted_ext : ∀ (l m : List Int), l.Pairwise (· < ·) → m.Pairwise (· < ·) → (∀ x, x ∈ l ↔ x ∈ m) → l = m
  | [], [], _, _, _ => rfl
  | [], b :: m, _, _, h => absurd ((h b).mpr List.mem_cons_self) List.not_mem_nil
  | a :: l, [], _, _, h => absurd ((h a).mp List.mem_cons_self) List.not_mem_nil
  | a :: l, b :: m, hl, hm, h => by
    obtain ⟨l1, l2⟩ := List.pairwise_cons.mp hl
    obtain ⟨m1, m2⟩ := List.pairwise_cons.mp hm
    have e : a = b := by
      rcases List.mem_cons.mp ((h a).mp List.mem_cons_self) with e | e
      · exact e
      · rcases List.mem_cons.mp ((h b).mpr List.mem_cons_self) with f | f
        · exact f.symm
        · have := m1 a e
          have := l1 b f
          omega
    subst e
    congr 1
    refine sorted_ext l m l2 m2 fun x => ⟨fun hx => ?_, fun hx => ?_⟩
    · rcases List.mem_cons.mp ((h x).mp (List.mem_cons_of_mem _ hx)) with e | e
      · have := l1 x hx
        omega
      · exact e
    · rcases List.mem_cons.mp ((h x).mpr (List.mem_cons_of_mem _ hx)) with e | e
      · have := m1 x hx
        omega
      · exact e
theorem upto (n : Nat) : ((List.range n).map fun k => (0 : Int) + (k : Nat)).Pairwise (· < ·) := by
  rw [List.pairwise_map]
  exact List.Pairwise.imp (fun h => by omega) (List.pairwise_lt_range (n := n))
/-! ### a book as data -/
theorem book_dp {K : PySem.W.Frag} {H : Hp} : ∀ rs : List Row, (∀ q ∈ rs, Rw 2 H q ∧ Fact H q) → ∃ ds, DpAll K H (rs.map fun q => V.ref q.a) ds ∧ ds.length = rs.length ∧ PyData.canLayAll0 ds = true ∧ PyData.depthAll ds ≤ 2
  | [], _ => ⟨[], .nil, rfl, rfl, Nat.zero_le _⟩
  | q :: rs, h => by
    obtain ⟨ds, h1, h2, h3, h4⟩ := book_dp rs fun z hz => h z (List.mem_cons_of_mem _ hz)
    obtain ⟨⟨qn, hq⟩, _, _, _, v, hv, e, w, x, rfl, he, hw, _⟩ := h q List.mem_cons_self
    obtain ⟨a, b, en⟩ := len2 qn
    rw [en, hv] at hq
    have hd : Dp K H (.ref q.a) (.tuple [.int a, .int b, .int q.s, .tuple [.str w, .int x]]) := .tup (SqT.of hq) (.cons (.int a) (.cons (.int b) (.cons (.int q.s) (.cons (.tup (SqT.of he) (.cons (.str w) (.cons (.int x) .nil))) .nil))))
    refine ⟨_ :: ds, .cons hd h1, by rw [List.length_cons, List.length_cons, h2], ?_, ?_⟩
    · show (PyData.canLay0 (.tuple [.int a, .int b, .int q.s, .tuple [.str w, .int x]]) && PyData.canLayAll0 ds) = true
      rw [h3, Bool.and_true]
      have e1 : PyData.canLay0 (.tuple [.int a, .int b, .int q.s, .tuple [.str w, .int x]]) = PyData.canLay0 (.tuple [.int 0, .int 0, .int 0, .tuple [.str w, .int 0]]) := rfl
      rw [e1]
      rcases hw with rfl | rfl
      · decide +kernel
      · decide +kernel
    · show max (PyData.depth (.tuple [.int a, .int b, .int q.s, .tuple [.str w, .int x]])) (PyData.depthAll ds) ≤ 2
      have e1 : PyData.depth (.tuple [.int a, .int b, .int q.s, .tuple [.str w, .int x]]) = 2 := rfl
      rw [e1]
      omega
end WL

set_option Elab.async false
set_option linter.all false
set_option maxRecDepth 100000
namespace WL
open PySem PySem.Spec PyProof.Rows L2
def topS (i : Nat) : Stmt := PySem.Challenge.pw_whoselaw_k06_what_stands.main.body.getD i (.Pass ⟨0, 0, 0, 0⟩)
abbrev st_stands : Stmt := topS 1
theorem sc_stands : FnScope ["book", "pair", "day", "found", "fact"] ["book", "pair", "day"] (defScope st_stands) := ⟨rfl, rfl, rfl, by decide +kernel, rfl, by decide +kernel, by decide +kernel⟩
abbrev st_stood_with : Stmt := topS 2
theorem sc_stood_with : FnScope ["book", "role", "one", "day", "ones", "fact", "who"] ["book", "role", "one", "day"] (defScope st_stood_with) := ⟨rfl, rfl, rfl, by decide +kernel, rfl, by decide +kernel, by decide +kernel⟩
abbrev st_stands_with : Stmt := topS 3
theorem sc_stands_with : FnScope ["book", "pair", "one", "day", "fact"] ["book", "pair", "one", "day"] (defScope st_stands_with) := ⟨rfl, rfl, rfl, by decide +kernel, rfl, by decide +kernel, by decide +kernel⟩
abbrev st__law_deck : Stmt := topS 5
theorem sc__law_deck : FnScope ["_law_script", "_law_digits", "_law_cells", "_law_cell"] ["_law_script"] (defScope st__law_deck) := ⟨rfl, rfl, rfl, by decide +kernel, rfl, by decide +kernel, by decide +kernel⟩
abbrev st__law_next : Stmt := topS 6
theorem sc__law_next : FnScope ["_law_deck_here", "_law_at_here", "_law_primes", "_law_cell", "_law_mixed"] ["_law_deck_here"] (defScope st__law_next) := ⟨rfl, rfl, rfl, by decide +kernel, rfl, by decide +kernel, by decide +kernel⟩
abbrev st__law_span : Stmt := topS 7
theorem sc__law_span : FnScope ["_law_deck_here"] ["_law_deck_here"] (defScope st__law_span) := ⟨rfl, rfl, rfl, by decide +kernel, rfl, by decide +kernel, by decide +kernel⟩
abbrev st__law_at : Stmt := topS 8
theorem sc__law_at : FnScope ["_law_deck_here", "_law_many", "_law_who", "_law_ones", "_law_number"] ["_law_deck_here", "_law_many", "_law_who", "_law_ones"] (defScope st__law_at) := ⟨rfl, rfl, rfl, by decide +kernel, rfl, by decide +kernel, by decide +kernel⟩
abbrev st__law_book : Stmt := topS 9
theorem sc__law_book : FnScope ["_law_deck_here", "_law_many", "_law_span_here", "_law_ones", "_law_most", "_law_kept", "_law_k", "_law_number", "_law_who", "_law_day", "_law_key"] ["_law_deck_here", "_law_many", "_law_span_here", "_law_ones", "_law_most"] (defScope st__law_book) := ⟨rfl, rfl, rfl, by decide +kernel, rfl, by decide +kernel, by decide +kernel⟩
abbrev st__law_in_force : Stmt := topS 10
theorem sc__law_in_force : FnScope ["_law_rows", "_law_begin", "_law_day", "_law_found", "_law_row"] ["_law_rows", "_law_begin", "_law_day"] (defScope st__law_in_force) := ⟨rfl, rfl, rfl, by decide +kernel, rfl, by decide +kernel, by decide +kernel⟩
abbrev st__law_stands : Stmt := topS 11
theorem sc__law_stands : FnScope ["_law_book_here", "_law_who", "_law_role", "_law_day"] ["_law_book_here", "_law_who", "_law_role", "_law_day"] (defScope st__law_stands) := ⟨rfl, rfl, rfl, by decide +kernel, rfl, by decide +kernel, by decide +kernel⟩
abbrev st__law_same : Stmt := topS 12
theorem sc__law_same : FnScope ["_law_found", "_law_due", "_law_one", "_law_other"] ["_law_found", "_law_due"] (defScope st__law_same) := ⟨rfl, rfl, rfl, by decide +kernel, rfl, by decide +kernel, by decide +kernel⟩
abbrev st__law_with : Stmt := topS 13
theorem sc__law_with : FnScope ["_law_book_here", "_law_role", "_law_one", "_law_day", "_law_found", "_law_who", "_law_fact"] ["_law_book_here", "_law_role", "_law_one", "_law_day"] (defScope st__law_with) := ⟨rfl, rfl, rfl, by decide +kernel, rfl, by decide +kernel, by decide +kernel⟩
abbrev st_law : Stmt := topS 14
theorem sc_law : FnScope ["_law_script", "_law_deck_here", "_law_many", "_law_span_here", "_law_ones", "_law_book_here", "_law_asked", "_law_k", "_law_number", "_law_pair", "_law_day", "_law_fact"] ["_law_script"] (defScope st_law) := ⟨rfl, rfl, rfl, by decide +kernel, rfl, by decide +kernel, by decide +kernel⟩
end WL

set_option Elab.async false
set_option linter.all false
set_option maxRecDepth 100000
namespace WL
open PySem PySem.Spec PyProof.Rows L2
section
variable {P : Program} {w : World} {K : PySem.W.Frag} {mg : Str → Option Value} {base : Heap}
def spForce (K : PySem.W.Frag) : Sp := fun vs H Q _ => ∃ (r b : Addr) (t : Int) (bs : List Int) (rs : List Row), vs = [.ref r, .ref b, .int t] ∧ Rows K bs.length H r rs ∧ SqT K H b (bs.map V.int) ∧
  ∀ H', Same H H' → Q (optV (pick (hit bs t) rs)) H'
theorem ok_in_force {f : Addr} {fd : FuncData} (B : Bt mg) (D : Df K mg "_law_in_force" st__law_in_force f fd ["_law_rows", "_law_begin", "_law_day"]) : FnOk P w K mg base CX0 1 f fd ["_law_rows", "_law_begin", "_law_day"] (spForce K) := by
  refine D.F.ok sc__law_in_force (fun vs H Q E h => ?_) (fun cdv A outer s H vs Q E hr h => ?_)
  · obtain ⟨r, b, t, bs, rs, rfl, _⟩ := h
    rfl
  · obtain ⟨r, b, t, bs, rs, rfl, ⟨hR, hw⟩, hB, q⟩ := h
    refine ⟨_, (pss_cons (ps_set (i := 3) sc__law_in_force.nd rfl (.inl rfl) pe_non)
      (pss_cons (ps_for PassesOwn.never rfl (pi_tup (pv 0)) (pg_name (i := 4) sc__law_in_force.nd rfl (.inl rfl))
      (pss_one (ps_if (PW.pt (pw_and (pt_cmpR (op_eqD hr.units) (pe_slice sl_tup (pv 4) po_none (po_some (pe_callB call_len_seq (by rfl) B.len (by decide +kernel) (pa_cons (pv 1) pa_nil)))) (pv 1) (nomark _)) (pw_and1 (pt_cmpR op_le (pe_ix ix_tup (pv 4) (pe_callB call_len_seq (by rfl) B.len (by decide +kernel) (pa_cons (pv 1) pa_nil)) (fun _ _ => rfl)) (pv 2) (nomark _))))) (pss_one (ps_set (i := 3) sc__law_in_force.nd rfl (.inl rfl) (pv 4))) pss_nil)))
      (pss_one (ps_ret (pv 3))))), ?_⟩
    refine ⟨_, rfl, r, rfl, ⟨_, SqT.of hR⟩, for_tup (K := K) (xs := rs.map fun q => V.ref q.a) (fun i σ H' => ∃ y, σ = [some (.ref r), some (.ref b), some (.int t), some (optV (pick (hit bs t) (rs.take i))), y] ∧ Same H H') ⟨none, rfl, Same.refl H⟩
      (fun i σ H' _ ⟨y, _, e⟩ => SqT.of (e _ _ hR)) (fun i x σ H' hx ⟨y, e1, sm⟩ => ?_) (fun σ H' ⟨y, e1, sm⟩ => ?_)⟩
    · subst e1
      rw [List.getElem?_map] at hx
      obtain ⟨z, hz, rfl⟩ := Option.map_eq_some_iff.mp hx
      obtain ⟨zn, hl⟩ := hw z (List.mem_of_getElem? hz)
      have hl' := sm _ _ hl
      have pt := pick_take (hit bs t) hz
      have en : ((bs.map V.int).length : Int) = ((z.ns.map V.int).length : Nat) := by rw [List.length_map, List.length_map, zn]
      refine ⟨.ref z.a, rfl, .ref b, rfl, b, _, rfl, .inr (sameT sm hB), _, rfl, z.a, _, rfl, SqT.of hl', by rw [en]; exact notwhole, fun p np => ?_⟩
      rw [en, cut_to]
      have sm2 := sm.trans (same_upd (o := .tup (z.ns.map V.int)) np)
      refine ⟨_, rfl, .tuple (z.ns.map PyData.int), .tuple (bs.map PyData.int), .tup (SqT.of upd_same) (dp_ints _), .tup (sameT sm2 hB) (dp_ints _), shaped_ints _, shaped_ints _, _, rfl, ?_⟩
      rw [show PyData.eqv (.tuple (z.ns.map PyData.int)) (.tuple (bs.map PyData.int)) = decide (z.ns = bs) from eqvAll_ints _ _]
      refine ite2 (fun e => ?_) (fun e => ?_)
      · refine ⟨.ref z.a, rfl, .ref b, rfl, b, _, rfl, .inr (sameT sm2 hB), z.a, _, _, .int z.s, rfl, rfl, SqT.of (sm2 _ _ hl), ?_, _, rfl, _, _, rfl, rfl, _, rfl, ite2 (fun e' => ?_) (fun e' => ?_)⟩
        · rw [en]
          exact atI_nat (by rw [List.getElem?_append_right (Nat.le_refl _), Nat.sub_self]; rfl)
        · refine ⟨_, rfl, some (.ref z.a), ?_, sm2⟩
          have k2 : hit bs t z = true := by unfold hit; rw [e, e']; rfl
          rw [pt, if_pos k2]
          rfl
        · refine ⟨some (.ref z.a), ?_, sm2⟩
          have k2 : ¬ hit bs t z = true := fun c => e' (Bool.and_eq_true_iff.mp c).2
          rw [pt, if_neg k2]
          rfl
      · refine ite2 (fun c => nomatch c) (fun _ => ⟨some (.ref z.a), ?_, sm2⟩)
        have k2 : ¬ hit bs t z = true := fun c => e (Bool.and_eq_true_iff.mp c).1
        rw [pt, if_neg k2]
        rfl
    · subst e1
      rw [List.length_map, List.take_length]
      exact ⟨_, rfl, q H' sm⟩

/-! ### next -/
def spNext : Sp := fun vs H Q _ => ∃ (a : Addr) (d : Addr × Addr) (N : Nat), vs = [.ref a] ∧ Dk H a d N ∧ N ≤ 1000000 ∧ ∀ (r : Int) H', Kp a d H H' → Dk H' a d (N + 1) → 0 ≤ r → r < MM → Q (.int r) H'
theorem ok_next {f : Addr} {fd : FuncData} (B : Bt mg) (D : Df K mg "_law_next" st__law_next f fd ["_law_deck_here"]) : FnOk P w K mg base CX0 1 f fd ["_law_deck_here"] spNext := by
  refine D.F.ok sc__law_next (fun vs H Q E h => ?_) (fun cdv A outer s H vs Q E hr h => ?_)
  · obtain ⟨a, d, N, rfl, _⟩ := h
    rfl
  · obtain ⟨a, d, N, rfl, ⟨ds, cs, n, hA, hD, hC, nad, nca, ncd, hn, bds, bcs, pcs, lcs⟩, hN, q⟩ := h
    refine ⟨_, (pss_cons (ps_if (pt_cmpR (op_neD hr.units) (pe_ix ix_list (pv 0) pe_int (fun _ _ => rfl)) (pe_lst pa_nil) (nomark _)) (pss_one (ps_ret (pe_bm PySem.F.plainAttrs_list PySem.F.slot_list_pop PySem.F.type_list_pop mt_popAt (pe_ix ix_list (pv 0) pe_int (fun _ _ => rfl)) (pa_cons pe_int pa_nil)))) pss_nil)
      (pss_cons (ps_set (i := 1) sc__law_next.nd rfl (.inl rfl) (pe_ix ix_list (pv 0) pe_int (fun _ _ => rfl)))
      (pss_cons (ps_asg (pe_op op_add (pv 1) pe_int) (pg_sub (pv 0) pe_int set_list))
      (pss_cons (ps_set (i := 2) sc__law_next.nd rfl (.inl rfl) (pe_tup (pa_cons pe_int (pa_cons pe_int (pa_cons pe_int (pa_cons pe_int (pa_cons pe_int (pa_cons pe_int (pa_cons pe_int (pa_cons pe_int (pa_cons pe_int (pa_cons pe_int (pa_cons pe_int (pa_cons pe_int pa_nil))))))))))))))
      (pss_cons (ps_set (i := 3) sc__law_next.nd rfl (.inl rfl) (pe_op op_add (pe_ix ix_list (pe_ix ix_list (pv 0) pe_int (fun _ _ => rfl)) (pe_op op_mod (pe_op op_add (pv 1) pe_int) (pe_callB call_len_seq (by rfl) B.len (by decide +kernel) (pa_cons (pe_ix ix_list (pv 0) pe_int (fun _ _ => rfl)) pa_nil))) (fun _ _ => rfl)) (pe_op op_mul pe_int (pv 1))))
      (pss_cons (ps_set (i := 4) sc__law_next.nd rfl (.inl rfl) (pe_op op_mod (pe_op op_pow (pe_op op_add (pv 3) (pe_op op_mul (pe_ix ix_tup (pv 2) (pe_op op_mod (pv 1) pe_int) (fun _ _ => rfl)) (pe_op op_add (pv 1) pe_int))) pe_int) pe_int))
      (pss_one (ps_ret (pe_op op_mod (pe_op op_add (pv 4) (pe_op op_mul (pe_ix ix_tup (pv 2) (pe_op op_mod (pe_op op_add (pv 1) pe_int) pe_int) (fun _ _ => rfl)) (pv 3))) pe_int))))))))), ?_⟩
    refine ⟨.ref a, rfl, a, _, 0, .ref d.1, rfl, rfl, SqL.of hA, atI_nat (j := 0) rfl, Nat.zero_le _, fun e ne => ?_⟩
    have s1 : Same H (upd H e (.lst [])) := same_upd ne
    have hA1 := s1 _ _ hA
    have hD1 := s1 _ _ hD
    have hC1 := s1 _ _ hC
    refine ⟨.list (ds.map PyData.int), .list (([] : List Int).map PyData.int), .lst (SqL.of hD1) (dp_ints _), .lst (SqL.of upd_same) .nil, shaped_intsL _, shaped_intsL [], _, rfl, ?_⟩
    rw [show PyData.eqv (.list (ds.map PyData.int)) (.list (([] : List Int).map PyData.int)) = decide (ds = []) from eqvAll_ints _ _]
    cases ds with
    | cons x r =>
      refine iteNT (fun z => nomatch z) ?_
      refine ⟨.ref a, rfl, a, _, 0, .ref d.1, rfl, rfl, SqL.of hA1, atI_nat (j := 0) rfl, .inl ⟨rfl, _, SqL.of hD1⟩, d.1, _, 0, 0, .int x, rfl, rfl, hD1, by decide, by decide, (ixN_seq (by unfold ixN; simp)).1, rfl, ?_⟩
      obtain ⟨b0, b1⟩ := bds x List.mem_cons_self
      refine q x _ (fun b o n1 n2 eb => ?_) ⟨r, cs, n, ?_, upd_same, ?_, nad, nca, ncd, by omega, fun y hy => bds y (List.mem_cons_of_mem _ hy), bcs, pcs, lcs⟩ b0 b1
      · rw [upd_ne n2]
        exact s1 _ _ eb
      · rw [upd_ne nad]
        exact hA1
      · rw [upd_ne ncd]
        exact hC1
    | nil =>
      refine iteNS rfl ?_
      refine ⟨.ref a, rfl, a, _, 2, .int n, rfl, rfl, SqL.of hA1, atI_nat (j := 2) rfl, ?_⟩
      refine ⟨_, rfl, _, _, rfl, rfl, _, rfl, a, _, 2, 2, rfl, rfl, hA1, rfl, ?_⟩
      refine ⟨by decide, fun t nt => ?_⟩
      have hA2 : upd (upd H e (.lst [])) a (.lst [.ref d.1, .ref d.2, .int ((n : Int) + 1)]) a = some (.lst [.ref d.1, .ref d.2, .int ((n : Int) + 1)]) := upd_same
      have hC2 : upd (upd H e (.lst [])) a (.lst [.ref d.1, .ref d.2, .int ((n : Int) + 1)]) d.2 = some (.lst (cs.map V.int)) := by rw [upd_ne nca]; exact hC1
      have hD2 : upd (upd H e (.lst [])) a (.lst [.ref d.1, .ref d.2, .int ((n : Int) + 1)]) d.1 = some (.lst (([] : List Int).map V.int)) := by rw [upd_ne nad.symm]; exact hD1
      have kp : ∀ b o, b ≠ a → b ≠ d.1 → H b = some o → upd (upd H e (.lst [])) a (.lst [.ref d.1, .ref d.2, .int ((n : Int) + 1)]) b = some o := fun b o n1 n2 eb => by rw [upd_ne n1]; exact s1 _ _ eb
      have s3 := same_upd (o := .tup (primes.map V.int)) nt
      have hA3 := s3 _ _ hA2
      have hC3 := s3 _ _ hC2
      have hD3 := s3 _ _ hD2
      have hT : upd (upd (upd H e (.lst [])) a (.lst [.ref d.1, .ref d.2, .int ((n : Int) + 1)])) t (.tup (primes.map V.int)) t = some (.tup (primes.map V.int)) := upd_same
      have lc : ((cs.map V.int).length : Int) = cs.length := by rw [List.length_map]
      have hm := emod_lt (r := (n : Int) + 1) (m := ((cs.map V.int).length : Int)) (by omega)
      obtain ⟨v, hv, vm⟩ := atI_some (xs := cs.map V.int) hm.1 hm.2
      obtain ⟨cv, cm, rfl⟩ := List.mem_map.mp vm
      obtain ⟨c0, c1⟩ := bcs cv cm
      have c1 : cv < 2147483629 := c1
      obtain ⟨p1, hp1, a1, b1⟩ := prime_at (i := (n : Int) % 12) (emod_lt (by decide)).1 (emod_lt (by decide)).2
      obtain ⟨p2, hp2, a2, b2⟩ := prime_at (i := ((n : Int) + 5) % 12) (emod_lt (by decide)).1 (emod_lt (by decide)).2
      have hn' : (n : Int) ≤ 1000000 := by omega
      have m1 := mul_bd a1 b1 (show (0 : Int) ≤ (n : Int) + 1 by omega) (show (n : Int) + 1 ≤ 1000001 by omega)
      refine ⟨.ref a, rfl, a, _, 1, .ref d.2, rfl, rfl, SqL.of hA3, atI_nat (j := 1) rfl, _, rfl, _, _, rfl, rfl, .ref a, rfl, a, _, 1, .ref d.2, rfl, rfl, SqL.of hA3, atI_nat (j := 1) rfl, d.2, _, rfl, .inl (SqL.of hC3), _, _, rfl, rfl, (by omega), d.2, _, _, _, rfl, rfl, SqL.of hC3, hv, _, rfl, _, _, rfl, rfl, .inl ⟨by decide, by decide⟩, _, _, rfl, rfl, ?_⟩
      refine ⟨_, rfl, _, rfl, _, rfl, _, _, rfl, rfl, (show (0 : Int) < 12 by decide), t, _, _, _, rfl, rfl, SqT.of hT, hp1, _, rfl, _, _, rfl, rfl, _, _, rfl, rfl, .inl ⟨by omega, by omega⟩, _, _, rfl, rfl, _, _, rfl, rfl, ⟨by decide, by decide, ?_⟩, _, _, rfl, rfl, (show (0 : Int) < 2147483647 by decide), ?_⟩
      · show (cv + 7 * (n : Int) + p1 * ((n : Int) + 1)).natAbs < 2 ^ 64
        omega
      refine ⟨_, rfl, _, rfl, _, rfl, _, _, rfl, rfl, _, _, rfl, rfl, (show (0 : Int) < 12 by decide), t, _, _, _, rfl, rfl, SqT.of hT, hp2, _, rfl, _, _, rfl, rfl, .inl ⟨by omega, by omega⟩, _, _, rfl, rfl, _, _, rfl, rfl, (show (0 : Int) < 2147483629 by decide), ?_⟩
      have fin := emod_lt (r := (cv + 7 * (n : Int) + p1 * ((n : Int) + 1)) ^ (5 : Int).toNat % 2147483647 + p2 * (cv + 7 * (n : Int))) (m := MM) (by decide)
      refine q _ _ (fun b o n1 n2 eb => s3 _ _ (kp b o n1 n2 eb)) ⟨[], cs, n + 1, hA3, hD3, hC3, nad, nca, ncd, by omega, (fun x hx => absurd hx List.not_mem_nil), bcs, pcs, lcs⟩ fin.1 fin.2
def spSpan : Sp := fun vs H Q _ => ∃ (a : Addr) (d : Addr × Addr) (N : Nat), vs = [.ref a] ∧ Dk H a d N ∧ N ≤ 1000000 ∧ ∀ (r : Int) H', Kp a d H H' → Dk H' a d (N + 1) → 0 < r → r ≤ 1000000001 → Q (.int r) H'
theorem ok_span {f f1 : Addr} {fd fd1 : FuncData} (B : Bt mg) (D : Df K mg "_law_span" st__law_span f fd ["_law_deck_here"]) (D__law_next : Df K mg "_law_next" st__law_next f1 fd1 ["_law_deck_here"])
    (G__law_next : FnOk P w K mg base CX0 1 f1 fd1 ["_law_deck_here"] spNext) : FnOk P w K mg base CX0 2 f fd ["_law_deck_here"] spSpan := by
  refine D.F.ok sc__law_span (fun vs H Q E h => ?_) (fun cdv A outer s H vs Q E hr h => ?_)
  · obtain ⟨a, d, N, rfl, _⟩ := h
    rfl
  · obtain ⟨a, d, N, rfl, hK, hN, q⟩ := h
    refine ⟨_, (pss_one (ps_ret (pe_ix ix_list (pe_lst (pa_cons pe_int (pa_cons pe_int (pa_cons pe_int pa_nil)))) (pe_op op_mod (pe_call G__law_next (hr.mono (by decide)) (by rfl) D__law_next.g D__law_next.F.kp D__law_next.b .nil pass0 (pa_cons (pv 0) pa_nil)) pe_int) (fun _ _ => rfl)))), ?_⟩
    refine ⟨by decide, fun l nl => ?_⟩
    have s1 : Same H (upd H l (.lst [.int 5, .int 12, .int 1000000001])) := same_upd nl
    refine ⟨_, rfl, a, d, N, rfl, hK.same s1, hN, fun r H' kp hK' r0 r1 => ?_⟩
    have hm := emod_lt (r := r) (m := 3) (by decide)
    obtain ⟨v, hv, vm⟩ := atI_some (xs := ([5, 12, 1000000001] : List Int).map V.int) hm.1 hm.2
    obtain ⟨x, xm, rfl⟩ := List.mem_map.mp vm
    have hx : ∀ x ∈ ([5, 12, 1000000001] : List Int), 0 < x ∧ x ≤ 1000000001 := by decide
    have nn := hK.nn nl
    refine ⟨_, _, rfl, rfl, (show (0 : Int) < 3 by decide), l, _, _, _, rfl, rfl, SqL.of (kp l _ nn.1 nn.2.1 upd_same), hv, q _ _ ((Kp.of s1).trans kp) hK' (hx x xm).1 (hx x xm).2⟩
end
end WL

set_option Elab.async false
set_option linter.all false
set_option maxRecDepth 100000
namespace WL
open PySem PySem.Spec PyProof.Rows L2
theorem cut_ints (ns : List Int) (lo hi : Option Int) : ∃ ms : List Int, cutV (ns.map V.int) lo hi = ms.map V.int ∧ ms.length ≤ ns.length := by
  unfold cutV
  rw [← List.map_drop, ← List.map_take]
  exact ⟨_, rfl, by rw [List.length_take, List.length_drop]; omega⟩
section
variable {P : Program} {w : World} {K : PySem.W.Frag} {mg : Str → Option Value} {base : Heap}
def spDeck (K : PySem.W.Frag) : Sp := fun vs H Q _ => ∃ (s : Addr) (ns : List Int), vs = [.ref s] ∧ SqL K H s (ns.map V.int) ∧ ns.length ≤ 63 ∧ ∀ a d H', Same H H' → Dk H' a d 0 → Q (.ref a) H'
theorem ok_deck {f : Addr} {fd : FuncData} (B : Bt mg) (D : Df K mg "_law_deck" st__law_deck f fd ["_law_script"]) : FnOk P w K mg base CX0 1 f fd ["_law_script"] (spDeck K) := by
  refine D.F.ok sc__law_deck (fun vs H Q E h => ?_) (fun cdv A outer s H vs Q E hr h => ?_)
  · obtain ⟨a, d, rfl, _⟩ := h
    rfl
  · obtain ⟨sc, ns, rfl, hS, hn, q⟩ := h
    refine ⟨_, (pss_cons (ps_set (i := 1) sc__law_deck.nd rfl (.inl rfl) (pe_lst pa_nil))
      (pss_cons (ps_set (i := 2) sc__law_deck.nd rfl (.inl rfl) (pe_lst (pa_cons (pe_callB call_len_seq (by rfl) B.len (by decide +kernel) (pa_cons (pv 0) pa_nil)) pa_nil)))
      (pss_cons (ps_for PassesOwn.never rfl (pi_list (pe_slice sl_list (pv 0) po_none (po_some pe_int))) (pg_name (i := 3) sc__law_deck.nd rfl (.inl rfl))
      (pss_cons (ps_set (i := 3) sc__law_deck.nd rfl (.inl rfl) (pe_callB call_abs (by rfl) B.abs (by decide +kernel) (pa_cons (pv 3) pa_nil)))
      (pss_cons (ps_expr (pe_bm PySem.F.plainAttrs_list PySem.F.slot_list_append PySem.F.type_list_append mt_append (pv 2) (pa_cons (pe_op op_mod (pv 3) pe_int) pa_nil)))
      (pss_one (ps_while PassesOwn.never (PW.pt (pw_and (pt_cmpR op_ge (pv 3) (pe_op op_pow pe_int pe_int) (nomark _)) (pw_and1 (pt_cmpR op_lt (pe_callB call_len_seq (by rfl) B.len (by decide +kernel) (pa_cons (pv 1) pa_nil)) pe_int (nomark _)))))
      (pss_cons (ps_expr (pe_bm PySem.F.plainAttrs_list PySem.F.slot_list_append PySem.F.type_list_append mt_append (pv 1) (pa_cons (pe_op op_mod (pv 3) pe_int) pa_nil)))
      (pss_one (ps_set (i := 3) sc__law_deck.nd rfl (.inl rfl) (pe_op op_fdivW (pv 3) pe_int)))))))))
      (pss_one (ps_ret (pe_lst (pa_cons (pv 1) (pa_cons (pv 2) (pa_cons pe_int pa_nil))))))))), ?_⟩
    refine ⟨Nat.zero_le _, fun g ng => ?_⟩
    have s1 : Same H (upd H g (.lst [])) := same_upd ng
    refine ⟨_, rfl, sc, _, rfl, .inl (s1.seq hS), (show 1 ≤ sizeLine by decide), fun c nc => ?_⟩
    have s2 := s1.trans (same_upd (o := .lst [.int ((ns.map V.int).length : Nat)]) nc)
    have ngc : g ≠ c := fun z => by
      rw [← z, upd_same] at nc
      cases nc
    obtain ⟨ms, em, lm⟩ := cut_ints ns none (some 63)
    refine ⟨.ref sc, rfl, 63, rfl, sc, _, rfl, s2.seq hS, fun x nx => ?_⟩
    rw [em]
    have s3 := s2.trans (same_upd (o := .lst (ms.map V.int)) nx)
    have nxg : g ≠ x := fun z => by
      rw [← z, upd_ne ngc, upd_same] at nx
      cases nx
    have nxc : c ≠ x := fun z => by
      rw [← z, upd_same] at nx
      cases nx
    refine ⟨x, rfl, ⟨_, SqL.of upd_same⟩, for_list (K := K) (xs := ms.map V.int) (fun i σ H' => ∃ (y : Option V) (ds cs : List Int), σ = [some (.ref sc), some (.ref g), some (.ref c), y] ∧ Same H H' ∧ H' g = some (.lst (ds.map V.int)) ∧ H' c = some (.lst (cs.map V.int)) ∧ H' x = some (.lst (ms.map V.int)) ∧
        ds.length ≤ 900 ∧ cs.length = i + 1 ∧ (∀ x ∈ ds, 0 ≤ x ∧ x < MM) ∧ (∀ x ∈ cs, 0 ≤ x ∧ x < MM))
      ⟨none, [], [(ns.length : Int)], rfl, s3, ?_, ?_, upd_same, by decide, rfl, (fun x hx => absurd hx List.not_mem_nil), ?_⟩ (fun i σ H' _ ⟨_, _, _, _, _, _, _, hx, _⟩ => SqL.of hx) (fun i v σ H' hv hP => ?_) (fun σ H' hP => ?_)⟩
    · rw [upd_ne nxg, upd_ne ngc, upd_same]
      rfl
    · rw [upd_ne nxc, upd_same, List.length_map]
      rfl
    · intro x hx
      have e := List.mem_singleton.mp hx
      subst e
      show 0 ≤ (ns.length : Int) ∧ (ns.length : Int) < 2147483629
      omega
    · obtain ⟨y, ds, cs, rfl, sm, hg, hc, hx, ld, lc, bd, bc⟩ := hP
      rw [List.getElem?_map] at hv
      obtain ⟨z, hz, rfl⟩ := Option.map_eq_some_iff.mp hv
      have hi : i < ms.length := (List.getElem?_eq_some_iff.mp hz).1
      refine ⟨_, rfl, _, rfl, ?_⟩
      have hz0 : 0 ≤ (if z < 0 then -z else z) := by split <;> omega
      generalize (if z < 0 then -z else z) = u at hz0
      have um := emod_lt (r := u) (m := MM) (by decide)
      refine ⟨.ref c, rfl, .inl ⟨rfl, _, SqL.of hc⟩, _, rfl, _, _, rfl, rfl, (show (0 : Int) < 2147483629 by decide), c, _, _, rfl, rfl, hc, size_lt (by rw [List.length_map]; omega), ?_⟩
      have ec : cs.map V.int ++ [V.int (u % 2147483629)] = (cs ++ [u % 2147483629]).map V.int := by rw [List.map_append]; rfl
      rw [ec]
      have bc' : ∀ x ∈ cs ++ [u % 2147483629], 0 ≤ x ∧ x < MM := fun x hx => by
        rcases List.mem_append.mp hx with h | h
        · exact bc x h
        · rw [List.mem_singleton.mp h]; exact um
      refine ⟨fun m σ H' => ∃ (z : Int) (ds : List Int), σ = [some (.ref sc), some (.ref g), some (.ref c), some (.int z)] ∧ 0 ≤ z ∧ m = 900 - ds.length ∧ Same H H' ∧ H' g = some (.lst (ds.map V.int)) ∧ H' c = some (.lst ((cs ++ [u % 2147483629]).map V.int)) ∧ H' x = some (.lst (ms.map V.int)) ∧
        ds.length ≤ 900 ∧ (∀ x ∈ ds, 0 ≤ x ∧ x < MM), ⟨_, u, ds, rfl, hz0, rfl, ?_, ?_, upd_same, ?_, ld, bd⟩, ?_⟩
      · intro b o eb
        rw [upd_ne]
        · exact sm _ _ eb
        · intro e
          subst e
          have e1 := s1 _ _ eb
          rw [nc] at e1
          cases e1
      · rw [upd_ne ngc]; exact hg
      · rw [upd_ne nxc.symm]; exact hx
      · rintro m σ H2 ⟨z, ds2, rfl, z0, rfl, sm2, hg2, hc2, hx2, ld2, bd2⟩
        have fin : ∃ (y : Option V) (ds' cs' : List Int), ([some (.ref sc), some (.ref g), some (.ref c), some (.int z)] : L2.St) = [some (.ref sc), some (.ref g), some (.ref c), y] ∧ Same H H2 ∧ H2 g = some (.lst (ds'.map V.int)) ∧ H2 c = some (.lst (cs'.map V.int)) ∧ H2 x = some (.lst (ms.map V.int)) ∧
            ds'.length ≤ 900 ∧ cs'.length = i + 1 + 1 ∧ (∀ x ∈ ds', 0 ≤ x ∧ x < MM) ∧ (∀ x ∈ cs', 0 ≤ x ∧ x < MM) :=
          ⟨_, ds2, cs ++ [u % 2147483629], rfl, sm2, hg2, hc2, hx2, ld2, by rw [List.length_append, lc]; rfl, bd2, bc'⟩
        refine ⟨_, rfl, _, _, rfl, rfl, ⟨by decide, by decide, by decide⟩, _, _, rfl, rfl, _, rfl, ite2 (fun e => ?_) (fun e => iteF fin)⟩
        refine ⟨_, rfl, g, _, rfl, .inl (SqL.of hg2), _, _, rfl, rfl, _, rfl, ite2 (fun e' => ?_) (fun e' => fin)⟩
        have l9 : ds2.length < 900 := by
          have e1 := of_decide_eq_true e'
          rw [List.length_map] at e1
          omega
        have zm := emod_lt (r := z) (m := MM) (by decide)
        refine ⟨_, fun _ _ h => h, ?_⟩
        refine ⟨.ref g, rfl, .inl ⟨rfl, _, SqL.of hg2⟩, _, rfl, _, _, rfl, rfl, (show (0 : Int) < 2147483629 by decide), g, _, _, rfl, rfl, hg2, size_lt (by rw [List.length_map]; omega), ?_⟩
        refine ⟨_, rfl, _, _, rfl, rfl, wide_div (b := 31) (by decide) (by decide) (by decide) (by decide), ?_⟩
        have eg : ds2.map V.int ++ [V.int (z % 2147483629)] = (ds2 ++ [z % 2147483629]).map V.int := by rw [List.map_append]; rfl
        rw [eg]
        refine ⟨900 - (ds2 ++ [z % 2147483629]).length, by rw [List.length_append, List.length_singleton]; omega, z / 2147483629, ds2 ++ [z % 2147483629], rfl, Int.ediv_nonneg z0 (by decide), rfl, ?_, upd_same, ?_, ?_, by rw [List.length_append, List.length_singleton]; omega, ?_⟩
        · intro b o eb
          rw [upd_ne (ne_of_none eb ng)]
          exact sm2 _ _ eb
        · rw [upd_ne ngc.symm]; exact hc2
        · rw [upd_ne nxg.symm]; exact hx2
        · intro x hx
          rcases List.mem_append.mp hx with h | h
          · exact bd2 x h
          · rw [List.mem_singleton.mp h]; exact zm
    · obtain ⟨y, ds, cs, rfl, sm, hg, hc, hx, ld, lc, bd, bc⟩ := hP
      rw [List.length_map] at lc
      refine ⟨_, rfl, _, rfl, (show 3 ≤ sizeLine by decide), fun a na => q a (g, c) _ (sm.trans (same_upd na)) ⟨ds, cs, 0, upd_same, ?_, ?_, ?_, ?_, ngc.symm, Nat.le_refl _, bd, bc, by omega, by omega⟩⟩
      · rw [upd_ne (ne_of_none hg na)]; exact hg
      · rw [upd_ne (ne_of_none hc na)]; exact hc
      · exact (ne_of_none hg na).symm
      · exact ne_of_none hc na
end
end WL

set_option Elab.async false
set_option linter.all false
set_option maxRecDepth 100000
namespace WL
open PySem PySem.Spec PyProof.Rows L2
theorem bd3 {k r s : Int} (h0 : 0 ≤ k) (h1 : k < 100) (h4 : 0 ≤ r) (h5 : r < 100) (h2 : 0 ≤ s) (h3 : s ≤ 1000000000) : TS.Bd 2000000000 [k, r, s] := fun m hm => by
  rcases List.mem_cons.mp hm with rfl | hm
  · omega
  rcases List.mem_cons.mp hm with rfl | hm
  · omega
  · rw [List.mem_singleton.mp hm]; omega
theorem fact3 {H : Hp} {k r s : Int} {v : V} (h0 : 0 ≤ k) (h1 : k < 100) (h4 : 0 ≤ r) (h5 : r < 100) (h3 : s ≤ 1000000000) (hv : AtW H v) : FactR H [k, r, s] v := ⟨fun m hm => by
  rcases List.mem_cons.mp hm with rfl | hm
  · omega
  · rw [List.mem_singleton.mp hm]; omega, h3, hv⟩
section
variable {P : Program} {w : World} {K : PySem.W.Frag} {mg : Str → Option Value} {base : Heap}
def spAtw : Sp := fun vs H Q _ => ∃ (a : Addr) (d : Addr × Addr) (N : Nat) (many who ones : Int), vs = [.ref a, .int many, .int who, .int ones] ∧ Dk H a d N ∧ N ≤ 900000 ∧ 0 < many ∧ many ≤ 5 ∧ 0 < ones ∧ ones ≤ 100 ∧
  ∀ v H', Kp a d H H' → Dk H' a d (N + 1) → AtW H' v → Q v H'
theorem ok_at {f f1 : Addr} {fd fd1 : FuncData} (B : Bt mg) (D : Df K mg "_law_at" st__law_at f fd ["_law_deck_here", "_law_many", "_law_who", "_law_ones"]) (D__law_next : Df K mg "_law_next" st__law_next f1 fd1 ["_law_deck_here"])
    (G__law_next : FnOk P w K mg base CX0 1 f1 fd1 ["_law_deck_here"] spNext) : FnOk P w K mg base CX0 2 f fd ["_law_deck_here", "_law_many", "_law_who", "_law_ones"] spAtw := by
  refine D.F.ok sc__law_at (fun vs H Q E h => ?_) (fun cdv A outer s H vs Q E hr h => ?_)
  · obtain ⟨a, d, N, many, who, ones, rfl, _⟩ := h
    rfl
  · obtain ⟨a, d, N, many, who, ones, rfl, hK, hN, m0, m5, o0, o1, q⟩ := h
    refine ⟨_, (pss_cons (ps_set (i := 4) sc__law_at.nd rfl (.inl rfl) (pe_call G__law_next (hr.mono (by decide)) (by rfl) D__law_next.g D__law_next.F.kp D__law_next.b .nil pass0 (pa_cons (pv 0) pa_nil)))
      (pss_cons (ps_if (PW.pt (pw_and (pt_cmpR op_eq (pe_op op_mod (pv 4) pe_int) pe_int (nomark _)) (pw_and1 (pt_cmpR op_gt (pv 3) pe_int (nomark _))))) (pss_one (ps_ret (pe_tup (pa_cons pe_str (pa_cons (pe_op op_mod (pe_op op_add (pe_op op_add (pv 2) pe_int) (pe_op op_mod (pe_op op_fdivW (pv 4) pe_int) (pe_op op_sub (pv 3) pe_int))) (pv 3)) pa_nil))))) pss_nil)
      (pss_one (ps_ret (pe_tup (pa_cons pe_str (pa_cons (pe_op op_mod (pe_op op_fdivW (pv 4) pe_int) (pv 1)) pa_nil))))))), ?_⟩
    refine ⟨_, rfl, a, d, _, rfl, hK, by omega, fun r H1 kp1 dk1 r0 r1 => ?_⟩
    have fin : ∀ (w : Str) (x : Int) (e : Addr), H1 e = none → (w = "in" ∨ w = "with") → 0 ≤ x → x < 100 → Q (.ref e) (upd H1 e (.tup [.str w, .int x])) := fun w x e ne hw h0 h1 =>
      q _ _ (kp1.trans (Kp.of (same_upd ne))) (dk1.same (same_upd ne)) ⟨e, w, x, rfl, upd_same, hw, h0, h1⟩
    have ret : ∀ e, H1 e = none → Q (.ref e) (upd H1 e (.tup [.str "in", .int (r / 3 % many)])) := fun e ne => by
      have hm := emod_lt (r := r / 3) m0
      exact fin "in" _ e ne (.inl rfl) hm.1 (by omega)
    refine ⟨_, rfl, _, _, rfl, rfl, (show (0 : Int) < 3 by decide), rfl, _, rfl, ite2 (fun e => ?_) (fun e => iteF ?_)⟩
    · refine ⟨_, rfl, _, _, rfl, rfl, _, rfl, ite2 (fun e2 => ?_) (fun e2 => ?_)⟩
      · have o2 : 1 < ones := of_decide_eq_true e2
        have hm := emod_lt (r := who + 1 + r / 3 % (ones - 1)) o0
        exact ⟨_, rfl, _, _, rfl, rfl, _, rfl, _, _, rfl, rfl, div_ok (by decide) (by decide), _, rfl, _, _, rfl, rfl, _, _, rfl, rfl, (show (0 : Int) < ones - 1 by omega), _, _, rfl, rfl, _, rfl, _, _, rfl, rfl, o0, (show 2 ≤ sizeLine by decide), fun e ne => fin "with" _ e ne (.inr rfl) hm.1 (by omega)⟩
      · exact ⟨_, rfl, _, _, rfl, rfl, div_ok (by decide) (by decide), _, rfl, _, _, rfl, rfl, m0, (show 2 ≤ sizeLine by decide), ret⟩
    · exact ⟨_, rfl, _, _, rfl, rfl, div_ok (by decide) (by decide), _, rfl, _, _, rfl, rfl, m0, (show 2 ≤ sizeLine by decide), ret⟩
def spBook (K : PySem.W.Frag) : Sp := fun vs H Q _ => ∃ (a : Addr) (d : Addr × Addr) (N : Nat) (many span ones : Int), vs = [.ref a, .int many, .int span, .int ones, .int 30] ∧ Dk H a d N ∧ N ≤ 800000 ∧ 0 < many ∧ many ≤ 5 ∧ 0 < span ∧ span ≤ 1000000001 ∧ 0 < ones ∧ ones ≤ 100 ∧
  ∀ t rs H', Kp a d H H' → Dk H' a d (N + 100) → Book K H' t rs → Q (.ref t) H'
theorem ok_book {f f1 f2 : Addr} {fd fd1 fd2 : FuncData} (B : Bt mg) (D : Df K mg "_law_book" st__law_book f fd ["_law_deck_here", "_law_many", "_law_span_here", "_law_ones", "_law_most"]) (D__law_next : Df K mg "_law_next" st__law_next f1 fd1 ["_law_deck_here"]) (D__law_at : Df K mg "_law_at" st__law_at f2 fd2 ["_law_deck_here", "_law_many", "_law_who", "_law_ones"])
    (G__law_next : FnOk P w K mg base CX0 1 f1 fd1 ["_law_deck_here"] spNext) (G__law_at : FnOk P w K mg base CX0 2 f2 fd2 ["_law_deck_here", "_law_many", "_law_who", "_law_ones"] spAtw) : FnOk P w K mg base CX0 3 f fd ["_law_deck_here", "_law_many", "_law_span_here", "_law_ones", "_law_most"] (spBook K) := by
  refine D.F.ok sc__law_book (fun vs H Q E h => ?_) (fun cdv A outer s H vs Q E hr h => ?_)
  · obtain ⟨a, d, N, many, span, ones, rfl, _⟩ := h
    rfl
  · obtain ⟨a, d, N, many, span, ones, rfl, hK, hN, m0, m5, sp0, sp1, o0, o1, q⟩ := h
    refine ⟨_, (pss_cons (ps_set (i := 5) sc__law_book.nd rfl (.inr rfl) pe_dnewT)
      (pss_cons (ps_for PassesOwn.never rfl (pi_range1 rfl B.range (pa_cons (pe_op op_mod (pe_call G__law_next (hr.mono (by decide)) (by rfl) D__law_next.g D__law_next.F.kp D__law_next.b .nil pass0 (pa_cons (pv 0) pa_nil)) (pe_op op_add (pv 4) pe_int)) pa_nil)) (pg_name (i := 6) sc__law_book.nd rfl (.inl rfl))
      (pss_cons (ps_set (i := 7) sc__law_book.nd rfl (.inl rfl) (pe_call G__law_next (hr.mono (by decide)) (by rfl) D__law_next.g D__law_next.F.kp D__law_next.b .nil pass0 (pa_cons (pv 0) pa_nil)))
      (pss_cons (ps_set (i := 8) sc__law_book.nd rfl (.inl rfl) (pe_op op_mod (pv 7) (pv 3)))
      (pss_cons (ps_set (i := 9) sc__law_book.nd rfl (.inl rfl) (pe_ix ix_list (pe_lst (pa_cons pe_int (pa_cons (pe_op op_mod (pe_call G__law_next (hr.mono (by decide)) (by rfl) D__law_next.g D__law_next.F.kp D__law_next.b .nil pass0 (pa_cons (pv 0) pa_nil)) (pv 2)) pa_nil))) (pe_op op_mod (pe_op op_fdivW (pv 7) pe_int) pe_int) (fun _ _ => rfl)))
      (pss_one (ps_dput (hu_of hr) (pv 5) (pe_tup (pa_cons (pv 8) (pa_cons (pe_op op_mod (pe_op op_fdivW (pv 7) pe_int) pe_int) (pa_cons (pv 9) pa_nil)))) (pe_call G__law_at (hr.mono (by decide)) (by rfl) D__law_at.g D__law_at.F.kp D__law_at.b .nil pass0 (pa_cons (pv 0) (pa_cons (pv 1) (pa_cons (pv 8) (pa_cons (pv 3) pa_nil))))) rfl))))))
      (pss_one (ps_ret (pe_callTy call_tuple_of (by rfl) B.tuple (by decide +kernel) (pa_cons (pe_lc (own := [("_law_key", 10)]) (g := gName 10) (tt := tYes) rfl sc__law_book.nd (pi_list (pe_callB (cr_sortK (d := 3) (B := 2000000000) (by decide) rfl) (by rfl) B.sorted (by decide +kernel) (pa_cons (pe_bm0 PySem.F.plainAttrs_dict PySem.F.slot_dict_keys PySem.F.type_dict_keys mt_keysT (pv 5)) pa_nil))) (blkOk_by (own := [("_law_key", 10)]) (N := ["_law_deck_here", "_law_many", "_law_span_here", "_law_ones", "_law_most", "_law_kept", "_law_k", "_law_number", "_law_who", "_law_day", "_law_key"]) (sc := defScope st__law_book) (by decide +kernel)) (fun _ _ _ _ _ => (pg_name (i := 10) sc__law_book.nd rfl (.inl rfl))) (fun _ _ _ _ _ => pts_nil) (fun _ _ _ _ _ => (pe_op (show OpR _ _ (rCatT K) from op_catT) (pv 10) (pe_tup (pa_cons (pe_dget (hu_of hr) (pv 5) (pv 10) (fun _ _ => rfl)) pa_nil))))) pa_nil)))))), ?_⟩
    intro k nk
    have hk0 : KeptB 3 FactR a d k H (upd H k (.dT [])) N 0 := KeptB.new hK nk
    refine ⟨_, rfl, a, d, _, rfl, hk0.dk, by omega, fun r H1 kp1 dk1 r0 r1 => ?_⟩
    have hk1 := hk0.step FactR.tk kp1 dk1
    have hm := emod_lt (r := r) (m := 30 + 1) (by decide)
    refine ⟨_, rfl, _, _, rfl, rfl, _, _, rfl, rfl, (show (0 : Int) < 30 + 1 by decide), r % (30 + 1), rfl, by omega, by omega, ?_⟩
    refine for_range (lo := 0) (n := (r % (30 + 1)).toNat) (fun i σ H' => ∃ y5 y6 y7 y8 y9 y10, σ = [some (.ref a), some (.int many), some (.int span), some (.int ones), some (.int 30), some (.ref k), y5, y6, y7, y8, y9] ∧ y10 = (none : Option V) ∧ KeptB 3 FactR a d k H H' (N + 1 + 3 * i) i)
      ⟨none, none, none, none, none, none, rfl, rfl, hk1⟩ (fun i σ H2 hi hP => ?_) (fun σ H2 hP => ?_)
    · obtain ⟨y5, y6, y7, y8, y9, y10, rfl, _, hk2⟩ := hP
      refine ⟨_, rfl, a, d, _, rfl, hk2.dk, by omega, fun r2 H3 kp3 dk3 r20 r21 => ?_⟩
      have hk3 := hk2.step FactR.tk kp3 dk3
      refine ⟨_, rfl, _, rfl, _, _, rfl, rfl, o0, ?_⟩
      have hw := emod_lt (r := r2) o0
      refine ⟨_, rfl, a, d, _, rfl, hk3.dk, by omega, fun r3 H4 kp4 dk4 r30 r31 => ⟨_, rfl, _, _, rfl, rfl, sp0, (show 2 ≤ sizeLine by decide), fun l nl => ?_⟩⟩
      have s5 := same_upd (o := .lst (([0, r3 % span] : List Int).map V.int)) nl
      have hk5 := (hk3.step FactR.tk kp4 dk4).same FactR.tk s5
      have hm2 := emod_lt (r := r2 / 512) (m := 2) (by decide)
      have hsp := emod_lt (r := r3) sp0
      obtain ⟨x, hx, xm⟩ := pick_int (xs := [0, r3 % span]) hm2.1 hm2.2
      have xb : 0 ≤ x ∧ x ≤ 1000000000 := by
        rcases List.mem_cons.mp xm with rfl | xm
        · omega
        · rw [List.mem_singleton.mp xm]; omega
      refine ⟨_, rfl, _, _, rfl, rfl, div_ok (by decide) (by decide), _, _, rfl, rfl, (show (0 : Int) < 2 by decide), l, _, _, _, rfl, rfl, SqL.of upd_same, hx, ?_⟩
      refine ⟨_, rfl, _, rfl, _, rfl, _, rfl, a, d, _, many, _, ones, rfl, hk5.dk, by omega, m0, m5, o0, o1, fun v H6 kp6 dk6 av => ?_⟩
      have hk6 := hk5.step FactR.tk kp6 dk6
      have hm3 := emod_lt (r := r2 / 128) (m := 4) (by decide)
      refine ⟨_, rfl, _, rfl, _, rfl, _, _, rfl, rfl, div_ok (by decide) (by decide), _, _, rfl, rfl, (show (0 : Int) < 4 by decide), _, rfl, (show 3 ≤ sizeLine by decide), fun kk nkk => ?_⟩
      have s7 := same_upd (o := .tup [.int (r2 % ones), .int (r2 / 128 % 4), .int x]) nkk
      have hk7 := hk6.same FactR.tk s7
      obtain ⟨kvs, hkv, hb, hE⟩ := hk7.ex
      refine ⟨k, _, rfl, DPut.t (k := ([r2 % ones, r2 / 128 % 4, x] : List Int).map Sum.inl) hkv upd_same (size_lt (by omega)), ?_⟩
      exact ⟨_, _, _, _, _, none, rfl, rfl, (hk7.put FactR.tk (ns := [r2 % ones, r2 / 128 % 4, x]) rfl (bd3 hw.1 (by omega) hm3.1 (by omega) xb.1 xb.2) (fact3 hw.1 (by omega) hm3.1 (by omega) xb.2 (av.tk (Tk.of s7))) hkv).mono (by omega) (by omega)⟩
    · obtain ⟨y5, y6, y7, y8, y9, y10, rfl, _, hk2⟩ := hP
      obtain ⟨kvs, hkv, hb, hE⟩ := hk2.ex
      refine rows_of_dict (K := K) (d := 3) (B := 2000000000) (tlOne H2) hkv (by omega) (fun e he => ?_) rfl (fun x => rfl) (fun ns b v H3 Qe sm hb3 ln hv vm qe => ?_) (fun t R H' sm ht lR hR _ _ => ?_)
      · obtain ⟨ns, e1, e2, e3, _⟩ := hE e he
        exact ⟨ns, e1, e2, e3⟩
      · refine ⟨_, rfl, _, rfl, _, rfl, k, v, rfl, ?_, (show 1 ≤ sizeLine by decide), fun e ne => ?_⟩
        · have := DGet.t (k := ns.map Sum.inl) (sm _ _ hkv) (show H3 b = some (.tup ((ns.map Sum.inl).map kV)) by rw [kV_ints]; exact hb3)
          rw [hv] at this
          exact this
        have s4 := same_upd (o := .tup [v]) ne
        refine ⟨b, e, _, [v], rfl, rfl, SqT.of (s4 _ _ hb3), SqT.of upd_same, ?_, size_le (by rw [List.length_map]; show _ + 1 ≤ _; omega), (fun z => nomatch z), fun _ p np => qe p _ (s4.trans (same_upd np)) upd_same⟩
        intro z
        rw [List.map_eq_nil_iff] at z
        rw [z] at ln
        cases ln
      · exact q t _ H' (hk2.kp.trans (Kp.of sm)) ((hk2.dk.same sm).mono (by omega)) (book_mk (Tk.of sm) hE (by omega) ht lR hR)
/-- what stands of who and role on a day -/
def spStandsL (K : PySem.W.Frag) : Sp := fun vs H Q _ => ∃ (b : Addr) (rs : List Row) (who role day : Int), vs = [.ref b, .int who, .int role, .int day] ∧ Rows K 2 H b rs ∧ ∀ H', Same H H' → Q (optV (pick (hit [who, role] day) rs)) H'
theorem ok_standsL {f f1 : Addr} {fd fd1 : FuncData} (D : Df K mg "_law_stands" st__law_stands f fd ["_law_book_here", "_law_who", "_law_role", "_law_day"]) (D__law_in_force : Df K mg "_law_in_force" st__law_in_force f1 fd1 ["_law_rows", "_law_begin", "_law_day"])
    (G__law_in_force : FnOk P w K mg base CX0 1 f1 fd1 ["_law_rows", "_law_begin", "_law_day"] (spForce K)) : FnOk P w K mg base CX0 2 f fd ["_law_book_here", "_law_who", "_law_role", "_law_day"] (spStandsL K) := by
  refine D.F.ok sc__law_stands (fun vs H Q E h => ?_) (fun cdv A outer s H vs Q E hr h => ?_)
  · obtain ⟨b, rs, who, role, day, rfl, _⟩ := h
    rfl
  · obtain ⟨b, rs, who, role, day, rfl, hR, q⟩ := h
    refine ⟨_, (pss_one (ps_ret (pe_call G__law_in_force (hr.mono (by decide)) (by rfl) D__law_in_force.g D__law_in_force.F.kp D__law_in_force.b .nil pass0 (pa_cons (pv 0) (pa_cons (pe_tup (pa_cons (pv 1) (pa_cons (pv 2) pa_nil))) (pa_cons (pv 3) pa_nil)))))), ?_⟩
    exact ⟨_, rfl, _, rfl, _, rfl, (show 2 ≤ sizeLine by decide), fun e ne => ⟨_, rfl, b, e, day, [who, role], rs, rfl, hR.same (same_upd ne), SqT.of upd_same, fun H1 sm => q _ ((same_upd ne).trans sm)⟩⟩
def spStands (K : PySem.W.Frag) : Sp := fun vs H Q _ => ∃ (b p : Addr) (rs : List Row) (who role day : Int), vs = [.ref b, .ref p, .int day] ∧ Rows K 2 H b rs ∧ H p = some (.tup [.int who, .int role]) ∧ ∀ H', Same H H' → Q (optV (pick (hit [who, role] day) rs)) H'
theorem ok_stands {f : Addr} {fd : FuncData} (D : Df K mg "stands" st_stands f fd ["book", "pair", "day"]) : FnOk P w K mg base CX0 1 f fd ["book", "pair", "day"] (spStands K) := by
  refine D.F.ok sc_stands (fun vs H Q E h => ?_) (fun cdv A outer s H vs Q E hr h => ?_)
  · obtain ⟨b, p, rs, who, role, day, rfl, _⟩ := h
    rfl
  · obtain ⟨b, p, rs, who, role, t, rfl, ⟨hR, hw⟩, hp, q⟩ := h
    refine ⟨_, (pss_cons (ps_set (i := 3) sc_stands.nd rfl (.inl rfl) pe_non)
      (pss_cons (ps_for PassesOwn.never rfl (pi_tup (pv 0)) (pg_name (i := 4) sc_stands.nd rfl (.inl rfl))
      (pss_one (ps_if (PW.pt (pw_and (pt_cmpR (op_eqD hr.units) (pe_slice sl_tup (pv 4) po_none (po_some pe_int)) (pv 1) (nomark _)) (pw_and1 (pt_cmpR op_le (pe_ix ix_tup (pv 4) pe_int (fun _ _ => rfl)) (pv 2) (nomark _))))) (pss_one (ps_set (i := 3) sc_stands.nd rfl (.inl rfl) (pv 4))) pss_nil)))
      (pss_one (ps_ret (pv 3))))), ?_⟩
    refine ⟨_, rfl, b, rfl, ⟨_, SqT.of hR⟩, for_tup (K := K) (xs := rs.map fun q => V.ref q.a) (fun i σ H' => ∃ y, σ = [some (.ref b), some (.ref p), some (.int t), some (optV (pick (hit [who, role] t) (rs.take i))), y] ∧ Same H H') ⟨none, rfl, Same.refl H⟩
      (fun i σ H' _ ⟨y, _, e⟩ => SqT.of (e _ _ hR)) (fun i x σ H' hx ⟨y, e1, sm⟩ => ?_) (fun σ H' ⟨y, e1, sm⟩ => ?_)⟩
    · subst e1
      rw [List.getElem?_map] at hx
      obtain ⟨z, hz, rfl⟩ := Option.map_eq_some_iff.mp hx
      obtain ⟨zn, hl⟩ := hw z (List.mem_of_getElem? hz)
      have hl' := sm _ _ hl
      have pt := pick_take (hit [who, role] t) hz
      have en : (2 : Int) = ((z.ns.map V.int).length : Nat) := by rw [List.length_map, zn]; rfl
      refine ⟨.ref z.a, rfl, 2, rfl, z.a, _, rfl, SqT.of hl', by rw [en]; exact notwhole, fun e ne => ?_⟩
      rw [en, cut_to]
      have sm2 := sm.trans (same_upd (o := .tup (z.ns.map V.int)) ne)
      refine ⟨_, rfl, .tuple (z.ns.map PyData.int), .tuple (([who, role] : List Int).map PyData.int), .tup (SqT.of upd_same) (dp_ints _), .tup (SqT.of (sm2 _ _ hp)) (dp_ints [who, role]), shaped_ints _, shaped_ints _, _, rfl, ?_⟩
      rw [show PyData.eqv (.tuple (z.ns.map PyData.int)) (.tuple (([who, role] : List Int).map PyData.int)) = decide (z.ns = [who, role]) from eqvAll_ints _ _]
      refine ite2 (fun e => ?_) (fun e => ?_)
      · refine ⟨.ref z.a, rfl, z.a, _, _, .int z.s, rfl, rfl, SqT.of (sm2 _ _ hl), ?_, _, rfl, _, _, rfl, rfl, _, rfl, ite2 (fun e' => ?_) (fun e' => ?_)⟩
        · exact atI_nat (by rw [List.getElem?_append_right (Nat.le_refl _), Nat.sub_self]; rfl)
        · refine ⟨_, rfl, some (.ref z.a), ?_, sm2⟩
          have k2 : hit [who, role] t z = true := by unfold hit; rw [e, e']; rfl
          rw [pt, if_pos k2]
          rfl
        · refine ⟨some (.ref z.a), ?_, sm2⟩
          have k2 : ¬ hit [who, role] t z = true := fun c => e' (Bool.and_eq_true_iff.mp c).2
          rw [pt, if_neg k2]
          rfl
      · refine ite2 (fun c => nomatch c) (fun _ => ⟨some (.ref z.a), ?_, sm2⟩)
        have k2 : ¬ hit [who, role] t z = true := fun c => e (Bool.and_eq_true_iff.mp c).1
        rw [pt, if_neg k2]
        rfl
    · subst e1
      rw [List.length_map, List.take_length]
      exact ⟨_, rfl, q H' sm⟩
end
end WL

set_option Elab.async false
set_option linter.all false
set_option maxRecDepth 100000
namespace WL
open PySem PySem.Spec PyProof.Rows L2
section
variable {P : Program} {w : World} {K : PySem.W.Frag} {mg : Str → Option Value} {base : Heap}
def spSame : Nat → Sp
  | 0 => fun _ _ _ _ => False
  | n + 1 => fun vs H Q _ => ∃ v w, vs = [v, w] ∧ Alike n H v w ∧ ∀ H', Same H H' → Q (.bl true) H'
theorem flat_of {n : Nat} {H : Hp} {v w : V} (h : Alike n H v w) : (flat v = true ∧ v = w) ∨ ∃ m a b xs ys, n = m + 1 ∧ v = .ref a ∧ w = .ref b ∧ H a = some (.tup xs) ∧ H b = some (.tup ys) ∧ xs.length = ys.length ∧ xs.length ≤ 1000 ∧ ∀ (i : Nat) x y, xs[i]? = some x → ys[i]? = some y → Alike m H x y := by
  cases n with
  | zero => exact .inl h
  | succ m =>
    rcases h with h | ⟨a, b, xs, ys, h⟩
    · exact .inl h
    · exact .inr ⟨m, a, b, xs, ys, rfl, h⟩
theorem ok_same {f : Addr} {fd : FuncData} (B : Bt mg) (D__law_same : Df K mg "_law_same" st__law_same f fd ["_law_found", "_law_due"]) : ∀ n, FnOk P w K mg base CX0 (n + 1) f fd ["_law_found", "_law_due"] (spSame n) := by
  intro n
  induction n with
  | zero => exact fnFalse
  | succ n G__law_same =>
  refine D__law_same.F.ok sc__law_same (fun vs H Q E h => ?_) (fun cdv A outer s H vs Q E hr h => ?_)
  · obtain ⟨v, w, rfl, _⟩ := h
    rfl
  · obtain ⟨v, w, rfl, hA, q⟩ := h
    refine ⟨_, (pss_cons (ps_if (pt_val (pe_callB call_isi (by rfl) B.isinstance (by decide +kernel) (pa_cons (pv 1) (pa_cons (pe_bltn (v := .ty "tuple") (by rfl) B.tuple (by decide +kernel) rfl) pa_nil)))) (pss_cons (ps_if (PW.pt (pw_or (pt_not (pt_val (pe_callB call_isi (by rfl) B.isinstance (by decide +kernel) (pa_cons (pv 0) (pa_cons (pe_bltn (v := .ty "tuple") (by rfl) B.tuple (by decide +kernel) rfl) pa_nil))))) (pw_or1 (pt_cmpR op_ne (pe_callB call_len_seq (by rfl) B.len (by decide +kernel) (pa_cons (pv 0) pa_nil)) (pe_callB call_len_seq (by rfl) B.len (by decide +kernel) (pa_cons (pv 1) pa_nil)) (nomark _))))) (pss_one (ps_ret pe_bl)) pss_nil)
      (pss_one (ps_ret (pe_callB (cr_all rfl) (by rfl) B.all (by decide +kernel) (pa_cons (pe_lc (own := [("_law_one", 2), ("_law_other", 3)]) (g := gTup K 2 (gCons (gName 2) (gCons (gName 3) gNil))) (tt := tYes) rfl sc__law_same.nd (RZ.pi_zipA (by rfl) B.zip (pa_cons (pv 0) (pa_cons (pv 1) pa_nil))) (blkOk_by (own := [("_law_one", 2), ("_law_other", 3)]) (N := ["_law_found", "_law_due", "_law_one", "_law_other"]) (sc := defScope st__law_same) (by decide +kernel)) (fun _ _ _ _ _ => (pg_tup rfl (pgs_cons (pg_name (i := 2) sc__law_same.nd rfl (.inl rfl)) (pgs_cons (pg_name (i := 3) sc__law_same.nd rfl (.inl rfl)) pgs_nil)))) (fun _ _ _ _ _ => pts_nil) (fun _ _ _ _ _ => (pe_call G__law_same hr (by rfl) D__law_same.g D__law_same.F.kp D__law_same.b .nil pass0 (pa_cons (pv 2) (pa_cons (pv 3) pa_nil))))) pa_nil))))) pss_nil)
      (pss_cons (ps_if (pt_cmp (pc_isN (pv 1))) (pss_one (ps_ret (pe_cmp (pc_isN (pv 0))))) pss_nil)
      (pss_cons (ps_if (PW.pt (pw_or (pt_cmpR op_ne (pe_callB call_isi (by rfl) B.isinstance (by decide +kernel) (pa_cons (pv 0) (pa_cons (pe_bltn (v := .ty "bool") (by rfl) B.bool (by decide +kernel) rfl) pa_nil))) (pe_callB call_isi (by rfl) B.isinstance (by decide +kernel) (pa_cons (pv 1) (pa_cons (pe_bltn (v := .ty "bool") (by rfl) B.bool (by decide +kernel) rfl) pa_nil))) (nomark _)) (pw_or1 (pt_cmpR op_ne (pe_callB call_isi (by rfl) B.isinstance (by decide +kernel) (pa_cons (pv 0) (pa_cons (pe_bltn (v := .ty "str") (by rfl) B.str (by decide +kernel) rfl) pa_nil))) (pe_callB call_isi (by rfl) B.isinstance (by decide +kernel) (pa_cons (pv 1) (pa_cons (pe_bltn (v := .ty "str") (by rfl) B.str (by decide +kernel) rfl) pa_nil))) (nomark _))))) (pss_one (ps_ret pe_bl)) pss_nil)
      (pss_one (ps_ret (pe_cmpR op_eq (pv 0) (pv 1) (nomark _))))))), ?_⟩
    rcases flat_of hA with ⟨fv, rfl⟩ | ⟨m, a, b, xs, ys, rfl, rfl, rfl, ha, hb, hl, h9, hx⟩
    · cases v with
      | non =>
        refine ⟨_, rfl, .non, .ty "tuple", .type "NoneType", .type "tuple", false, rfl, .ty _, .base .non, kit_ty (by decide +kernel), _, rfl, iteF ?_⟩
        exact ⟨_, rfl, _, rfl, itePos rfl ⟨_, rfl, q H (Same.refl H)⟩⟩
      | bl y =>
        refine ⟨_, rfl, .bl y, .ty "tuple", .type "bool", .type "tuple", false, rfl, .ty _, .base (.bl y), kit_ty (by decide +kernel), _, rfl, iteF ?_⟩
        refine ⟨_, rfl, _, rfl, iteNeg (fun c => nomatch c) ?_⟩
        refine ⟨_, rfl, .bl y, .ty "bool", .type "bool", .type "bool", true, rfl, .ty _, .base (.bl y), kit_ty (by decide +kernel), _, rfl, .bl y, .ty "bool", .type "bool", .type "bool", true, rfl, .ty _, .base (.bl y), kit_ty (by decide +kernel), rfl, _, rfl, iteNS rfl ?_⟩
        refine ⟨_, rfl, .bl y, .ty "str", .type "bool", .type "str", false, rfl, .ty _, .base (.bl y), kit_ty (by decide +kernel), _, rfl, .bl y, .ty "str", .type "bool", .type "str", false, rfl, .ty _, .base (.bl y), kit_ty (by decide +kernel), rfl, _, rfl, iteNS rfl ?_⟩
        refine ⟨_, rfl, _, rfl, rfl, ?_⟩
        rw [decide_eq_true rfl]
        exact q H (Same.refl H)
      | int y =>
        refine ⟨_, rfl, .int y, .ty "tuple", .type "int", .type "tuple", false, rfl, .ty _, .base (.int y), kit_ty (by decide +kernel), _, rfl, iteF ?_⟩
        refine ⟨_, rfl, _, rfl, iteNeg (fun c => nomatch c) ?_⟩
        refine ⟨_, rfl, .int y, .ty "bool", .type "int", .type "bool", false, rfl, .ty _, .base (.int y), kit_ty (by decide +kernel), _, rfl, .int y, .ty "bool", .type "int", .type "bool", false, rfl, .ty _, .base (.int y), kit_ty (by decide +kernel), rfl, _, rfl, iteNS rfl ?_⟩
        refine ⟨_, rfl, .int y, .ty "str", .type "int", .type "str", false, rfl, .ty _, .base (.int y), kit_ty (by decide +kernel), _, rfl, .int y, .ty "str", .type "int", .type "str", false, rfl, .ty _, .base (.int y), kit_ty (by decide +kernel), rfl, _, rfl, iteNS rfl ?_⟩
        refine ⟨_, rfl, _, rfl, rfl, ?_⟩
        rw [decide_eq_true rfl]
        exact q H (Same.refl H)
      | str y =>
        refine ⟨_, rfl, .str y, .ty "tuple", .type "str", .type "tuple", false, rfl, .ty _, .base (.str y), kit_ty (by decide +kernel), _, rfl, iteF ?_⟩
        refine ⟨_, rfl, _, rfl, iteNeg (fun c => nomatch c) ?_⟩
        refine ⟨_, rfl, .str y, .ty "bool", .type "str", .type "bool", false, rfl, .ty _, .base (.str y), kit_ty (by decide +kernel), _, rfl, .str y, .ty "bool", .type "str", .type "bool", false, rfl, .ty _, .base (.str y), kit_ty (by decide +kernel), rfl, _, rfl, iteNS rfl ?_⟩
        refine ⟨_, rfl, .str y, .ty "str", .type "str", .type "str", true, rfl, .ty _, .base (.str y), kit_ty (by decide +kernel), _, rfl, .str y, .ty "str", .type "str", .type "str", true, rfl, .ty _, .base (.str y), kit_ty (by decide +kernel), rfl, _, rfl, iteNS rfl ?_⟩
        refine ⟨_, rfl, _, rfl, rfl, ?_⟩
        rw [decide_eq_true rfl]
        exact q H (Same.refl H)
      | byt y => cases fv
      | flt y => cases fv
      | ref y => cases fv
      | ty y => cases fv
    · refine ⟨_, rfl, .ref b, .ty "tuple", .type "tuple", .type "tuple", true, rfl, .ty _, .base (.tup hb), kit_ty (by decide +kernel), _, rfl, iteT ?_⟩
      refine ⟨_, rfl, .ref a, .ty "tuple", .type "tuple", .type "tuple", true, rfl, .ty _, .base (.tup ha), kit_ty (by decide +kernel), _, rfl, iteF ?_⟩
      refine ⟨_, rfl, a, xs, rfl, .inr (SqT.of ha), _, rfl, b, ys, rfl, .inr (SqT.of hb), rfl, _, rfl, iteNS (by rw [hl]) ?_⟩
      refine ⟨_, rfl, _, rfl, a, b, xs, ys, rfl, .inr ⟨SqT.of ha, SqT.of hb, fun D nD => lc_zipT (K := K) (σ := [some (.ref a), some (.ref b), none, none]) hl
        (fun j H3 => H3 D = some (.lst (List.replicate j (V.bl true))) ∧ Same H H3 ∧ j ≤ xs.length)
        ⟨upd_same, same_upd nD, Nat.zero_le _⟩ (fun j H3 hP => ⟨SqT.of (hP.2.1 _ _ ha), SqT.of (hP.2.1 _ _ hb)⟩) (fun j x y T H3 ex ey hP nT => ?_) (fun H3 hP => ?_)⟩⟩
      · obtain ⟨hD, sm, _⟩ := hP
        have sT := same_upd (o := .tup [x, y]) nT
        have sm2 := sm.trans sT
        refine ⟨T, [x, y], rfl, SqT.of upd_same, rfl, x, [y], rfl, y, [], rfl, rfl, rfl, ?_⟩
        have jl : j < xs.length := (List.getElem?_eq_some_iff.mp ex).1
        simp only [tYes, if_true]
        refine ⟨_, rfl, _, rfl, x, y, rfl, (hx j x y ex ey).tk (Tk.of sm2), fun H4 sm4 => ?_⟩
        refine ⟨_, sm4 _ _ (sT _ _ hD), ?_, ?_⟩
        · rw [List.length_replicate]
          exact size_lt (by omega)
        · refine ⟨by rw [upd_same, List.replicate_succ'], fun c o hc => ?_, jl⟩
          rw [upd_ne (ne_of_none hc nD)]
          exact sm4 _ _ (sm2 _ _ hc)
      · obtain ⟨hD, sm, _⟩ := hP
        refine ⟨D, List.replicate xs.length true, rfl, SqL.of (by rw [List.map_replicate]; exact hD), ?_⟩
        have e : (List.replicate xs.length true).all id = true := by simp
        rw [e]
        exact q _ sm
end
end WL

set_option Elab.async false
set_option linter.all false
set_option maxRecDepth 100000
set_option maxHeartbeats 2000000
namespace WL
open PySem PySem.Spec PyProof.Rows L2
/-- whether the pair of c and the role stands with one -/
def isW (H : Hp) (rs : List Row) (role day one c : Int) : Bool := match fndOf H rs role day c with
  | none => false
  | some (_, w, x) => decide (w = "with") && decide (x = one)
theorem isW_tk {K : PySem.W.Frag} {H H' : Hp} {t : Addr} {rs : List Row} (hB : Book K H t rs) (tk : Tk H H') (role day one c : Int) : isW H' rs role day one c = isW H rs role day one c := by
  have F := finds_of hB role day
  have e : fndOf H' rs role day c = fndOf H rs role day c := by
    cases e1 : fndOf H rs role day c with
    | none =>
      have e2 := F.none c e1
      unfold fndOf
      rw [e2]
    | some z =>
      obtain ⟨qr, ww, x⟩ := z
      obtain ⟨ep, e, el, he, hw⟩ := (F.tk tk).some c qr ww x e1
      unfold fndOf
      rw [ep]
      simp only [el, he]
  unfold isW
  rw [e]
theorem eqv_at {w : Str} {x y : Int} : PyData.eqv (.tuple [.str w, .int x]) (.tuple [.str "with", .int y]) = (decide (w = "with") && decide (x = y)) := by
  show ((w == "with") && ((x == y) && true)) = _
  rw [Bool.and_true]
  by_cases h : w = "with"
  · subst h
    by_cases h2 : x = y
    · subst h2; simp
    · simp [h2]
  · simp [h]
section
variable {P : Program} {w : World} {K : PySem.W.Frag} {mg : Str → Option Value} {base : Heap}
def spWith (K : PySem.W.Frag) : Sp := fun vs H Q _ => ∃ (b p : Addr) (rs : List Row) (who role one day : Int), vs = [.ref b, .ref p, .int one, .int day] ∧ Book K H b rs ∧ H p = some (.tup [.int who, .int role]) ∧ ∀ H', Same H H' → Q (.bl (isW H rs role day one who)) H'
theorem ok_stands_with {f f1 : Addr} {fd fd1 : FuncData} (D : Df K mg "stands_with" st_stands_with f fd ["book", "pair", "one", "day"]) (D_stands : Df K mg "stands" st_stands f1 fd1 ["book", "pair", "day"])
    (G_stands : FnOk P w K mg base CX0 1 f1 fd1 ["book", "pair", "day"] (spStands K)) : FnOk P w K mg base CX0 2 f fd ["book", "pair", "one", "day"] (spWith K) := by
  refine D.F.ok sc_stands_with (fun vs H Q E h => ?_) (fun cdv A outer s H vs Q E hr h => ?_)
  · obtain ⟨b, p, rs, who, role, one, day, rfl, _⟩ := h
    rfl
  · obtain ⟨b, p, rs, who, role, one, day, rfl, hB, hp, q⟩ := h
    refine ⟨_, (pss_cons (ps_set (i := 4) sc_stands_with.nd rfl (.inl rfl) (pe_call G_stands (hr.mono (by decide)) (by rfl) D_stands.g D_stands.F.kp D_stands.b .nil pass0 (pa_cons (pv 0) (pa_cons (pv 1) (pa_cons (pv 3) pa_nil)))))
      (pss_one (ps_ret (pe_and (pe_cmp (pc_notN (pv 4))) (pe_one (pe_cmpR (op_eqD hr.units) (pe_ix ix_tup (pv 4) pe_int (fun _ _ => rfl)) (pe_tup (pa_cons pe_str (pa_cons (pv 2) pa_nil))) (nomark _))))))), ?_⟩
    refine ⟨_, rfl, _, rfl, _, rfl, b, p, rs, who, role, day, rfl, hB.1, hp, fun H1 sm => ?_⟩
    have F := (finds_of hB role day).tk (Tk.of sm)
    cases ef : fndOf H rs role day who with
    | none =>
      rw [F.none who ef]
      refine ⟨_, rfl, _, rfl, iteNS rfl ?_⟩
      have e : isW H rs role day one who = false := by unfold isW; rw [ef]
      rw [← e]
      exact q H1 sm
    | some z =>
      obtain ⟨qr, ww, x⟩ := z
      obtain ⟨ep, e, el, he, hw⟩ := F.some who qr ww x ef
      rw [ep]
      obtain ⟨qn, hq⟩ := (hB.tk (Tk.of sm)).1.2 qr (pick_mem ep).1
      obtain ⟨k1, k2, ek⟩ := len2 qn
      rw [ek, el] at hq
      refine ⟨_, rfl, _, rfl, iteNT (fun c => nomatch c) ?_⟩
      refine ⟨_, rfl, qr.a, _, 3, .ref e, rfl, rfl, SqT.of hq, atI_nat (j := 3) rfl, _, rfl, (show 2 ≤ sizeLine by decide), fun e4 ne4 => ?_⟩
      have s2 := same_upd (o := .tup [.str "with", .int one]) ne4
      refine ⟨.tuple [.str ww, .int x], .tuple [.str "with", .int one], .tup (SqT.of (s2 _ _ he)) (.cons (.str ww) (.cons (.int x) .nil)), .tup (SqT.of upd_same) (.cons (.str _) (.cons (.int one) .nil)), shaped_at hw, shaped_at (.inr rfl), ?_⟩
      rw [eqv_at]
      have e : isW H rs role day one who = (decide (ww = "with") && decide (x = one)) := by unfold isW; rw [ef]
      rw [← e]
      exact q _ (sm.trans s2)
def spStood (K : PySem.W.Frag) : Sp := fun vs H Q _ => ∃ (b : Addr) (rs : List Row) (role one day : Int), vs = [.ref b, .int role, .int one, .int day] ∧ Book K H b rs ∧ ∀ t H', Same H H' → H' t = some (.tup ((((List.range 100).map fun k => (0 : Int) + (k : Nat)).filter (isW H rs role day one)).map V.int)) → Q (.ref t) H'
theorem ok_stood_with {f f1 : Addr} {fd fd1 : FuncData} (B : Bt mg) (D : Df K mg "stood_with" st_stood_with f fd ["book", "role", "one", "day"]) (D_stands_with : Df K mg "stands_with" st_stands_with f1 fd1 ["book", "pair", "one", "day"])
    (G_stands_with : FnOk P w K mg base CX0 2 f1 fd1 ["book", "pair", "one", "day"] (spWith K)) : FnOk P w K mg base CX0 3 f fd ["book", "role", "one", "day"] (spStood K) := by
  refine D.F.ok sc_stood_with (fun vs H Q E h => ?_) (fun cdv A outer s H vs Q E hr h => ?_)
  · obtain ⟨b, rs, role, one, day, rfl, _⟩ := h
    rfl
  · obtain ⟨b, rs, role, one, day, rfl, hB, q⟩ := h
    refine ⟨_, (pss_cons (ps_set (i := 4) sc_stood_with.nd rfl (.inl rfl) (pe_callB (cr_sortedSet rfl) (by rfl) B.sorted (by decide +kernel) (pa_cons (pe_scI (own := [("fact", 5)]) (g := gName 5) rfl sc_stood_with.nd (pi_tup (pv 0)) (blkOk_by (own := [("fact", 5)]) (N := ["book", "role", "one", "day", "ones", "fact", "who"]) (sc := defScope st_stood_with) (by decide +kernel)) (fun _ _ _ _ _ => (pg_name (i := 5) sc_stood_with.nd rfl (.inl rfl))) (fun _ _ _ _ _ => pts_one (pt_cmpR op_eq (pe_ix (show IxR _ (rIxT K) from ix_tup) (pv 5) pe_int (fun _ _ => rfl)) (pv 1) (nomark _))) (fun _ _ _ _ _ => (pe_ix (show IxR _ (rIxT K) from ix_tup) (pv 5) pe_int (fun _ _ => rfl)))) pa_nil)))
      (pss_one (ps_ret (pe_callTy call_tuple_of (by rfl) B.tuple (by decide +kernel) (pa_cons (pe_lc (own := [("who", 6)]) (g := gName 6) rfl sc_stood_with.nd (pi_list (pv 4)) (blkOk_by (own := [("who", 6)]) (N := ["book", "role", "one", "day", "ones", "fact", "who"]) (sc := defScope st_stood_with) (by decide +kernel)) (fun _ _ _ _ _ => (pg_name (i := 6) sc_stood_with.nd rfl (.inl rfl))) (fun _ _ _ _ _ => pts_one (pt_val (pe_call G_stands_with (hr.mono (by decide)) (by rfl) D_stands_with.g D_stands_with.F.kp D_stands_with.b .nil pass0 (pa_cons (pv 0) (pa_cons (pe_tup (pa_cons (pv 6) (pa_cons (pv 1) pa_nil))) (pa_cons (pv 2) (pa_cons (pv 3) pa_nil))))))) (fun _ _ _ _ _ => (pv 6))) pa_nil))))), ?_⟩
    refine ⟨_, rfl, b, rfl, ⟨_, SqT.of hB.1.1⟩, fun o no => scI_tup (K := K) (xs := rs.map fun q => V.ref q.a) (fun i H3 => ∃ (S : Int → Bool) (n : Nat), H3 o = some (SetO w o S n) ∧ n ≤ i ∧ i ≤ rs.length ∧ Same H H3 ∧ ∀ k, S k = true ↔ ∃ q ∈ rs.take i, q.ns = [k, role])
      ⟨fun _ => false, 0, upd_same, Nat.le_refl _, Nat.zero_le _, same_upd no, fun k => ⟨(fun h => absurd h Bool.false_ne_true), fun ⟨_, h, _⟩ => absurd h List.not_mem_nil⟩⟩ (fun i H3 hP => ?_) (fun i x H3 hx hP => ?_) (fun H3 hP => ?_)⟩
    · obtain ⟨_, _, _, _, _, sm, _⟩ := hP
      exact SqT.of (sm _ _ hB.1.1)
    · obtain ⟨S, n, hS, ln, li, sm, hm⟩ := hP
      rw [List.getElem?_map] at hx
      obtain ⟨z, hz, rfl⟩ := Option.map_eq_some_iff.mp hx
      have il : i < rs.length := (List.getElem?_eq_some_iff.mp hz).1
      have l62 := hB.2.1
      obtain ⟨zn, hq⟩ := hB.1.2 z (List.mem_of_getElem? hz)
      obtain ⟨k1, k2, ek⟩ := len2 zn
      rw [ek] at hq
      have hq3 := sm _ _ hq
      have mem : ∀ k, (∃ q ∈ rs.take (i + 1), q.ns = [k, role]) ↔ (∃ q ∈ rs.take i, q.ns = [k, role]) ∨ (k = k1 ∧ k2 = role) := fun k => by
        rw [List.take_add_one, hz]
        refine ⟨fun ⟨q, h1, h2⟩ => ?_, fun h => ?_⟩
        · rcases List.mem_append.mp h1 with h | h
          · exact .inl ⟨q, h, h2⟩
          · have e : q = z := List.mem_singleton.mp h
            rw [e, ek] at h2
            cases h2
            exact .inr ⟨rfl, rfl⟩
        · rcases h with ⟨q, h1, h2⟩ | ⟨h1, h2⟩
          · exact ⟨q, List.mem_append_left _ h1, h2⟩
          · exact ⟨z, List.mem_append_right _ (List.mem_singleton.mpr rfl), by rw [ek, h1, h2]⟩
      refine ⟨rfl, .ref z.a, rfl, z.a, _, 1, _, rfl, rfl, SqT.of hq3, atI_nat (j := 1) rfl, _, rfl, rfl, _, rfl, ite2 (fun e => ?_) (fun e => ?_)⟩
      · have er : k2 = role := V.int.inj (of_decide_eq_true e)
        refine ⟨.ref z.a, rfl, z.a, _, 0, _, rfl, rfl, SqT.of hq3, atI_nat (j := 0) rfl, k1, S, n, rfl, hS, (show n + 1 < 4096 by omega), _, _, upd_same, by split <;> omega, by omega, fun d u hd => ?_, fun k => ?_⟩
        · rw [upd_ne (ne_of_none hd no)]
          exact sm _ _ hd
        · show (S k || decide (k = k1)) = true ↔ _
          rw [Bool.or_eq_true, hm, mem, decide_eq_true_iff]
          exact ⟨fun h => h.imp id fun h => ⟨h, er⟩, fun h => h.imp id fun h => h.1⟩
      · refine ⟨S, n, hS, by omega, by omega, sm, fun k => ?_⟩
        rw [hm, mem]
        refine ⟨.inl, fun h => h.elim id fun h => absurd (by rw [h.2]; exact decide_eq_true rfl) e⟩
    obtain ⟨S, n, hS, ln, li, sm, hm⟩ := hP
    rw [List.length_map] at ln
    rw [List.length_map, List.take_length] at hm
    have l62 := hB.2.1
    refine ⟨o, S, n, rfl, hS, by omega, fun ns l pw mem lns nl => ?_⟩
    have s4 := sm.trans (same_upd (o := .lst (ns.map V.int)) nl)
    -- the ones that stand with it
    refine ⟨_, rfl, l, rfl, ⟨_, SqL.of upd_same⟩, fun d nd => lc_list (K := K) (xs := ns.map V.int) (fun i H5 => H5 d = some (.lst (((ns.take i).filter (isW H rs role day one)).map V.int)) ∧ Same H H5 ∧ H5 l = some (.lst (ns.map V.int)))
      ⟨upd_same, s4.trans (same_upd nd), same_upd nd _ _ upd_same⟩ (fun i H5 _ hP => SqL.of hP.2.2) (fun i x H5 hx hP => ?_) (fun H5 hP => ?_)⟩
    · obtain ⟨hd, sm5, hl5⟩ := hP
      rw [List.getElem?_map] at hx
      obtain ⟨k, hk, rfl⟩ := Option.map_eq_some_iff.mp hx
      have il : i < ns.length := (List.getElem?_eq_some_iff.mp hk).1
      have et : (ns.take (i + 1)).filter (isW H rs role day one) = (ns.take i).filter (isW H rs role day one) ++ (if isW H rs role day one k = true then [k] else []) := by
        rw [List.take_add_one, hk, List.filter_append]
        congr 1
        show List.filter _ [k] = _
        by_cases c : isW H rs role day one k = true
        · rw [List.filter_cons_of_pos c, if_pos c]; rfl
        · rw [List.filter_cons_of_neg c, if_neg c]; rfl
      have lf : ((ns.take i).filter (isW H rs role day one)).length ≤ ns.length := Nat.le_trans (List.length_filter_le _ _) (by rw [List.length_take]; omega)
      refine ⟨rfl, _, rfl, _, rfl, _, rfl, (show 2 ≤ sizeLine by decide), fun p np => ⟨_, rfl, _, rfl, b, p, rs, k, role, one, day, rfl, hB.tk (Tk.of (sm5.trans (same_upd np))), upd_same, fun H6 sm6 => ?_⟩⟩
      have sm6' := (same_upd (o := .tup [.int k, .int role]) np).trans sm6
      have ew : isW (upd H5 p (.tup [.int k, .int role])) rs role day one k = isW H rs role day one k := isW_tk hB (Tk.of (sm5.trans (same_upd np))) role day one k
      rw [ew]
      refine ⟨_, rfl, ite2 (fun e => ?_) (fun e => ?_)⟩
      · refine ⟨_, rfl, _, sm6' _ _ hd, size_lt (by rw [List.length_map]; omega), ?_, fun c u hc => ?_, ?_⟩
        · rw [upd_same, et, if_pos e, List.map_append]; rfl
        · have : H d = none := s4.free nd
          rw [upd_ne (ne_of_none hc this)]
          exact sm6' _ _ (sm5 _ _ hc)
        · rw [upd_ne (ne_of_none (show upd H3 l (.lst (ns.map V.int)) l = some (.lst (ns.map V.int)) from upd_same) nd)]
          exact sm6' _ _ hl5
      · rw [et, if_neg e, List.append_nil]
        exact ⟨sm6' _ _ hd, sm5.trans sm6', sm6' _ _ hl5⟩
    · obtain ⟨hd, sm5, hl5⟩ := hP
      rw [List.length_map, List.take_length] at hd
      refine ⟨d, _, rfl, .inl ⟨SqL.of hd, fun t nt => q t _ (sm5.trans (same_upd nt)) ?_⟩⟩
      have eq : ns.filter (isW H rs role day one) = ((List.range 100).map fun k => (0 : Int) + (k : Nat)).filter (isW H rs role day one) := by
        refine sorted_ext _ _ (List.Pairwise.filter _ pw) (List.Pairwise.filter _ (upto 100)) fun x => ?_
        rw [List.mem_filter, List.mem_filter]
        refine ⟨fun ⟨h1, h2⟩ => ⟨?_, h2⟩, fun ⟨h1, h2⟩ => ⟨?_, h2⟩⟩
        · obtain ⟨z, zm, ez⟩ := (hm x).mp ((mem x).mp h1)
          obtain ⟨bz, _⟩ := hB.2.2 z zm
          have := bz x (by rw [ez]; exact List.mem_cons_self)
          exact List.mem_map.mpr ⟨x.toNat, List.mem_range.mpr (by omega), by omega⟩
        · refine (mem x).mpr ((hm x).mpr ?_)
          unfold isW at h2
          cases ef : fndOf H rs role day x with
          | none => rw [ef] at h2; cases h2
          | some z =>
            obtain ⟨qr, ww, y⟩ := z
            obtain ⟨ep, _⟩ := (finds_of hB role day).some x qr ww y ef
            obtain ⟨m1, m2⟩ := pick_mem ep
            exact ⟨qr, m1, of_decide_eq_true (Bool.and_eq_true_iff.mp m2).1⟩
      rw [upd_same, eq]
end
end WL

set_option Elab.async false
set_option linter.all false
set_option maxRecDepth 100000
set_option maxHeartbeats 4000000
namespace WL
open PySem PySem.Spec PyProof.Rows L2
theorem cut_mem {xs : List V} {lo hi : Option Int} {x : V} (h : x ∈ cutV xs lo hi) : x ∈ xs := by
  unfold cutV at h
  exact List.mem_of_mem_drop (List.mem_of_mem_take h)
theorem cut_len (xs : List V) (lo hi : Option Int) : (cutV xs lo hi).length ≤ xs.length := by
  unfold cutV
  rw [List.length_take, List.length_drop]
  omega
section
variable {P : Program} {w : World} {K : PySem.W.Frag} {mg : Str → Option Value} {base : Heap}
theorem ok_with {f f1 : Addr} {fd fd1 : FuncData} (B : Bt mg) (D : Df K mg "_law_with" st__law_with f fd ["_law_book_here", "_law_role", "_law_one", "_law_day"]) (D__law_stands : Df K mg "_law_stands" st__law_stands f1 fd1 ["_law_book_here", "_law_who", "_law_role", "_law_day"])
    (G__law_stands : FnOk P w K mg base CX0 2 f1 fd1 ["_law_book_here", "_law_who", "_law_role", "_law_day"] (spStandsL K)) : FnOk P w K mg base CX0 3 f fd ["_law_book_here", "_law_role", "_law_one", "_law_day"] (spStood K) := by
  refine D.F.ok sc__law_with (fun vs H Q E h => ?_) (fun cdv A outer s H vs Q E hr h => ?_)
  · obtain ⟨b, rs, role, one, day, rfl, _⟩ := h
    rfl
  · obtain ⟨b, rs, role, one, day, rfl, hB, q⟩ := h
    refine ⟨_, (pss_cons (ps_set (i := 4) sc__law_with.nd rfl (.inl rfl) (pe_lst pa_nil))
      (pss_cons (ps_for PassesOwn.never rfl (pi_range1 rfl B.range (pa_cons pe_int pa_nil)) (pg_name (i := 5) sc__law_with.nd rfl (.inl rfl))
      (pss_cons (ps_set (i := 6) sc__law_with.nd rfl (.inl rfl) (pe_call G__law_stands (hr.mono (by decide)) (by rfl) D__law_stands.g D__law_stands.F.kp D__law_stands.b .nil pass0 (pa_cons (pv 0) (pa_cons (pv 5) (pa_cons (pv 1) (pa_cons (pv 3) pa_nil))))))
      (pss_one (ps_if (PW.pt (pw_and (pt_cmp (pc_notN (pv 6))) (pw_and1 (pt_cmpR (op_eqD hr.units) (pe_ix ix_tup (pv 6) pe_int (fun _ _ => rfl)) (pe_tup (pa_cons pe_str (pa_cons (pv 2) pa_nil))) (nomark _))))) (pss_one (ps_expr (pe_bm PySem.F.plainAttrs_list PySem.F.slot_list_append PySem.F.type_list_append mt_append (pv 4) (pa_cons (pv 5) pa_nil)))) pss_nil))))
      (pss_one (ps_ret (pe_callTy call_tuple_of (by rfl) B.tuple (by decide +kernel) (pa_cons (pv 4) pa_nil)))))), ?_⟩
    refine ⟨Nat.zero_le _, fun g ng => ?_⟩
    have s1 := same_upd (o := .lst []) ng
    refine ⟨100, rfl, by decide, by decide, for_range (lo := 0) (n := 100) (fun i σ H' => ∃ y5 y6, σ = [some (.ref b), some (.int role), some (.int one), some (.int day), some (.ref g), y5, y6] ∧ Same H H' ∧ H' g = some (.lst ((((List.range i).map fun k => (0 : Int) + (k : Nat)).filter (isW H rs role day one)).map V.int)))
      ⟨none, none, rfl, s1, upd_same⟩ (fun i σ H1 hi hP => ?_) (fun σ H1 hP => ?_)⟩
    · obtain ⟨y5, y6, rfl, sm, hg⟩ := hP
      have et : ((List.range (i + 1)).map fun k => (0 : Int) + (k : Nat)).filter (isW H rs role day one) = ((List.range i).map fun k => (0 : Int) + (k : Nat)).filter (isW H rs role day one) ++ (if isW H rs role day one (0 + (i : Int)) = true then [0 + (i : Int)] else []) := by
        rw [List.range_succ, List.map_append, List.filter_append]
        congr 1
        show List.filter _ [0 + (i : Int)] = _
        by_cases c : isW H rs role day one (0 + (i : Int)) = true
        · rw [List.filter_cons_of_pos c, if_pos c]; rfl
        · rw [List.filter_cons_of_neg c, if_neg c]; rfl
      have lf : (((List.range i).map fun k => (0 : Int) + (k : Nat)).filter (isW H rs role day one)).length ≤ i := Nat.le_trans (List.length_filter_le _ _) (by rw [List.length_map, List.length_range]; exact Nat.le_refl _)
      refine ⟨_, rfl, _, rfl, _, rfl, _, rfl, b, rs, _, role, day, rfl, (hB.tk (Tk.of sm)).1, fun H2 sm2 => ?_⟩
      have sm2' := sm.trans sm2
      have F := (finds_of hB role day).tk (Tk.of sm2')
      cases ef : fndOf H rs role day (0 + (i : Int)) with
      | none =>
        rw [F.none _ ef]
        have e : isW H rs role day one (0 + (i : Int)) = false := by unfold isW; rw [ef]
        refine ⟨_, rfl, _, rfl, iteNS rfl (iteF ⟨_, _, rfl, sm2', ?_⟩)⟩
        rw [et, e, if_neg (by decide), List.append_nil]
        exact sm2 _ _ hg
      | some z =>
        obtain ⟨qr, ww, x⟩ := z
        obtain ⟨ep, e, el, he, hw⟩ := F.some _ qr ww x ef
        rw [ep]
        obtain ⟨qn, hq⟩ := (hB.tk (Tk.of sm2')).1.2 qr (pick_mem ep).1
        obtain ⟨k1, k2, ek⟩ := len2 qn
        rw [ek, el] at hq
        refine ⟨_, rfl, _, rfl, iteNT (fun c => nomatch c) ?_⟩
        refine ⟨_, rfl, qr.a, _, 3, .ref e, rfl, rfl, SqT.of hq, atI_nat (j := 3) rfl, _, rfl, (show 2 ≤ sizeLine by decide), fun e4 ne4 => ?_⟩
        have s3 := same_upd (o := .tup [.str "with", .int one]) ne4
        refine ⟨.tuple [.str ww, .int x], .tuple [.str "with", .int one], .tup (SqT.of (s3 _ _ he)) (.cons (.str ww) (.cons (.int x) .nil)), .tup (SqT.of upd_same) (.cons (.str _) (.cons (.int one) .nil)), shaped_at hw, shaped_at (.inr rfl), _, rfl, ?_⟩
        rw [eqv_at]
        have e : isW H rs role day one (0 + (i : Int)) = (decide (ww = "with") && decide (x = one)) := by unfold isW; rw [ef]
        rw [← e]
        refine ite2 (fun c => ?_) (fun c => ?_)
        · have hg3 := s3 _ _ (sm2 _ _ hg)
          refine ⟨.ref g, rfl, .inl ⟨rfl, _, SqL.of hg3⟩, _, rfl, g, _, _, rfl, rfl, hg3, size_lt (by rw [List.length_map]; omega), _, _, rfl, fun d u hd => ?_, ?_⟩
          · rw [upd_ne (ne_of_none hd ng)]
            exact s3 _ _ (sm2' _ _ hd)
          · rw [upd_same, et, if_pos c, List.map_append]; rfl
        · refine ⟨_, _, rfl, sm2'.trans s3, ?_⟩
          rw [et, if_neg c, List.append_nil]
          exact s3 _ _ (sm2 _ _ hg)
    · obtain ⟨y5, y6, rfl, sm, hg⟩ := hP
      exact ⟨_, rfl, g, _, rfl, .inl ⟨SqL.of hg, fun t nt => q t _ (sm.trans (same_upd nt)) upd_same⟩⟩
def spLaw (K : PySem.W.Frag) : Sp := fun vs H Q _ => ∃ (s : Addr) (ns : List Int), vs = [.ref s] ∧ SqL K H s (ns.map V.int) ∧ ns.length ≤ 63 ∧ ∀ H', Q (.bl true) H'
/-- a pair and a day that are asked -/
def AskP (H : Hp) (x : V) : Prop := ∃ (e p : Addr) (who role day : Int), x = .ref e ∧ H e = some (.tup [.ref p, .int day]) ∧ H p = some (.tup [.int who, .int role])
theorem AskP.tk {H H' : Hp} {x : V} (t : Tk H H') (h : AskP H x) : AskP H' x := let ⟨e, p, w, r, d, h1, h2, h3⟩ := h; ⟨e, p, w, r, d, h1, t _ _ h2, t _ _ h3⟩
theorem ok_law {f f1 f2 f3 f4 f5 f6 f7 f8 f9 : Addr} {fd fd1 fd2 fd3 fd4 fd5 fd6 fd7 fd8 fd9 : FuncData} (B : Bt mg) (D : Df K mg "law" st_law f fd ["_law_script"]) (D__law_deck : Df K mg "_law_deck" st__law_deck f1 fd1 ["_law_script"]) (D__law_next : Df K mg "_law_next" st__law_next f2 fd2 ["_law_deck_here"]) (D__law_span : Df K mg "_law_span" st__law_span f3 fd3 ["_law_deck_here"])
    (D__law_book : Df K mg "_law_book" st__law_book f4 fd4 ["_law_deck_here", "_law_many", "_law_span_here", "_law_ones", "_law_most"]) (D__law_stands : Df K mg "_law_stands" st__law_stands f5 fd5 ["_law_book_here", "_law_who", "_law_role", "_law_day"]) (D__law_same : Df K mg "_law_same" st__law_same f6 fd6 ["_law_found", "_law_due"]) (D_stands : Df K mg "stands" st_stands f7 fd7 ["book", "pair", "day"]) (D_stood_with : Df K mg "stood_with" st_stood_with f8 fd8 ["book", "role", "one", "day"]) (D__law_with : Df K mg "_law_with" st__law_with f9 fd9 ["_law_book_here", "_law_role", "_law_one", "_law_day"])
    (G__law_deck : FnOk P w K mg base CX0 1 f1 fd1 ["_law_script"] (spDeck K)) (G__law_next : FnOk P w K mg base CX0 1 f2 fd2 ["_law_deck_here"] spNext) (G__law_span : FnOk P w K mg base CX0 2 f3 fd3 ["_law_deck_here"] spSpan) (G__law_book : FnOk P w K mg base CX0 3 f4 fd4 ["_law_deck_here", "_law_many", "_law_span_here", "_law_ones", "_law_most"] (spBook K))
    (G__law_stands : FnOk P w K mg base CX0 2 f5 fd5 ["_law_book_here", "_law_who", "_law_role", "_law_day"] (spStandsL K)) (G__law_same : FnOk P w K mg base CX0 4 f6 fd6 ["_law_found", "_law_due"] (spSame 3)) (G_stands : FnOk P w K mg base CX0 1 f7 fd7 ["book", "pair", "day"] (spStands K)) (G_stood_with : FnOk P w K mg base CX0 3 f8 fd8 ["book", "role", "one", "day"] (spStood K)) (G__law_with : FnOk P w K mg base CX0 3 f9 fd9 ["_law_book_here", "_law_role", "_law_one", "_law_day"] (spStood K)) :
    FnOk P w K mg base CX0 5 f fd ["_law_script"] (spLaw K) := by
  refine D.F.ok sc_law (fun vs H Q E h => ?_) (fun cdv A outer s H vs Q E hr h => ?_)
  · obtain ⟨s, ns, rfl, _⟩ := h
    rfl
  · obtain ⟨sc, ns, rfl, hS, hn, q⟩ := h
    refine ⟨_, (pss_cons (ps_set (i := 1) sc_law.nd rfl (.inl rfl) (pe_call G__law_deck (hr.mono (by decide)) (by rfl) D__law_deck.g D__law_deck.F.kp D__law_deck.b .nil pass0 (pa_cons (pv 0) pa_nil)))
      (pss_cons (ps_set (i := 2) sc_law.nd rfl (.inl rfl) (pe_op op_add pe_int (pe_op op_mod (pe_call G__law_next (hr.mono (by decide)) (by rfl) D__law_next.g D__law_next.F.kp D__law_next.b .nil pass0 (pa_cons (pv 1) pa_nil)) pe_int)))
      (pss_cons (ps_set (i := 3) sc_law.nd rfl (.inl rfl) (pe_call G__law_span (hr.mono (by decide)) (by rfl) D__law_span.g D__law_span.F.kp D__law_span.b .nil pass0 (pa_cons (pv 1) pa_nil)))
      (pss_cons (ps_set (i := 4) sc_law.nd rfl (.inl rfl) (pe_ix ix_list (pe_lst (pa_cons pe_int (pa_cons pe_int (pa_cons pe_int (pa_cons pe_int pa_nil))))) (pe_op op_mod (pe_call G__law_next (hr.mono (by decide)) (by rfl) D__law_next.g D__law_next.F.kp D__law_next.b .nil pass0 (pa_cons (pv 1) pa_nil)) pe_int) (fun _ _ => rfl)))
      (pss_cons (ps_set (i := 5) sc_law.nd rfl (.inl rfl) (pe_call G__law_book (hr.mono (by decide)) (by rfl) D__law_book.g D__law_book.F.kp D__law_book.b .nil pass0 (pa_cons (pv 1) (pa_cons (pv 2) (pa_cons (pv 3) (pa_cons (pv 4) (pa_cons pe_int pa_nil)))))))
      (pss_cons (ps_set (i := 6) sc_law.nd rfl (.inl rfl) (pe_lst pa_nil))
      (pss_cons (ps_for PassesOwn.never rfl (pi_range1 rfl B.range (pa_cons pe_int pa_nil)) (pg_name (i := 7) sc_law.nd rfl (.inl rfl))
      (pss_cons (ps_set (i := 8) sc_law.nd rfl (.inl rfl) (pe_call G__law_next (hr.mono (by decide)) (by rfl) D__law_next.g D__law_next.F.kp D__law_next.b .nil pass0 (pa_cons (pv 1) pa_nil)))
      (pss_cons (ps_set (i := 9) sc_law.nd rfl (.inl rfl) (pe_tup (pa_cons (pe_op op_mod (pv 8) (pv 4)) (pa_cons (pe_op op_mod (pe_op op_fdivW (pv 8) pe_int) pe_int) pa_nil))))
      (pss_cons (ps_set (i := 10) sc_law.nd rfl (.inl rfl) (pe_op op_mod (pe_call G__law_next (hr.mono (by decide)) (by rfl) D__law_next.g D__law_next.F.kp D__law_next.b .nil pass0 (pa_cons (pv 1) pa_nil)) (pv 3)))
      (pss_cons (ps_join (ps_if (PW.pt (pw_and (pt_cmpR (op_neD hr.units) (pv 5) (pe_tup pa_nil) (nomark _)) (pw_and1 (pt_cmpR op_gt (pe_op op_mod (pe_op op_fdivW (pv 8) pe_int) pe_int) pe_int (nomark _))))) (pss_cons (ps_set (i := 11) sc_law.nd rfl (.inl rfl) (pe_ix ix_tup (pv 5) (pe_op op_mod (pe_op op_fdivW (pv 8) pe_int) (pe_callB call_len_seq (by rfl) B.len (by decide +kernel) (pa_cons (pv 5) pa_nil))) (fun _ _ => rfl)))
      (pss_cons (ps_set (i := 9) sc_law.nd rfl (.inl rfl) (pe_ix ix_list (pe_lst (pa_cons (pe_slice sl_tup (pv 11) po_none (po_some pe_int)) (pa_cons (pe_tup (pa_cons (pe_ix ix_tup (pe_ix ix_tup (pv 11) pe_int (fun _ _ => rfl)) pe_int (fun _ _ => rfl)) (pa_cons (pe_ix ix_tup (pv 11) pe_int (fun _ _ => rfl)) pa_nil))) pa_nil))) (pe_op op_sub (pe_op op_mod (pe_op op_fdivW (pv 8) pe_int) pe_int) pe_int) (fun _ _ => rfl)))
      (pss_one (ps_set (i := 10) sc_law.nd rfl (.inl rfl) (pe_callB (call_min2 rfl) (by rfl) B.min (by decide +kernel) (pa_cons pe_int (pa_cons (pe_callB (call_max2 rfl) (by rfl) B.max (by decide +kernel) (pa_cons pe_int (pa_cons (pe_op op_sub (pe_op op_add (pe_ix ix_tup (pv 11) pe_int (fun _ _ => rfl)) (pe_op op_mod (pe_op op_fdivW (pv 8) pe_int) pe_int)) pe_int) pa_nil))) pa_nil))))))) pss_nil))
      (pss_one (ps_expr (pe_bm PySem.F.plainAttrs_list PySem.F.slot_list_append PySem.F.type_list_append mt_append (pv 6) (pa_cons (pe_tup (pa_cons (pv 9) (pa_cons (pv 10) pa_nil))) pa_nil)))))))))
      (pss_cons (ps_for PassesOwn.never rfl (pi_list (pe_op op_cat (pv 6) (pe_slice sl_list (pv 6) po_none (po_some pe_int)))) (pg_tup rfl (pgs_cons (pg_name (i := 9) sc_law.nd rfl (.inl rfl)) (pgs_cons (pg_name (i := 10) sc_law.nd rfl (.inl rfl)) pgs_nil)))
      (pss_cons (ps_set (i := 11) sc_law.nd rfl (.inl rfl) (pe_call G__law_stands (hr.mono (by decide)) (by rfl) D__law_stands.g D__law_stands.F.kp D__law_stands.b .nil pass0 (pa_cons (pv 5) (pa_cons (pe_ix ix_tup (pv 9) pe_int (fun _ _ => rfl)) (pa_cons (pe_ix ix_tup (pv 9) pe_int (fun _ _ => rfl)) (pa_cons (pv 10) pa_nil))))))
      (pss_cons (ps_if (pt_not (pt_val (pe_call G__law_same (hr.mono (by decide)) (by rfl) D__law_same.g D__law_same.F.kp D__law_same.b .nil pass0 (pa_cons (pe_call G_stands (hr.mono (by decide)) (by rfl) D_stands.g D_stands.F.kp D_stands.b .nil pass0 (pa_cons (pv 5) (pa_cons (pv 9) (pa_cons (pv 10) pa_nil)))) (pa_cons (pv 11) pa_nil))))) (pss_one (ps_ret pe_bl)) pss_nil)
      (pss_one (ps_if (pt_not (pt_val (pe_call G__law_same (hr.mono (by decide)) (by rfl) D__law_same.g D__law_same.F.kp D__law_same.b .nil pass0 (pa_cons (pe_call G_stood_with (hr.mono (by decide)) (by rfl) D_stood_with.g D_stood_with.F.kp D_stood_with.b .nil pass0 (pa_cons (pv 5) (pa_cons (pe_ix ix_tup (pv 9) pe_int (fun _ _ => rfl)) (pa_cons (pe_ix ix_tup (pv 9) pe_int (fun _ _ => rfl)) (pa_cons (pv 10) pa_nil))))) (pa_cons (pe_call G__law_with (hr.mono (by decide)) (by rfl) D__law_with.g D__law_with.F.kp D__law_with.b .nil pass0 (pa_cons (pv 5) (pa_cons (pe_ix ix_tup (pv 9) pe_int (fun _ _ => rfl)) (pa_cons (pe_ix ix_tup (pv 9) pe_int (fun _ _ => rfl)) (pa_cons (pv 10) pa_nil))))) pa_nil))))) (pss_one (ps_ret pe_bl)) pss_nil)))))
      (pss_one (ps_ret pe_bl)))))))))), ?_⟩
    refine ⟨_, rfl, sc, ns, rfl, hS, hn, fun a d H1 sm1 dk1 => ?_⟩
    refine ⟨_, rfl, a, d, _, rfl, dk1, by omega, fun r H2 kp2 dk2 r0 r1 => ⟨_, _, rfl, rfl, (show (0 : Int) < 5 by decide), _, _, rfl, rfl, ?_⟩⟩
    have hm := emod_lt (r := r) (m := 5) (by decide)
    refine ⟨_, rfl, a, d, _, rfl, dk2, by omega, fun sp H3 kp3 dk3 sp0 sp1 => ?_⟩
    refine ⟨(show 4 ≤ sizeLine by decide), fun l nl => ?_⟩
    have s3 := same_upd (o := .lst (([2, 3, 6, 100] : List Int).map V.int)) nl
    have nnl := dk3.nn nl
    refine ⟨_, rfl, a, d, _, rfl, dk3.same s3, by omega, fun ro H4 kp4 dk4 ro0 ro1 => ?_⟩
    have hm4 := emod_lt (r := ro) (m := 4) (by decide)
    obtain ⟨on, hon, onm⟩ := pick_int (xs := [2, 3, 6, 100]) hm4.1 hm4.2
    have onb : 0 < on ∧ on ≤ 100 := (by decide : ∀ c ∈ ([2, 3, 6, 100] : List Int), 0 < c ∧ c ≤ 100) on onm
    refine ⟨_, _, rfl, rfl, (show (0 : Int) < 4 by decide), l, _, _, _, rfl, rfl, SqL.of (kp4 _ _ nnl.1 nnl.2.1 upd_same), hon, ?_⟩
    refine ⟨_, rfl, _, rfl, _, rfl, _, rfl, a, d, _, 1 + r % 5, sp, on, rfl, dk4, by omega, by omega, by omega, sp0, sp1, onb.1, onb.2, fun t rs H5 kp5 dk5 hB => ?_⟩
    refine ⟨Nat.zero_le _, fun g ng => ?_⟩
    have s6 := same_upd (o := .lst []) ng
    have nng := dk5.nn ng
    refine ⟨12, rfl, by decide, by decide, for_range (lo := 0) (n := 12) (fun i σ H' => ∃ (xs : List V) (y7 y8 y9 y10 y11 : Option V), σ = [some (.ref sc), some (.ref a), some (.int (1 + r % 5)), some (.int sp), some (.int on), some (.ref t), some (.ref g), y7, y8, y9, y10, y11] ∧ Dk H' a d (1000 + 2 * i) ∧ Tk H5 H' ∧ H' g = some (.lst xs) ∧ xs.length = i ∧ ∀ x ∈ xs, AskP H' x)
      ⟨[], none, none, none, none, none, rfl, (dk5.same s6).mono (by omega), Tk.of s6, upd_same, rfl, (fun x hx => absurd hx List.not_mem_nil)⟩ (fun i σ H6 hi hP => ?_) (fun σ H6 hP => ?_)⟩
    · obtain ⟨xs, y7, y8, y9, y10, y11, rfl, dk6, tk6, hg, lx, hx⟩ := hP
      refine ⟨_, rfl, a, d, _, rfl, dk6, by omega, fun r2 H7 kp7 dk7 r20 r21 => ?_⟩
      refine ⟨_, rfl, _, rfl, _, _, rfl, rfl, onb.1, _, rfl, _, _, rfl, rfl, div_ok (by decide) (by decide), _, _, rfl, rfl, (show (0 : Int) < 4 by decide), (show 2 ≤ sizeLine by decide), fun p1 np1 => ?_⟩
      have s8 := same_upd (o := .tup [.int (r2 % on), .int (r2 / 100 % 4)]) np1
      refine ⟨_, rfl, a, d, _, rfl, dk7.same s8, by omega, fun r3 H9 kp9 dk9 r30 r31 => ⟨_, rfl, _, _, rfl, rfl, sp0, ?_⟩⟩
      have hg9 := kp9 _ _ nng.1 nng.2.1 (s8 _ _ (kp7 _ _ nng.1 nng.2.1 hg))
      have tk9 := (dk6.tk kp7).trans ((Tk.of s8).trans ((dk7.same s8).tk kp9))
      have hp9 : H9 p1 = some (.tup [.int (r2 % on), .int (r2 / 100 % 4)]) := ((dk7.same s8).tk kp9) _ _ upd_same
      have hB9 := hB.tk (tk6.trans tk9)
      refine ⟨fun σ H' => ∃ (p : Addr) (who role day : Int) (y11 : Option V), σ = [some (.ref sc), some (.ref a), some (.int (1 + r % 5)), some (.int sp), some (.int on), some (.ref t), some (.ref g), some (.int (0 + (i : Int))), some (.int r2), some (.ref p), some (.int day), y11] ∧ Same H9 H' ∧ H' p = some (.tup [.int who, .int role]), ?_, fun σ H10 hM => ?_⟩
      · refine ⟨_, rfl, Nat.zero_le _, fun e ne => ?_⟩
        have s10 := same_upd (o := .tup []) ne
        obtain ⟨ds, q1, q2, q3, q4⟩ := book_dp (K := K) (H := upd H9 e (.tup [])) rs fun z hz => ⟨(hB9.tk (Tk.of s10)).1.2 z hz, (hB9.tk (Tk.of s10)).2.2 z hz⟩
        have shd : SeqAt.shaped (.tuple ds) = true := by
          unfold SeqAt.shaped
          show (PyData.canLayAll0 ds && decide (PyData.depthAll ds + 1 ≤ 64)) = true
          rw [q3, decide_eq_true (by omega)]
          rfl
        refine ⟨.tuple ds, .tuple [], .tup (SqT.of (s10 _ _ hB9.1.1)) q1, .tup (SqT.of upd_same) .nil, shd, rfl, _, rfl, ?_⟩
        have plain : ∃ (p : Addr) (who role day : Int) (y11' : Option V), ([some (.ref sc), some (.ref a), some (.int (1 + r % 5)), some (.int sp), some (.int on), some (.ref t), some (.ref g), some (.int (0 + (i : Int))), some (.int r2), some (.ref p1), some (.int (r3 % sp)), y11] : L2.St) = [some (.ref sc), some (.ref a), some (.int (1 + r % 5)), some (.int sp), some (.int on), some (.ref t), some (.ref g), some (.int (0 + (i : Int))), some (.int r2), some (.ref p), some (.int day), y11'] ∧ Same H9 (upd H9 e (.tup [])) ∧ upd H9 e (.tup []) p = some (.tup [.int who, .int role]) := ⟨p1, _, _, _, _, rfl, s10, s10 _ _ hp9⟩
        refine ite2 (fun c => ?_) (fun c => iteF plain)
        refine ⟨_, rfl, _, _, rfl, rfl, div_ok (by decide) (by decide), _, _, rfl, rfl, (show (0 : Int) < 3 by decide), _, _, rfl, rfl, _, rfl, ite2 (fun c2 => ?_) (fun c2 => plain)⟩
        have rne : 0 < rs.length := by
          cases ds with
          | nil => cases c
          | cons x y => rw [← q2]; exact Nat.succ_pos _
        have pos : 0 < r2 / 400 % 3 := of_decide_eq_true c2
        have hm3 := emod_lt (r := r2 / 400) (m := 3) (by decide)
        have lr : ((rs.map fun q => V.ref q.a).length : Int) = rs.length := by rw [List.length_map]
        have hmb := emod_lt (r := r2 / 1200) (m := ((rs.map fun q => V.ref q.a).length : Int)) (by omega)
        obtain ⟨v, hv, vm⟩ := atI_some (xs := rs.map fun q => V.ref q.a) hmb.1 hmb.2
        obtain ⟨qr, qm, rfl⟩ := List.mem_map.mp vm
        have hB10 := hB9.tk (Tk.of s10)
        refine ⟨_, rfl, _, rfl, _, _, rfl, rfl, div_ok (by decide) (by decide), _, rfl, t, _, rfl, .inr (SqT.of hB10.1.1), _, _, rfl, rfl, (show (0 : Int) < ((rs.map fun q => V.ref q.a).length : Int) by omega), t, _, _, _, rfl, rfl, SqT.of hB10.1.1, hv, ?_⟩
        obtain ⟨qn, hq⟩ := hB10.1.2 qr qm
        obtain ⟨_, _, _, v, hvl, e4, ww, x, rfl, he4, _⟩ := hB10.2.2 qr qm
        obtain ⟨k1, k2, ek⟩ := len2 qn
        rw [ek, hvl] at hq
        have cut2 : cutV ([V.int k1, V.int k2] ++ V.int qr.s :: [V.ref e4]) none (some ((([V.int k1, V.int k2] : List V).length : Nat) : Int)) = [V.int k1, V.int k2] := cut_to
        refine ⟨_, rfl, 2, rfl, qr.a, _, rfl, SqT.of hq, notwhole (as := [V.int k1, V.int k2]), fun e5 ne5 => ?_⟩
        have s11 : Same (upd H9 e (.tup [])) (upd (upd H9 e (.tup [])) e5 (.tup (cutV (([k1, k2] : List Int).map V.int ++ V.int qr.s :: [V.ref e4]) none (some 2)))) := same_upd ne5
        have h5 : upd (upd H9 e (.tup [])) e5 (.tup (cutV (([k1, k2] : List Int).map V.int ++ V.int qr.s :: [V.ref e4]) none (some 2))) e5 = some (.tup [.int k1, .int k2]) := by
          rw [upd_same]
          exact congrArg (fun z => some (HO.tup z)) cut2
        refine ⟨_, rfl, qr.a, _, 3, .ref e4, rfl, rfl, SqT.of (s11 _ _ hq), atI_nat (j := 3) rfl, e4, _, 1, .int x, rfl, rfl, SqT.of (s11 _ _ he4), atI_nat (j := 1) rfl, _, rfl, qr.a, _, 1, .int k2, rfl, rfl, SqT.of (s11 _ _ hq), atI_nat (j := 1) rfl, (show 2 ≤ sizeLine by decide), fun e6 ne6 => ?_⟩
        have s12 := s11.trans (same_upd (o := .tup [.int x, .int k2]) ne6)
        refine ⟨(show 2 ≤ sizeLine by decide), fun l7 nl7 => ?_⟩
        have s13 := s12.trans (same_upd (o := .lst [.ref e5, .ref e6]) nl7)
        obtain ⟨pv', hpv, pvm⟩ := atI_some (xs := [V.ref e5, V.ref e6]) (i := r2 / 400 % 3 - 1) (by omega) (by show r2 / 400 % 3 - 1 < 2; omega)
        refine ⟨_, rfl, _, _, rfl, rfl, div_ok (by decide) (by decide), _, _, rfl, rfl, (show (0 : Int) < 3 by decide), _, _, rfl, rfl, l7, _, _, _, rfl, rfl, SqL.of upd_same, hpv, ?_⟩
        obtain ⟨p, who, role, rfl, hp⟩ : ∃ p who role, pv' = .ref p ∧ upd (upd (upd (upd H9 e (.tup [])) e5 (.tup (cutV (([k1, k2] : List Int).map V.int ++ V.int qr.s :: [V.ref e4]) none (some 2)))) e6 (.tup [.int x, .int k2])) l7 (.lst [.ref e5, .ref e6]) p = some (.tup [.int who, .int role]) := by
          rcases List.mem_cons.mp pvm with rfl | pvm
          · exact ⟨e5, k1, k2, rfl, ((same_upd ne6).trans (same_upd nl7)) _ _ h5⟩
          · rw [List.mem_singleton.mp pvm]
            exact ⟨e6, x, k2, rfl, same_upd nl7 _ _ upd_same⟩
        refine ⟨_, rfl, qr.a, _, 2, .int qr.s, rfl, rfl, SqT.of (s13 _ _ hq), atI_nat (j := 2) rfl, _, rfl, _, _, rfl, rfl, div_ok (by decide) (by decide), _, _, rfl, rfl, (show (0 : Int) < 3 by decide), _, _, rfl, rfl, _, _, rfl, rfl, _, _, rfl, _, _, rfl, ?_⟩
        exact ⟨p, who, role, _, _, rfl, s10.trans s13, hp⟩
      obtain ⟨p, who, role, day, z11, rfl, sm10, hp⟩ := hM
      have hg10 := sm10 _ _ hg9
      refine ⟨.ref g, rfl, .inl ⟨rfl, _, SqL.of hg10⟩, _, rfl, _, rfl, (show 2 ≤ sizeLine by decide), fun e ne => ?_⟩
      have s11 := same_upd (o := .tup [.ref p, .int day]) ne
      have hg11 := s11 _ _ hg10
      refine ⟨g, _, _, rfl, rfl, hg11, size_lt (by omega), ?_⟩
      have tkg : Tk _ (upd _ g (.lst (xs ++ [V.ref e]))) := Tk.upd hg11 (fun xs z => nomatch z)
      have tk11 := (Tk.of sm10).trans (Tk.of s11)
      refine ⟨xs ++ [.ref e], _, _, _, _, _, rfl, ((dk9.same (sm10.trans s11)).updL nng.1 nng.2.1 nng.2.2).mono (by omega), ((tk6.trans tk9).trans tk11).trans tkg, upd_same, by rw [List.length_append, lx]; rfl, fun x hxx => ?_⟩
      rcases List.mem_append.mp hxx with z | z
      · exact (hx x z).tk ((tk9.trans tk11).trans tkg)
      · rw [List.mem_singleton.mp z]
        exact AskP.tk tkg ⟨e, p, who, role, day, rfl, upd_same, s11 _ _ hp⟩
    obtain ⟨xs, y7, y8, y9, y10, y11, rfl, dk6, tk6, hg, lx, hx⟩ := hP
    refine ⟨_, rfl, _, rfl, 4, rfl, g, _, rfl, SqL.of hg, fun e ne => ?_⟩
    have s17 := same_upd (o := .lst (cutV xs none (some 4))) ne
    have lc := cut_len xs none (some 4)
    refine ⟨g, e, _, _, rfl, rfl, s17 _ _ hg, upd_same, size_le (by omega), fun p' np' => ?_⟩
    have s18 := s17.trans (same_upd (o := .lst (xs ++ cutV xs none (some 4))) np')
    have hall2 : ∀ x ∈ xs ++ cutV xs none (some 4), AskP H6 x := fun x hxx => by
      rcases List.mem_append.mp hxx with h | h
      · exact hx x h
      · exact hx x (cut_mem h)
    refine ⟨p', rfl, ⟨_, SqL.of upd_same⟩, for_list (K := K) (xs := xs ++ cutV xs none (some 4)) (fun j σ H' => ∃ y7 y8 y9 y10 y11, σ = [some (.ref sc), some (.ref a), some (.int (1 + r % 5)), some (.int sp), some (.int on), some (.ref t), some (.ref g), y7, y8, y9, y10, y11] ∧ Same (upd (upd H6 e (.lst (cutV xs none (some 4)))) p' (.lst (xs ++ cutV xs none (some 4)))) H')
      ⟨_, _, _, _, _, rfl, Same.refl _⟩ (fun j σ H' _ ⟨_, _, _, _, _, _, sm⟩ => SqL.of (sm _ _ upd_same)) (fun j x σ H19 hxj hP => ?_) (fun σ H19 hP => q _)⟩
    obtain ⟨y7, y8, y9, y10, y11, rfl, sm19⟩ := hP
    have sm19' := s18.trans sm19
    obtain ⟨c, p, who, role, day, rfl, hc, hp⟩ := (hall2 x (List.mem_of_getElem? hxj)).tk (Tk.of sm19')
    have hB19 := hB.tk (tk6.trans (Tk.of sm19'))
    refine ⟨c, _, rfl, SqT.of hc, rfl, _, _, rfl, _, _, rfl, rfl, ?_⟩
    refine ⟨_, rfl, _, rfl, p, _, 0, _, rfl, rfl, SqT.of hp, atI_nat (j := 0) rfl, _, rfl, p, _, 1, _, rfl, rfl, SqT.of hp, atI_nat (j := 1) rfl, _, rfl, t, rs, who, role, day, rfl, hB19.1, fun H20 sm20 => ?_⟩
    have hp20 := sm20 _ _ hp
    refine ⟨_, rfl, _, rfl, _, rfl, t, p, rs, who, role, day, rfl, (hB19.tk (Tk.of sm20)).1, hp20, fun H21 sm21 => ?_⟩
    have hB21 := hB19.tk (Tk.of (sm20.trans sm21))
    have da : Da 2 H21 (optV (pick (hit [who, role] day) rs)) := by
      cases e : pick (hit [who, role] day) rs with
      | none => exact Da.flat rfl
      | some q => exact fact_da hB21 (pick_mem e).1
    refine ⟨_, rfl, _, _, rfl, da, fun H22 sm22 => ⟨true, rfl, iteF ?_⟩⟩
    have sm22' := (sm20.trans sm21).trans sm22
    have hp22 := sm22' _ _ hp
    have hB22 := hB19.tk (Tk.of sm22')
    refine ⟨_, rfl, _, rfl, p, _, 1, _, rfl, rfl, SqT.of hp22, atI_nat (j := 1) rfl, _, rfl, p, _, 0, _, rfl, rfl, SqT.of hp22, atI_nat (j := 0) rfl, _, rfl, t, rs, role, who, day, rfl, hB22, fun t1 H23 sm23 ht1 => ?_⟩
    have hp23 := sm23 _ _ hp22
    have hB23 := hB22.tk (Tk.of sm23)
    refine ⟨_, rfl, _, rfl, p, _, 1, _, rfl, rfl, SqT.of hp23, atI_nat (j := 1) rfl, _, rfl, p, _, 0, _, rfl, rfl, SqT.of hp23, atI_nat (j := 0) rfl, _, rfl, t, rs, role, who, day, rfl, hB23, fun t2 H24 sm24 ht2 => ?_⟩
    have ew : isW H23 rs role day who = isW H22 rs role day who := funext fun c => isW_tk hB22 (Tk.of sm23) role day who c
    rw [ew] at ht2
    have l100 : (((List.range 100).map fun k => (0 : Int) + (k : Nat)).filter (isW H22 rs role day who)).length ≤ 100 := Nat.le_trans (List.length_filter_le _ _) (by rw [List.length_map, List.length_range]; exact Nat.le_refl _)
    refine ⟨.ref t1, .ref t2, rfl, .inr ⟨t1, t2, _, _, rfl, rfl, sm24 _ _ ht1, ht2, rfl, by rw [List.length_map]; omega, fun n x y e1 e2 => ?_⟩, fun H25 sm25 => ⟨true, rfl, iteF ⟨_, _, _, _, _, rfl, (sm19.trans sm22').trans ((sm23.trans sm24).trans sm25)⟩⟩⟩
    rw [e1] at e2
    cases e2
    obtain ⟨z, _, rfl⟩ := List.mem_map.mp (List.mem_of_getElem? e1)
    exact Da.flat rfl
end
end WL

set_option Elab.async false
set_option linter.all false
set_option maxRecDepth 100000
namespace WL
open PySem PySem.Spec PyProof.Rows L2
theorem all_mk {l : PySem.W.OpenLaw} {w : World} {K : PySem.W.Frag} {h : Heap} {mg : Str → Option Value} {fa f_stands f_stood_with f_stands_with f__law_deck f__law_next f__law_span f__law_at f__law_book f__law_in_force f__law_stands f__law_same f__law_with f_law : Addr} (X : K.In h) (G : h.Ns mainGlobals mg) (hfa : mg "law" = some (.ref fa))
    {od_stands an_stands od_stood_with an_stood_with od_stands_with an_stands_with od__law_deck an__law_deck od__law_next an__law_next od__law_span an__law_span od__law_at an__law_at od__law_book an__law_book od__law_in_force an__law_in_force od__law_stands an__law_stands od__law_same an__law_same od__law_with an__law_with od_law an_law : Option Addr} {sl_stands sl_stood_with sl_stands_with sl__law_deck sl__law_next sl__law_span sl__law_at sl__law_book sl__law_in_force sl__law_stands sl__law_same sl__law_with sl_law : Array (Option Value)} {oc_stands kV_stands dc_stands pm_stands cd_stands ct_stands oc_stood_with kV_stood_with dc_stood_with pm_stood_with cd_stood_with ct_stood_with oc_stands_with kV_stands_with dc_stands_with pm_stands_with cd_stands_with ct_stands_with oc__law_deck kV__law_deck dc__law_deck pm__law_deck cd__law_deck ct__law_deck oc__law_next kV__law_next dc__law_next pm__law_next cd__law_next ct__law_next oc__law_span kV__law_span dc__law_span pm__law_span cd__law_span ct__law_span oc__law_at kV__law_at dc__law_at pm__law_at cd__law_at ct__law_at oc__law_book kV__law_book dc__law_book pm__law_book cd__law_book ct__law_book oc__law_in_force kV__law_in_force dc__law_in_force pm__law_in_force cd__law_in_force ct__law_in_force oc__law_stands kV__law_stands dc__law_stands pm__law_stands cd__law_stands ct__law_stands oc__law_same kV__law_same dc__law_same pm__law_same cd__law_same ct__law_same oc__law_with kV__law_with dc__law_with pm__law_with cd__law_with ct__law_with oc_law kV_law dc_law pm_law cd_law ct_law : Value}
    (a_stands : PySem.W.nsIn K mainGlobals "stands" = some (some (.ref f_stands))) (l_stands : K.lookup f_stands = some ⟨oc_stands, od_stands, .func (PySem.W.fnOf "stands" "stands" (defArgs st_stands) (defBody st_stands) (defScope st_stands) .none kV_stands dc_stands pm_stands an_stands cd_stands ct_stands), sl_stands⟩) (c_stands : PySem.W.codeIn K cd_stands "stands" = true) (k_stands : PySem.W.keepIn K (.ref f_stands) = true)
    (a_stood_with : PySem.W.nsIn K mainGlobals "stood_with" = some (some (.ref f_stood_with))) (l_stood_with : K.lookup f_stood_with = some ⟨oc_stood_with, od_stood_with, .func (PySem.W.fnOf "stood_with" "stood_with" (defArgs st_stood_with) (defBody st_stood_with) (defScope st_stood_with) .none kV_stood_with dc_stood_with pm_stood_with an_stood_with cd_stood_with ct_stood_with), sl_stood_with⟩) (c_stood_with : PySem.W.codeIn K cd_stood_with "stood_with" = true) (k_stood_with : PySem.W.keepIn K (.ref f_stood_with) = true)
    (a_stands_with : PySem.W.nsIn K mainGlobals "stands_with" = some (some (.ref f_stands_with))) (l_stands_with : K.lookup f_stands_with = some ⟨oc_stands_with, od_stands_with, .func (PySem.W.fnOf "stands_with" "stands_with" (defArgs st_stands_with) (defBody st_stands_with) (defScope st_stands_with) .none kV_stands_with dc_stands_with pm_stands_with an_stands_with cd_stands_with ct_stands_with), sl_stands_with⟩) (c_stands_with : PySem.W.codeIn K cd_stands_with "stands_with" = true) (k_stands_with : PySem.W.keepIn K (.ref f_stands_with) = true)
    (a__law_deck : PySem.W.nsIn K mainGlobals "_law_deck" = some (some (.ref f__law_deck))) (l__law_deck : K.lookup f__law_deck = some ⟨oc__law_deck, od__law_deck, .func (PySem.W.fnOf "_law_deck" "_law_deck" (defArgs st__law_deck) (defBody st__law_deck) (defScope st__law_deck) .none kV__law_deck dc__law_deck pm__law_deck an__law_deck cd__law_deck ct__law_deck), sl__law_deck⟩) (c__law_deck : PySem.W.codeIn K cd__law_deck "_law_deck" = true) (k__law_deck : PySem.W.keepIn K (.ref f__law_deck) = true)
    (a__law_next : PySem.W.nsIn K mainGlobals "_law_next" = some (some (.ref f__law_next))) (l__law_next : K.lookup f__law_next = some ⟨oc__law_next, od__law_next, .func (PySem.W.fnOf "_law_next" "_law_next" (defArgs st__law_next) (defBody st__law_next) (defScope st__law_next) .none kV__law_next dc__law_next pm__law_next an__law_next cd__law_next ct__law_next), sl__law_next⟩) (c__law_next : PySem.W.codeIn K cd__law_next "_law_next" = true) (k__law_next : PySem.W.keepIn K (.ref f__law_next) = true)
    (a__law_span : PySem.W.nsIn K mainGlobals "_law_span" = some (some (.ref f__law_span))) (l__law_span : K.lookup f__law_span = some ⟨oc__law_span, od__law_span, .func (PySem.W.fnOf "_law_span" "_law_span" (defArgs st__law_span) (defBody st__law_span) (defScope st__law_span) .none kV__law_span dc__law_span pm__law_span an__law_span cd__law_span ct__law_span), sl__law_span⟩) (c__law_span : PySem.W.codeIn K cd__law_span "_law_span" = true) (k__law_span : PySem.W.keepIn K (.ref f__law_span) = true)
    (a__law_at : PySem.W.nsIn K mainGlobals "_law_at" = some (some (.ref f__law_at))) (l__law_at : K.lookup f__law_at = some ⟨oc__law_at, od__law_at, .func (PySem.W.fnOf "_law_at" "_law_at" (defArgs st__law_at) (defBody st__law_at) (defScope st__law_at) .none kV__law_at dc__law_at pm__law_at an__law_at cd__law_at ct__law_at), sl__law_at⟩) (c__law_at : PySem.W.codeIn K cd__law_at "_law_at" = true) (k__law_at : PySem.W.keepIn K (.ref f__law_at) = true)
    (a__law_book : PySem.W.nsIn K mainGlobals "_law_book" = some (some (.ref f__law_book))) (l__law_book : K.lookup f__law_book = some ⟨oc__law_book, od__law_book, .func (PySem.W.fnOf "_law_book" "_law_book" (defArgs st__law_book) (defBody st__law_book) (defScope st__law_book) .none kV__law_book dc__law_book pm__law_book an__law_book cd__law_book ct__law_book), sl__law_book⟩) (c__law_book : PySem.W.codeIn K cd__law_book "_law_book" = true) (k__law_book : PySem.W.keepIn K (.ref f__law_book) = true)
    (a__law_in_force : PySem.W.nsIn K mainGlobals "_law_in_force" = some (some (.ref f__law_in_force))) (l__law_in_force : K.lookup f__law_in_force = some ⟨oc__law_in_force, od__law_in_force, .func (PySem.W.fnOf "_law_in_force" "_law_in_force" (defArgs st__law_in_force) (defBody st__law_in_force) (defScope st__law_in_force) .none kV__law_in_force dc__law_in_force pm__law_in_force an__law_in_force cd__law_in_force ct__law_in_force), sl__law_in_force⟩) (c__law_in_force : PySem.W.codeIn K cd__law_in_force "_law_in_force" = true) (k__law_in_force : PySem.W.keepIn K (.ref f__law_in_force) = true)
    (a__law_stands : PySem.W.nsIn K mainGlobals "_law_stands" = some (some (.ref f__law_stands))) (l__law_stands : K.lookup f__law_stands = some ⟨oc__law_stands, od__law_stands, .func (PySem.W.fnOf "_law_stands" "_law_stands" (defArgs st__law_stands) (defBody st__law_stands) (defScope st__law_stands) .none kV__law_stands dc__law_stands pm__law_stands an__law_stands cd__law_stands ct__law_stands), sl__law_stands⟩) (c__law_stands : PySem.W.codeIn K cd__law_stands "_law_stands" = true) (k__law_stands : PySem.W.keepIn K (.ref f__law_stands) = true)
    (a__law_same : PySem.W.nsIn K mainGlobals "_law_same" = some (some (.ref f__law_same))) (l__law_same : K.lookup f__law_same = some ⟨oc__law_same, od__law_same, .func (PySem.W.fnOf "_law_same" "_law_same" (defArgs st__law_same) (defBody st__law_same) (defScope st__law_same) .none kV__law_same dc__law_same pm__law_same an__law_same cd__law_same ct__law_same), sl__law_same⟩) (c__law_same : PySem.W.codeIn K cd__law_same "_law_same" = true) (k__law_same : PySem.W.keepIn K (.ref f__law_same) = true)
    (a__law_with : PySem.W.nsIn K mainGlobals "_law_with" = some (some (.ref f__law_with))) (l__law_with : K.lookup f__law_with = some ⟨oc__law_with, od__law_with, .func (PySem.W.fnOf "_law_with" "_law_with" (defArgs st__law_with) (defBody st__law_with) (defScope st__law_with) .none kV__law_with dc__law_with pm__law_with an__law_with cd__law_with ct__law_with), sl__law_with⟩) (c__law_with : PySem.W.codeIn K cd__law_with "_law_with" = true) (k__law_with : PySem.W.keepIn K (.ref f__law_with) = true)
    (a_law : PySem.W.nsIn K mainGlobals "law" = some (some (.ref f_law))) (l_law : K.lookup f_law = some ⟨oc_law, od_law, .func (PySem.W.fnOf "law" "law" (defArgs st_law) (defBody st_law) (defScope st_law) .none kV_law dc_law pm_law an_law cd_law ct_law), sl_law⟩) (c_law : PySem.W.codeIn K cd_law "law" = true) (k_law : PySem.W.keepIn K (.ref f_law) = true)
    (z_len : PySem.W.nsIn K mainGlobals "len" = some none) (z_range : PySem.W.nsIn K mainGlobals "range" = some none) (z_sorted : PySem.W.nsIn K mainGlobals "sorted" = some none) (z_tuple : PySem.W.nsIn K mainGlobals "tuple" = some none) (z_list : PySem.W.nsIn K mainGlobals "list" = some none) (z_abs : PySem.W.nsIn K mainGlobals "abs" = some none) (z_isinstance : PySem.W.nsIn K mainGlobals "isinstance" = some none) (z_zip : PySem.W.nsIn K mainGlobals "zip" = some none) (z_all : PySem.W.nsIn K mainGlobals "all" = some none) (z_min : PySem.W.nsIn K mainGlobals "min" = some none) (z_max : PySem.W.nsIn K mainGlobals "max" = some none) (z_bool : PySem.W.nsIn K mainGlobals "bool" = some none) (z_str : PySem.W.nsIn K mainGlobals "str" = some none) (z_int : PySem.W.nsIn K mainGlobals "int" = some none) (z_set : PySem.W.nsIn K mainGlobals "set" = some none) (z_reversed : PySem.W.nsIn K mainGlobals "reversed" = some none) (z_enumerate : PySem.W.nsIn K mainGlobals "enumerate" = some none) :
    ∃ fd : FuncData, (∀ (s : Shared) (v : Value), BindsTo s fd ⟨[v], []⟩ [("_law_script", v)]) ∧ ∀ base : Heap, K.In base → base.Ns mainGlobals mg → FnOk l.prog w K mg base CX0 5 fa fd ["_law_script"] (spLaw K) := by
  have e := hfa.symm.trans (PySem.W.mg_of X G a_law)
  cases e
  have B : Bt mg := ⟨PySem.W.mg_none_of X G z_len, PySem.W.mg_none_of X G z_range, PySem.W.mg_none_of X G z_sorted, PySem.W.mg_none_of X G z_tuple, PySem.W.mg_none_of X G z_list, PySem.W.mg_none_of X G z_abs, PySem.W.mg_none_of X G z_isinstance, PySem.W.mg_none_of X G z_zip, PySem.W.mg_none_of X G z_all, PySem.W.mg_none_of X G z_min, PySem.W.mg_none_of X G z_max, PySem.W.mg_none_of X G z_bool, PySem.W.mg_none_of X G z_str, PySem.W.mg_none_of X G z_int, PySem.W.mg_none_of X G z_set, PySem.W.mg_none_of X G z_reversed, PySem.W.mg_none_of X G z_enumerate⟩
  have F_stands := fun_mk (st := st_stands) l_stands c_stands k_stands
  have D_stands : Df K mg "stands" st_stands _ _ ["book", "pair", "day"] := ⟨F_stands, PySem.W.mg_of X G a_stands, F_stands.binds (ps := ["book", "pair", "day"]) fun _ _ _ _ _ _ us hl => match us, hl with | [_, _, _], _ => rfl⟩
  have F_stood_with := fun_mk (st := st_stood_with) l_stood_with c_stood_with k_stood_with
  have D_stood_with : Df K mg "stood_with" st_stood_with _ _ ["book", "role", "one", "day"] := ⟨F_stood_with, PySem.W.mg_of X G a_stood_with, F_stood_with.binds (ps := ["book", "role", "one", "day"]) fun _ _ _ _ _ _ us hl => match us, hl with | [_, _, _, _], _ => rfl⟩
  have F_stands_with := fun_mk (st := st_stands_with) l_stands_with c_stands_with k_stands_with
  have D_stands_with : Df K mg "stands_with" st_stands_with _ _ ["book", "pair", "one", "day"] := ⟨F_stands_with, PySem.W.mg_of X G a_stands_with, F_stands_with.binds (ps := ["book", "pair", "one", "day"]) fun _ _ _ _ _ _ us hl => match us, hl with | [_, _, _, _], _ => rfl⟩
  have F__law_deck := fun_mk (st := st__law_deck) l__law_deck c__law_deck k__law_deck
  have D__law_deck : Df K mg "_law_deck" st__law_deck _ _ ["_law_script"] := ⟨F__law_deck, PySem.W.mg_of X G a__law_deck, F__law_deck.binds (ps := ["_law_script"]) fun _ _ _ _ _ _ us hl => match us, hl with | [_], _ => rfl⟩
  have F__law_next := fun_mk (st := st__law_next) l__law_next c__law_next k__law_next
  have D__law_next : Df K mg "_law_next" st__law_next _ _ ["_law_deck_here"] := ⟨F__law_next, PySem.W.mg_of X G a__law_next, F__law_next.binds (ps := ["_law_deck_here"]) fun _ _ _ _ _ _ us hl => match us, hl with | [_], _ => rfl⟩
  have F__law_span := fun_mk (st := st__law_span) l__law_span c__law_span k__law_span
  have D__law_span : Df K mg "_law_span" st__law_span _ _ ["_law_deck_here"] := ⟨F__law_span, PySem.W.mg_of X G a__law_span, F__law_span.binds (ps := ["_law_deck_here"]) fun _ _ _ _ _ _ us hl => match us, hl with | [_], _ => rfl⟩
  have F__law_at := fun_mk (st := st__law_at) l__law_at c__law_at k__law_at
  have D__law_at : Df K mg "_law_at" st__law_at _ _ ["_law_deck_here", "_law_many", "_law_who", "_law_ones"] := ⟨F__law_at, PySem.W.mg_of X G a__law_at, F__law_at.binds (ps := ["_law_deck_here", "_law_many", "_law_who", "_law_ones"]) fun _ _ _ _ _ _ us hl => match us, hl with | [_, _, _, _], _ => rfl⟩
  have F__law_book := fun_mk (st := st__law_book) l__law_book c__law_book k__law_book
  have D__law_book : Df K mg "_law_book" st__law_book _ _ ["_law_deck_here", "_law_many", "_law_span_here", "_law_ones", "_law_most"] := ⟨F__law_book, PySem.W.mg_of X G a__law_book, F__law_book.binds (ps := ["_law_deck_here", "_law_many", "_law_span_here", "_law_ones", "_law_most"]) fun _ _ _ _ _ _ us hl => match us, hl with | [_, _, _, _, _], _ => rfl⟩
  have F__law_in_force := fun_mk (st := st__law_in_force) l__law_in_force c__law_in_force k__law_in_force
  have D__law_in_force : Df K mg "_law_in_force" st__law_in_force _ _ ["_law_rows", "_law_begin", "_law_day"] := ⟨F__law_in_force, PySem.W.mg_of X G a__law_in_force, F__law_in_force.binds (ps := ["_law_rows", "_law_begin", "_law_day"]) fun _ _ _ _ _ _ us hl => match us, hl with | [_, _, _], _ => rfl⟩
  have F__law_stands := fun_mk (st := st__law_stands) l__law_stands c__law_stands k__law_stands
  have D__law_stands : Df K mg "_law_stands" st__law_stands _ _ ["_law_book_here", "_law_who", "_law_role", "_law_day"] := ⟨F__law_stands, PySem.W.mg_of X G a__law_stands, F__law_stands.binds (ps := ["_law_book_here", "_law_who", "_law_role", "_law_day"]) fun _ _ _ _ _ _ us hl => match us, hl with | [_, _, _, _], _ => rfl⟩
  have F__law_same := fun_mk (st := st__law_same) l__law_same c__law_same k__law_same
  have D__law_same : Df K mg "_law_same" st__law_same _ _ ["_law_found", "_law_due"] := ⟨F__law_same, PySem.W.mg_of X G a__law_same, F__law_same.binds (ps := ["_law_found", "_law_due"]) fun _ _ _ _ _ _ us hl => match us, hl with | [_, _], _ => rfl⟩
  have F__law_with := fun_mk (st := st__law_with) l__law_with c__law_with k__law_with
  have D__law_with : Df K mg "_law_with" st__law_with _ _ ["_law_book_here", "_law_role", "_law_one", "_law_day"] := ⟨F__law_with, PySem.W.mg_of X G a__law_with, F__law_with.binds (ps := ["_law_book_here", "_law_role", "_law_one", "_law_day"]) fun _ _ _ _ _ _ us hl => match us, hl with | [_, _, _, _], _ => rfl⟩
  have F_law := fun_mk (st := st_law) l_law c_law k_law
  have D_law : Df K mg "law" st_law _ _ ["_law_script"] := ⟨F_law, PySem.W.mg_of X G a_law, F_law.binds (ps := ["_law_script"]) fun _ _ _ _ _ _ us hl => match us, hl with | [_], _ => rfl⟩
  refine ⟨PySem.W.fnOf "law" "law" (defArgs st_law) (defBody st_law) (defScope st_law) .none kV_law dc_law pm_law an_law cd_law ct_law, fun s v => .of_eq rfl, fun base _ _ => ?_⟩
  have G_next := ok_next (P := l.prog) (w := w) (base := base) B D__law_next
  have G_at := ok_at (P := l.prog) (w := w) (base := base) B D__law_at D__law_next G_next
  have G_book := ok_book (P := l.prog) (w := w) (base := base) B D__law_book D__law_next D__law_at G_next G_at
  have G_force := ok_in_force (P := l.prog) (w := w) (base := base) B D__law_in_force
  have G_standsL := ok_standsL (P := l.prog) (w := w) (base := base) D__law_stands D__law_in_force G_force
  have G_stands := ok_stands (P := l.prog) (w := w) (base := base) D_stands
  have G_sw := ok_stands_with (P := l.prog) (w := w) (base := base) D_stands_with D_stands G_stands
  have G_stood := ok_stood_with (P := l.prog) (w := w) (base := base) B D_stood_with D_stands_with G_sw
  have G_with := ok_with (P := l.prog) (w := w) (base := base) B D__law_with D__law_stands G_standsL
  exact ok_law B D_law D__law_deck D__law_next D__law_span D__law_book D__law_stands D__law_same D_stands D_stood_with D__law_with (ok_deck B D__law_deck) G_next (ok_span B D__law_span D__law_next G_next)
    G_book G_standsL (ok_same B D__law_same 3) G_stands G_stood G_with
end WL
open PySem PySem.W PyProof.Rows
set_option maxHeartbeats 0 in
theorem PySem.Challenge.cw_whoselaw_k06_what_stands_holds : PySem.Challenge.rw_whoselaw_k06_what_stands.Holds := by
  w_on; o_law; k_head; (case hw => w_witness2)
  k_fill
  refine L2.walk_of (l := PySem.Challenge.rw_whoselaw_k06_what_stands) (n := 63) (k := 5) (x := "_law_script") (CX := fun _ => L2.CX0) (sp := fun w => WL.spLaw _) rfl (by decide) rfl ⟨rfl, by decide, by decide⟩ (fun w h Y => PySem.W.kIn_of Y) ?F (fun _ _ a ns hl _ hS => ⟨a, ns, rfl, hS, hl, fun _ => rfl⟩) (fun _ _ _ _ _ h => h)
  case F =>
    intro w mg fa h KX G hmg
    refine' WL.all_mk KX G hmg ?a_stands ?l_stands ?c_stands ?k_stands ?a_stood_with ?l_stood_with ?c_stood_with ?k_stood_with ?a_stands_with ?l_stands_with ?c_stands_with ?k_stands_with ?a__law_deck ?l__law_deck ?c__law_deck ?k__law_deck ?a__law_next ?l__law_next ?c__law_next ?k__law_next ?a__law_span ?l__law_span ?c__law_span ?k__law_span ?a__law_at ?l__law_at ?c__law_at ?k__law_at ?a__law_book ?l__law_book ?c__law_book ?k__law_book ?a__law_in_force ?l__law_in_force ?c__law_in_force ?k__law_in_force ?a__law_stands ?l__law_stands ?c__law_stands ?k__law_stands ?a__law_same ?l__law_same ?c__law_same ?k__law_same ?a__law_with ?l__law_with ?c__law_with ?k__law_with ?a_law ?l_law ?c_law ?k_law ?z_len ?z_range ?z_sorted ?z_tuple ?z_list ?z_abs ?z_isinstance ?z_zip ?z_all ?z_min ?z_max ?z_bool ?z_str ?z_int ?z_set ?z_reversed ?z_enumerate
    (case a_stands => k_is); (case l_stands => k_is); (case c_stands => k_is); (case k_stands => k_is); (case a_stood_with => k_is); (case l_stood_with => k_is); (case c_stood_with => k_is); (case k_stood_with => k_is); (case a_stands_with => k_is); (case l_stands_with => k_is); (case c_stands_with => k_is); (case k_stands_with => k_is); (case a__law_deck => k_is); (case l__law_deck => k_is); (case c__law_deck => k_is); (case k__law_deck => k_is); (case a__law_next => k_is); (case l__law_next => k_is); (case c__law_next => k_is); (case k__law_next => k_is); (case a__law_span => k_is); (case l__law_span => k_is); (case c__law_span => k_is); (case k__law_span => k_is); (case a__law_at => k_is); (case l__law_at => k_is); (case c__law_at => k_is); (case k__law_at => k_is); (case a__law_book => k_is); (case l__law_book => k_is); (case c__law_book => k_is); (case k__law_book => k_is); (case a__law_in_force => k_is); (case l__law_in_force => k_is); (case c__law_in_force => k_is); (case k__law_in_force => k_is); (case a__law_stands => k_is); (case l__law_stands => k_is); (case c__law_stands => k_is); (case k__law_stands => k_is); (case a__law_same => k_is); (case l__law_same => k_is); (case c__law_same => k_is); (case k__law_same => k_is); (case a__law_with => k_is); (case l__law_with => k_is); (case c__law_with => k_is); (case k__law_with => k_is); (case a_law => k_is); (case l_law => k_is); (case c_law => k_is); (case k_law => k_is); (case z_len => k_is); (case z_range => k_is); (case z_sorted => k_is); (case z_tuple => k_is); (case z_list => k_is); (case z_abs => k_is); (case z_isinstance => k_is); (case z_zip => k_is); (case z_all => k_is); (case z_min => k_is); (case z_max => k_is); (case z_bool => k_is); (case z_str => k_is); (case z_int => k_is); (case z_set => k_is); (case z_reversed => k_is); (case z_enumerate => k_is)
