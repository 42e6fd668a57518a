import PyProof.Rows.All
import Wide.All
import OpenK.AllK
import Wide.FinOn
import HandS.ForMost
import HandS.IsInst
import HandS.TupSets
import HandS.Conv
import HandS.Zip
import HandS.Wide
import HandS.Flow
import HandS.TupLen
import HandS.DictTup
import KE.KDictCopyH
import PySem.Challenge.RW_whoselaw_k01_rows_in_force
set_option Elab.async false
set_option linter.all false
set_option maxRecDepth 100000
namespace WL
open PySem PySem.Spec PyProof.Rows L2

/-! ### sorted(d.keys()), the keys tuples of ints -/
def keysO (p d : Addr) : HO := .ext fun h => PySem.W.KdlKeysView h p d
theorem keysO_ok {P : Program} {w : World} {H : Hp} {h : Heap} {p d : Addr} (e : h.get? p = some { cls := .type "dict_keys", data := .fields #[.ref d] }) : ObjOk P w H h p (keysO p d) :=
  ⟨⟨_, e, rfl, rfl⟩, ⟨_, e⟩, fun h1 h2 ⟨o, a, b, c⟩ k => ⟨o, k o a, b, c⟩⟩
def intK : Key → Int
  | .inl i => i
  | .inr _ => 0
section
variable {prog : Program} {w : World} {A : Around} {E : Value → Shared → Prop} {s : Shared}
theorem meetsKeys {d : Addr} {es : Array DictEntry} {ep : Nat} (hd : (d == sysModules) = false) :
    MeetsIn prog w (Builtin.«dict.keys» ⟨[.ref d], []⟩) (fun _ R s => s.heap.DictRaw d es ep ∧
      R (.ok (.ret (.ref s.heap.objs.size))) { s with heap := s.heap.push { cls := .type "dict_keys", data := .fields #[.ref d] } }) :=
  .of_wp fun A R s ⟨hm, h⟩ => by
    refine wpAny_bind ?_
    unfold Builtin.Dict.noArgs
    refine wpAny_bind (wpAny_notOrdered_dict hm.typeIs ?_)
    show wpAny _ _ (pure d) _ _ s
    refine wpAny_pure ?_
    show wpAny _ _ (Builtin.Dict.showsAll d >>= _) _ _ s
    unfold Builtin.Dict.showsAll
    rw [if_neg (by rw [hd]; exact Bool.false_ne_true)]
    refine wpAny_bind (wpAny_pure ?_)
    exact wpAny_bind (wpAny_newObj_type (wpAny_pure ⟨_, rfl, h⟩))
end
section
variable {X : Cx}
def rKeysT : V → List V → Hp → VK → Prop := fun x xs H Q => ∃ (a : Addr) (kvs : List (List Key × V)), x = .ref a ∧ xs = [] ∧ H a = some (.dT kvs) ∧ ∀ p, H p = none → Q (.ref p) (upd H p (keysO p a))
theorem mt_keysT : MtR X "dict.keys" rKeysT := by
  intro pins s σ H x xs v us Q I rx rxs h
  obtain ⟨a, kvs, rfl, rfl, ha, q⟩ := h
  cases rx
  cases rxs
  obtain ⟨z, hd, xs', rel, o, es, ep, ho, hx, hdat, _⟩ := dt_of I.hok ha
  have hf : H s.heap.objs.size = none := I.hok.fresh (Nat.le_refl _)
  have hm : s.heap.DictRaw a es ep := ⟨o, ho, hx, hdat⟩
  exact call_meetsIn PySem.F.slot_dict_keys hm.typeIs PySem.F.entry_dict_keys (PySem.F.args_dict_keys_1 _) (meetsKeys (es := es) (ep := ep) hd)
    ⟨hm, .ref s.heap.objs.size, upd H s.heap.objs.size (keysO s.heap.objs.size a), I.laid (t' := s.toks) (fun b u e => Heap.get?_push_of_some _ e) (Nat.le_refl _) (keysO_ok (Heap.get?_push_size _ rfl)), rfl, q _ hf⟩
/-- sorted(r), r a source of n values: what is left is the sort of a new list of them -/
theorem sorted_src {T : String} {r d : Addr} {n : Nat} {Pv : Nat → Value → Prop} {OK : Heap → Prop} {s : Shared} {Q : Value → Shared → Prop} {E : Value → Shared → Prop} (src : PySem.W.KdlSrc X.prog X.w T r d n Pv OK) (hh : X.A.handled = none) (ok : OK s.heap) (hn : n ≤ sizeLine)
    (fin : ∀ (h' : Heap) (tk : Nat) (vs : List Value), (∀ b o, s.heap.get? b = some o → h'.get? b = some o) → vs.length = n → (∀ (j : Nat) v, vs[j]? = some v → Pv j v) →
      wpAny (model X.prog X.w) X.A.in1 (call (.builtin "list.sort") [.ref h'.objs.size]) (fun _ s' => Q (.ref h'.objs.size) s') E { s with heap := h'.push (seqObj "list" vs.toArray 0), toks := tk }) :
    wpAny (model X.prog X.w) X.A (call (.builtin "sorted") [.ref r]) Q E s := by
  apply Calls.call_function_entry PyProof.Rows.kind_sorted PyProof.Rows.plain_sorted PyProof.Rows.entry_sorted (PyProof.Rows.args_sorted1 _)
  unfold Builtin.«sorted»
  apply wpAny_bind
  apply wpAny_pure
  apply wpAny_bind
  apply PySem.W.kdu_collect (A := X.A.in1) src hh ok hn
  intro h' tk acc keeps items
  have len : acc.toList.length = n := by rw [Array.length_toList]; exact items.1
  apply wpAny_bind
  apply wpAny_newList _ (by rw [len]; exact hn)
  apply wpAny_bind
  apply wpAny_holding
  refine wpAny_mono (fin h' tk acc.toList keeps len fun j v e => items.2 j v ?_) (fun _ s' y => wpAny_pure ⟨_, rfl, y⟩) fun _ _ y => y
  rw [← Array.getElem?_toList]
  exact e
/-- sorted(d.keys()): each key d ints in [0, B) -/
def rSortK (d : Nat) (B : Int) : List V → Hp → VK → Prop := fun vs H Q => ∃ (p a : Addr) (kvs : List (List Key × V)), vs = [.ref p] ∧ H p = some (keysO p a) ∧ H a = some (.dT kvs) ∧ kvs.length < 64 ∧
  (∀ e ∈ kvs, ∃ ns : List Int, e.1 = ns.map Sum.inl ∧ ns.length = d ∧ TS.Bd B ns) ∧
  ∀ (l : Addr) (L : List (List Int × Addr)), (L.map fun q => q.1.map Sum.inl).Perm (kvs.map (·.1)) → (∀ q ∈ L, H q.2 = some (.tup (q.1.map V.int))) → L.Pairwise (fun q r => TS.code B q.1 ≤ TS.code B r.1) → H l = none →
    Q (.ref l) (upd H l (.lst (L.map fun q => V.ref q.2)))
theorem kV_ints (ns : List Int) : (ns.map Sum.inl).map kV = ns.map V.int := by
  rw [List.map_map]; rfl
theorem intK_ints (ns : List Int) : (ns.map (Sum.inl : Int → Key)).map intK = ns := by
  rw [List.map_map]
  show ns.map (fun x => x) = ns
  rw [List.map_id']
theorem cr_sortK {d : Nat} {B : Int} (hd : 1 ≤ d) (hc : X.calm = true) : CallR X (.builtin "sorted") (rSortK d B) := by
  intro pins s σ H xs us Q I r h
  obtain ⟨p, a, kvs, rfl, hp, ha, h64, hk, q⟩ := h
  obtain rfl := Vals.ref1 r
  have view : PySem.W.KdlKeysView s.heap p a := (show ObjOk X.prog X.w H s.heap p (keysO p a) from I.hok p _ hp).1
  obtain ⟨z, hs, ks, pr, o, es, ep, ho, hx, hdt, he, _, hn⟩ := dt_of I.hok ha
  have l1 : es.size = ks.length := size_of_entries he
  have l2 : kvs.length = ks.length := Paired.length pr
  have kat : ∀ x ∈ ks, ∃ ns : List Int, x.1 = ns.map Sum.inl ∧ ns.length = d ∧ TS.Bd B ns ∧ H x.2.1 = some (.tup (ns.map V.int)) := fun x hx' => by
    obtain ⟨j, hj⟩ := List.mem_iff_getElem?.mp hx'
    obtain ⟨e0, he0, r1, r2, r3⟩ := DX.pget pr hj
    obtain ⟨ns, e1, e2, e3⟩ := hk e0 (List.mem_of_getElem? he0)
    refine ⟨ns, by rw [← r1, e1], e2, e3, ?_⟩
    rw [r2, e1, kV_ints]
  have keys : ks.map (·.1) = kvs.map (·.1) := by
    have : ∀ {l1 : List (List Key × V)} {l2 : List (List Key × Addr × Value)}, KT H l1 l2 → l2.map (·.1) = l1.map (·.1) := fun r => by
      induction r with
      | nil => rfl
      | cons h t ih => rw [List.map_cons, List.map_cons, ih, h.1]
    exact this pr
  refine sorted_src (KdlSrc.rawKeys (r := p) (d := a) (es := es) (ep := ep)) (I.ok.hd hc) ⟨view, o, ho, hx, hdt⟩ (by rw [sizeLine_eq]; omega) fun h' tk vs hkeep hlv it => ?_
  have ea : vs = ks.map fun x => Value.ref x.2.1 := by
    apply List.ext_getElem?
    intro j
    rw [List.getElem?_map]
    cases hj : vs[j]? with
    | none =>
      have h1 := List.getElem?_eq_none_iff.mp hj
      rw [List.getElem?_eq_none (by omega)]
      rfl
    | some v =>
      obtain ⟨hi, hv⟩ := it j v hj
      have qe := entry_at he j
      rw [Array.getElem?_eq_getElem hi] at qe
      cases hb : ks[j]? with
      | none =>
        rw [hb] at qe
        cases qe
      | some b =>
        rw [hb] at qe
        have e2 : es[j] = entryOfKey (tupleKind (mixKind X.prog X.w)) b := Option.some.inj qe
        rw [hv, e2]
        rfl
  have hal : vs.length = ks.length := by rw [ea, List.length_map]
  have I1 : Inv X pins σ H { s with heap := h', toks := tk } := I.kept hkeep
  have hoL : (h'.push (seqObj "list" vs.toArray 0)).get? h'.objs.size = some (seqObj "list" vs.toArray 0) := Heap.get?_push_size _ rfl
  have I2 : Inv X pins σ H { s with heap := h'.push (seqObj "list" vs.toArray 0), toks := tk } := I1.kept (t' := tk) fun b u e => Heap.get?_push_of_some _ e
  have tin : ∀ x ∈ ks, ∀ ns : List Int, H x.2.1 = some (.tup (ns.map V.int)) → TS.TupInts (h'.push (seqObj "list" vs.toArray 0)) (.ref x.2.1) ns := fun x _ ns e => tupI_raw I2 (SqT.of e)
  refine wpAny_call_entry PyProof.Rows.slot_list_sort ⟨_, hoL, rfl⟩ PyProof.Rows.entry_list_sort
    (TS.sort_tups (s := { s with heap := h'.push (seqObj "list" vs.toArray 0), toks := tk }) (d := d) (B := B) hoL (by rw [hal, ← l2]; exact h64) hd (fun v hv => ?_)
      (fun v => TS.code B (TS.intsOf (h'.push (seqObj "list" vs.toArray 0)) v)) (fun v hv ns t => by rw [t.ints]) fun out g1 g2 => ⟨_, rfl, ?_⟩) (PyProof.Rows.args_list_sort _)
  · rw [ea] at hv
    obtain ⟨x, hx', rfl⟩ := List.mem_map.mp hv
    obtain ⟨ns, e1, e2, e3, e4⟩ := kat x hx'
    exact ⟨ns, tin x hx' ns e4, e2, e3⟩
  · rw [ea] at g1
    obtain ⟨ks', pk, ek⟩ := perm_lift (fun x : List Key × Addr × Value => Value.ref x.2.1) g1 ks rfl
    obtain ⟨e', he'⟩ := PyProof.Rows.sortedHeap_at (vs := vs) (out := out) hoL
    have hin : ∀ x ∈ ks', x ∈ ks := fun x hx' => pk.mem_iff.mp hx'
    have hlen : (((ks'.map fun x => (x.1.map intK, x.2.1)).map fun q : List Int × Addr => V.ref q.2)).length ≤ sizeLine := by
      rw [List.length_map, List.length_map, pk.length_eq, sizeLine_eq]; omega
    have rv : Vals ((ks'.map fun x => (x.1.map intK, x.2.1)).map fun q : List Int × Addr => V.ref q.2) out.toList := by
      rw [← ek, List.map_map]
      exact vals_maps (fun x : List Key × Addr × Value => V.ref x.2.1) (fun x => Value.ref x.2.1) ks' fun _ _ => rfl
    refine ⟨.ref h'.objs.size, upd H h'.objs.size (.lst ((ks'.map fun x => (x.1.map intK, x.2.1)).map fun q : List Int × Addr => V.ref q.2)), I1.laid (t' := tk) (fun b u e => ?_) (Nat.le_refl _)
      (show ObjOk X.prog X.w _ _ _ (.lst _) from ⟨hlen, out.toList, e', rv, by rw [Array.toArray_toList]; exact he'⟩), rfl, q _ _ ?_ ?_ ?_ (I1.hok.fresh (Nat.le_refl _))⟩
    · have hb : b < h'.objs.size := Heap.lt_size e
      rw [PyProof.Rows.sortedHeap_old (Nat.ne_of_lt hb) (by rw [size_push']; exact Nat.lt_succ_of_lt hb)]
      exact Heap.get?_push_of_some _ e
    · rw [← keys, List.map_map]
      have e5 : ks'.map ((fun q : List Int × Addr => q.1.map (Sum.inl : Int → Key)) ∘ fun x => (x.1.map intK, x.2.1)) = ks'.map (·.1) := List.map_congr_left fun x hx' => by
        obtain ⟨ns, e1, _⟩ := kat x (hin x hx')
        show (x.1.map intK).map Sum.inl = x.1
        rw [e1, intK_ints]
      rw [e5]
      exact pk.map (·.1)
    · intro q hq
      obtain ⟨x, hx', rfl⟩ := List.mem_map.mp hq
      obtain ⟨ns, e1, _, _, e4⟩ := kat x (hin x hx')
      show H x.2.1 = some (.tup ((x.1.map intK).map V.int))
      rw [e1, intK_ints]
      exact e4
    · rw [List.pairwise_map]
      rw [← ek, List.pairwise_map] at g2
      refine List.Pairwise.imp_of_mem (fun {x y} hx' hy h => ?_) g2
      obtain ⟨ns, e1, _, _, e4⟩ := kat x (hin x hx')
      obtain ⟨ms, f1, _, _, f4⟩ := kat y (hin y hy)
      have i1 := (tin x (hin x hx') ns e4).ints
      have i2 := (tin y (hin y hy) ms f4).ints
      rw [i1, i2] at h
      show TS.code B (x.1.map intK) ≤ TS.code B (y.1.map intK)
      rw [e1, f1, intK_ints, intK_ints]
      exact h
/-- d.keys(), a dict with int and text keys -/
def rKeysK : V → List V → Hp → VK → Prop := fun x xs H Q => ∃ (a : Addr) (kvs : List (Key × V)), x = .ref a ∧ xs = [] ∧ H a = some (.dK kvs) ∧ ∀ p, H p = none → Q (.ref p) (upd H p (keysO p a))
theorem mt_keysK : MtR X "dict.keys" rKeysK := by
  intro pins s σ H x xs v us Q I rx rxs h
  obtain ⟨a, kvs, rfl, rfl, ha, q⟩ := h
  cases rx
  cases rxs
  obtain ⟨z, lo, vs, rel, dd⟩ := dk_rd I.hok (.inl ha)
  have hf : H s.heap.objs.size = none := I.hok.fresh (Nat.le_refl _)
  exact call_meetsIn PySem.F.slot_dict_keys dd.typeIs PySem.F.entry_dict_keys (PySem.F.args_dict_keys_1 _) (PySem.W.kdl_meets_keys (mixKind X.prog X.w) a lo)
    ⟨⟨vs, dd⟩, .ref s.heap.objs.size, upd H s.heap.objs.size (keysO s.heap.objs.size a), I.laid (t' := s.toks) (fun b u e => Heap.get?_push_of_some _ e) (Nat.le_refl _) (keysO_ok (Heap.get?_push_size _ rfl)), rfl, q _ hf⟩
def rSortKI : List V → Hp → VK → Prop := fun vs H Q => ∃ (p a : Addr) (kvs : List (Key × V)) (ks : List Int), vs = [.ref p] ∧ H p = some (keysO p a) ∧ H a = some (.dK kvs) ∧ kvs.map (·.1) = ks.map Sum.inl ∧ ks.length < 64 ∧
  ∀ (ys : List Int) (l : Addr), ys.Perm ks → ys.Pairwise (· ≤ ·) → H l = none → Q (.ref l) (upd H l (.lst (ys.map V.int)))
theorem cr_sortKI (hcalm : X.calm = true) : CallR X (.builtin "sorted") rSortKI := by
  intro pins s σ H xs us Q I r h
  obtain ⟨p, a, kvs, ks, rfl, hp, hd, hks, h64, q⟩ := h
  obtain rfl := Vals.ref1 r
  have view : PySem.W.KdlKeysView s.heap p a := (show ObjOk X.prog X.w H s.heap p (keysO p a) from I.hok p _ hp).1
  obtain ⟨z, lo, vs, rel, dd⟩ := dk_rd I.hok (.inl hd)
  obtain ⟨ep, hat⟩ := dd.dictAt
  have hkeys : vs.map (·.1) = ks.map Sum.inl := rel.keys.symm.trans hks
  have hl : vs.length = ks.length := by simpa using congrArg List.length hkeys
  refine sorted_src (PySem.W.kdl_keys (knd := mixKind X.prog X.w) (r := p) (d := a) (kvs := vs) (ep := ep)) (I.ok.hd hcalm) ⟨view, hat⟩ (by rw [hl, sizeLine_eq]; omega) fun h' tk us hk lu it => ?_
  have allI : IntsAre us ks := ints_each (by omega) fun j v e => by
    obtain ⟨k, x, e1, e2⟩ := it j v e
    have e3 : (ks.map (Sum.inl : Int → Key))[j]? = some k := by
      rw [← hkeys, List.getElem?_map, e1]
      rfl
    rw [List.getElem?_map] at e3
    obtain ⟨y, hy, rfl⟩ := Option.map_eq_some_iff.mp e3
    obtain ⟨t, ev⟩ := Value.isInt_shape (k := y) (v := v) e2
    exact ⟨y, t, hy, ev⟩
  have I1 : Inv X pins σ H { s with heap := h', toks := tk } := I.kept hk
  have at_ : (h'.push (seqObj "list" us.toArray 0)).get? h'.objs.size = some (seqObj "list" us.toArray 0) := Heap.get?_push_size _ rfl
  refine wpAny_call_entry PyProof.Rows.slot_list_sort ⟨_, at_, rfl⟩ PyProof.Rows.entry_list_sort
    (PyProof.Rows.list_sort_tree (s := { s with heap := h'.push (seqObj "list" us.toArray 0), toks := tk }) at_ allI (by omega) fun out ys g1 g2 g3 => ⟨_, rfl, ?_⟩) (PyProof.Rows.args_list_sort _)
  obtain ⟨e', he'⟩ := PyProof.Rows.sortedHeap_at (vs := us) (out := out) at_
  have small : (ys.map V.int).length ≤ sizeLine := by
    rw [List.length_map, g2.length_eq, sizeLine_eq]
    omega
  refine ⟨.ref h'.objs.size, upd H h'.objs.size (.lst (ys.map V.int)), I1.laid (t' := tk) (fun b u e => ?_) (Nat.le_refl _) ⟨small, out.toList, e', vals_of_ints g1, by rw [Array.toArray_toList]; exact he'⟩, rfl, q ys _ g2 g3 (I1.hok.fresh (Nat.le_refl _))⟩
  have lt : b < h'.objs.size := Heap.lt_size e
  rw [PyProof.Rows.sortedHeap_old (Nat.ne_of_lt lt) (by rw [size_push']; exact Nat.lt_succ_of_lt lt)]
  exact Heap.get?_push_of_some _ e
end
end WL

set_option Elab.async false
set_option linter.all false
set_option maxRecDepth 100000
namespace WL
open PySem PySem.Spec PyProof.Rows L2

structure Bt (mg : Str → Option Value) : Prop where
  len : mg "len" = none
  range : mg "range" = none
  sorted : mg "sorted" = none
  tuple : mg "tuple" = none
  list : mg "list" = none
  abs : mg "abs" = none
  isinstance : mg "isinstance" = none
  zip : mg "zip" = none
  all : mg "all" = none
  min : mg "min" = none
  max : mg "max" = none
  bool : mg "bool" = none
  str : mg "str" = none
  int : mg "int" = none
  set : mg "set" = none
  reversed : mg "reversed" = none
  enumerate : mg "enumerate" = none
structure Df (K : PySem.W.Frag) (mg : Str → Option Value) (x : Str) (st : Stmt) (f : Addr) (fd : FuncData) (ps : List Str) : Prop where
  F : Fun K x x st f fd
  g : mg x = some (.ref f)
  b : Binds K fd ps []

/-! ### heaps -/
theorem same_upd {H : Hp} {p : Addr} {o : HO} (h : H p = none) : Same H (upd H p o) := fun b x e => by
  rw [upd_ne (ne_of_none e h)]
  exact e
theorem sameT {K : PySem.W.Frag} {H H' : Hp} {a : Addr} {xs : List V} (e : Same H H') (h : SqT K H a xs) : SqT K H' a xs := by
  rcases h with (h | ⟨o, h⟩) | h
  · exact .inl (.inl (e _ _ h))
  · exact .inl (.inr ⟨o, e _ _ h⟩)
  · exact .inr h
/-- the tuples are kept -/
def Tk (H H' : Hp) : Prop := ∀ b xs, H b = some (.tup xs) → H' b = some (.tup xs)
theorem Tk.refl (H : Hp) : Tk H H := fun _ _ h => h
theorem Tk.trans {H H1 H2 : Hp} (a : Tk H H1) (b : Tk H1 H2) : Tk H H2 := fun c o h => b c o (a c o h)
theorem Tk.of {H H' : Hp} (s : Same H H') : Tk H H' := fun b xs h => s b _ h
theorem Tk.upd {H : Hp} {p : Addr} {o u : HO} (h : H p = some u) (nt : ∀ xs, u ≠ .tup xs) : Tk H (upd H p o) := fun b xs e => by
  rw [upd_ne]
  · exact e
  · intro z
    subst z
    rw [h] at e
    exact nt xs (Option.some.inj e)
/-- all but a and d.1 are as they were -/
def Kp (a : Addr) (d : Addr × Addr) (H H' : Hp) : Prop := ∀ b o, b ≠ a → b ≠ d.1 → H b = some o → H' b = some o
theorem Kp.refl (a : Addr) (d : Addr × Addr) (H : Hp) : Kp a d H H := fun _ _ _ _ h => h
theorem Kp.trans {a : Addr} {d : Addr × Addr} {H H1 H2 : Hp} (x : Kp a d H H1) (y : Kp a d H1 H2) : Kp a d H H2 := fun b o h1 h2 h => y b o h1 h2 (x b o h1 h2 h)
theorem Kp.of {a : Addr} {d : Addr × Addr} {H H' : Hp} (s : Same H H') : Kp a d H H' := fun b o _ _ h => s b o h

/-! ### the last that is let by -/
def pick {α : Type} (p : α → Bool) (rs : List α) : Option α := rs.reverse.find? p
theorem pick_nil {α : Type} (p : α → Bool) : pick p [] = none := rfl
theorem pick_snoc {α : Type} (p : α → Bool) (rs : List α) (x : α) : pick p (rs ++ [x]) = if p x then some x else pick p rs := by
  unfold pick
  rw [List.reverse_append]
  show List.find? p (x :: rs.reverse) = _
  rw [List.find?_cons]
  cases p x <;> rfl
theorem pick_take {α : Type} (p : α → Bool) {rs : List α} {i : Nat} {x : α} (h : rs[i]? = some x) : pick p (rs.take (i + 1)) = if p x then some x else pick p (rs.take i) := by
  rw [List.take_add_one, h]
  exact pick_snoc p _ x
theorem pick_mem {α : Type} {p : α → Bool} {rs : List α} {x : α} (h : pick p rs = some x) : x ∈ rs ∧ p x = true :=
  ⟨List.mem_reverse.mp (List.mem_of_find?_eq_some h), List.find?_some h⟩
theorem find_congr {α : Type} {p q : α → Bool} : ∀ {rs : List α}, (∀ x ∈ rs, p x = q x) → rs.find? p = rs.find? q
  | [], _ => rfl
  | y :: l, h => by
    rw [List.find?_cons, List.find?_cons, h y List.mem_cons_self, find_congr fun x hx => h x (List.mem_cons_of_mem _ hx)]
theorem pick_congr {α : Type} {p q : α → Bool} {rs : List α} (h : ∀ x ∈ rs, p x = q x) : pick p rs = pick q rs :=
  find_congr fun x hx => h x (List.mem_reverse.mp hx)

/-! ### data -/
theorem dp_ints {K : PySem.W.Frag} {H : Hp} : ∀ ns : List Int, DpAll K H (ns.map V.int) (ns.map PyData.int)
  | [] => .nil
  | n :: r => .cons (.int n) (dp_ints r)
theorem depth_ints : ∀ ns : List Int, PyData.depthAll (ns.map PyData.int) = 0
  | [] => rfl
  | n :: r => by
    show max (PyData.depth (PyData.int n)) (PyData.depthAll (r.map PyData.int)) = 0
    rw [depth_ints r]
    rfl
theorem lay_ints : ∀ ns : List Int, PyData.canLayAll0 (ns.map PyData.int) = true
  | [] => rfl
  | n :: r => by
    show (PyData.canLay0 (PyData.int n) && PyData.canLayAll0 (r.map PyData.int)) = true
    rw [lay_ints r]
    rfl
theorem shaped_ints (ns : List Int) : SeqAt.shaped (.tuple (ns.map PyData.int)) = true := by
  unfold SeqAt.shaped
  show (PyData.canLayAll0 (ns.map PyData.int) && decide (PyData.depthAll (ns.map PyData.int) + 1 ≤ 64)) = true
  rw [lay_ints, depth_ints]
  rfl
theorem shaped_intsL (ns : List Int) : SeqAt.shaped (.list (ns.map PyData.int)) = true := by
  unfold SeqAt.shaped
  show (PyData.canLayAll0 (ns.map PyData.int) && decide (PyData.depthAll (ns.map PyData.int) + 1 ≤ 64)) = true
  rw [lay_ints, depth_ints]
  rfl
theorem eqvAll_ints : ∀ ns ms : List Int, PyData.eqvAll (ns.map PyData.int) (ms.map PyData.int) = decide (ns = ms)
  | [], [] => rfl
  | [], _ :: _ => rfl
  | _ :: _, [] => rfl
  | n :: r, m :: t => by
    show (PyData.eqv (PyData.int n) (PyData.int m) && PyData.eqvAll (r.map PyData.int) (t.map PyData.int)) = _
    rw [eqvAll_ints r t]
    show ((n == m) && decide (r = t)) = decide (n :: r = m :: t)
    by_cases h : n = m
    · subst h
      by_cases h2 : r = t
      · subst h2; simp
      · simp [h2]
    · simp [h]
/-- an item of a list that is not empty -/
theorem atI_some {α : Type} {xs : List α} {i : Int} (h0 : 0 ≤ i) (h1 : i < xs.length) : ∃ v, atI xs i = some v ∧ v ∈ xs := by
  obtain ⟨j, rfl⟩ := Int.eq_ofNat_of_zero_le h0
  have hj : j < xs.length := by omega
  exact ⟨xs[j], atI_nat (List.getElem?_eq_getElem hj), List.getElem_mem hj⟩
theorem emod_lt {r m : Int} (h : 0 < m) : 0 ≤ r % m ∧ r % m < m := ⟨Int.emod_nonneg r (by omega), Int.emod_lt_of_pos r h⟩
theorem size_lt {n : Nat} (h : n ≤ 1000000) : n < sizeLine := Nat.lt_of_le_of_lt h (by decide)
theorem size_le {n : Nat} (h : n ≤ 1000000) : n ≤ sizeLine := Nat.le_of_lt (size_lt h)
theorem itePos {c A B : Prop} [Decidable c] (hc : c) (h : A) : if decide c = true then A else B := by
  rw [decide_eq_true hc]
  exact iteT h
theorem iteNeg {c A B : Prop} [Decidable c] (hc : ¬ c) (h : B) : if decide c = true then A else B := by
  rw [decide_eq_false hc]
  exact iteF h
theorem iteNT {c A B : Prop} [Decidable c] (hc : ¬ c) (h : A) : if (!decide c) = true then A else B := by
  rw [decide_eq_false hc]
  exact iteT h
theorem len1 {ns : List Int} (h : ns.length = 1) : ∃ k, ns = [k] := by
  match ns, h with
  | [k], _ => exact ⟨k, rfl⟩
theorem len2 {ns : List Int} (h : ns.length = 2) : ∃ k r, ns = [k, r] := by
  match ns, h with
  | [k, r], _ => exact ⟨k, r, rfl⟩

/-! ### rows: some ints, a day, the rest -/
structure Row where
  a : Addr
  ns : List Int
  s : Int
  l : List V
def Rw (n : Nat) (H : Hp) (q : Row) : Prop := q.ns.length = n ∧ H q.a = some (.tup (q.ns.map V.int ++ .int q.s :: q.l))
def hit (bs : List Int) (t : Int) (q : Row) : Bool := decide (q.ns = bs) && decide (q.s ≤ t)
def optV : Option Row → V
  | none => .non
  | some q => .ref q.a
def Rows (K : PySem.W.Frag) (n : Nat) (H : Hp) (r : Addr) (rs : List Row) : Prop := H r = some (.tup (rs.map fun q => V.ref q.a)) ∧ ∀ q ∈ rs, Rw n H q
theorem Rows.same {K : PySem.W.Frag} {n : Nat} {H H' : Hp} {r : Addr} {rs : List Row} (s : Same H H') (h : Rows K n H r rs) : Rows K n H' r rs := ⟨s _ _ h.1, fun q hq => ⟨(h.2 q hq).1, s _ _ (h.2 q hq).2⟩⟩
theorem Rows.tk {K : PySem.W.Frag} {n : Nat} {H H' : Hp} {r : Addr} {rs : List Row} (s : Tk H H') (h : Rows K n H r rs) : Rows K n H' r rs := ⟨s _ _ h.1, fun q hq => ⟨(h.2 q hq).1, s _ _ (h.2 q hq).2⟩⟩
/-- lands as they are read: the land at i, its part p -/
def Part (H : Hp) (a : Addr) (i p : Nat) (v : V) : Prop := ∃ (ls parts : List V) (l : Addr), H a = some (.tup ls) ∧ ls[i]? = some (.ref l) ∧ H l = some (.tup parts) ∧ parts[p]? = some v
theorem Part.tk {H H' : Hp} {a : Addr} {i p : Nat} {v : V} (s : Tk H H') (h : Part H a i p v) : Part H' a i p v := let ⟨ls, ps, l, h1, h2, h3, h4⟩ := h; ⟨ls, ps, l, s _ _ h1, h2, s _ _ h3, h4⟩
theorem cut_to {as : List V} {b : V} {l : List V} : cutV (as ++ b :: l) none (some (as.length : Int)) = as := by
  unfold cutV
  rw [HT.sIx_none, show HT.sIx (as ++ b :: l).length (as ++ b :: l).length (some (as.length : Int)) = min as.length (as ++ b :: l).length from HT.sIx_nat _ _ _]
  rw [show min as.length (as ++ b :: l).length = as.length by rw [List.length_append]; omega]
  simp
theorem notwhole {as : List V} {b : V} {l : List V} : ¬ (HT.sIx (as ++ b :: l).length 0 none = 0 ∧ HT.sIx (as ++ b :: l).length (as ++ b :: l).length (some (as.length : Int)) = (as ++ b :: l).length) := fun h => by
  have h2 := h.2
  rw [show HT.sIx (as ++ b :: l).length (as ++ b :: l).length (some (as.length : Int)) = min as.length (as ++ b :: l).length from HT.sIx_nat _ _ _, List.length_append, List.length_cons] at h2
  omega
theorem mul_bd {x y a b : Int} (h0 : 0 ≤ x) (h1 : x ≤ a) (h2 : 0 ≤ y) (h3 : y ≤ b) : 0 ≤ x * y ∧ x * y ≤ a * b :=
  ⟨Int.mul_nonneg h0 h2, Int.mul_le_mul h1 h3 h2 (by omega)⟩

/-! ### the deck -/
abbrev MM : Int := 2147483629
def primes : List Int := [48271, 69621, 16807, 39373, 30323, 51749, 44417, 27449, 63073, 55001, 33791, 40009]
theorem prime_at {i : Int} (h0 : 0 ≤ i) (h1 : i < 12) : ∃ x, atI (primes.map V.int) i = some (.int x) ∧ 0 ≤ x ∧ x ≤ 70000 := by
  obtain ⟨v, hv, hm⟩ := atI_some (xs := primes.map V.int) h0 h1
  obtain ⟨x, hx, rfl⟩ := List.mem_map.mp hm
  have : ∀ x ∈ primes, 0 ≤ x ∧ x ≤ 70000 := by decide
  exact ⟨x, hv, this x hx⟩
def Dk (H : Hp) (a : Addr) (d : Addr × Addr) (N : Nat) : Prop := ∃ (ds cs : List Int) (n : Nat), H a = some (.lst [.ref d.1, .ref d.2, .int n]) ∧ H d.1 = some (.lst (ds.map V.int)) ∧ H d.2 = some (.lst (cs.map V.int)) ∧
  a ≠ d.1 ∧ d.2 ≠ a ∧ d.2 ≠ d.1 ∧ n ≤ N ∧ (∀ x ∈ ds, 0 ≤ x ∧ x < MM) ∧ (∀ x ∈ cs, 0 ≤ x ∧ x < MM) ∧ 0 < cs.length ∧ cs.length ≤ 64
section
variable {H H' : Hp} {a p : Addr} {d : Addr × Addr} {N M : Nat} {o u : HO}
theorem Dk.mono (h : Dk H a d N) (l : N ≤ M) : Dk H a d M := by
  obtain ⟨ds, cs, n, h1, h2, h3, h4, h5, h6, h7, h8⟩ := h
  exact ⟨ds, cs, n, h1, h2, h3, h4, h5, h6, by omega, h8⟩
theorem Dk.same (h : Dk H a d N) (s : Same H H') : Dk H' a d N := by
  obtain ⟨ds, cs, n, h1, h2, h3, h4⟩ := h
  exact ⟨ds, cs, n, s _ _ h1, s _ _ h2, s _ _ h3, h4⟩
/-- something else is written -/
theorem Dk.updL (h : Dk H a d N) (n1 : p ≠ a) (n2 : p ≠ d.1) (n3 : p ≠ d.2) : Dk (upd H p o) a d N := by
  obtain ⟨ds, cs, n, h1, h2, h3, h4⟩ := h
  exact ⟨ds, cs, n, by rw [upd_ne n1.symm]; exact h1, by rw [upd_ne n2.symm]; exact h2, by rw [upd_ne n3.symm]; exact h3, h4⟩
theorem Dk.ne (h : Dk H a d N) (hp : H p = some u) (nl : ∀ xs, u ≠ .lst xs) : p ≠ a ∧ p ≠ d.1 ∧ p ≠ d.2 := by
  obtain ⟨ds, cs, n, h1, h2, h3, h4⟩ := h
  refine ⟨fun z => ?_, fun z => ?_, fun z => ?_⟩
  · subst z; rw [h1] at hp; exact nl _ (Option.some.inj hp).symm
  · subst z; rw [h2] at hp; exact nl _ (Option.some.inj hp).symm
  · subst z; rw [h3] at hp; exact nl _ (Option.some.inj hp).symm
theorem Dk.nn (h : Dk H a d N) (hp : H p = none) : p ≠ a ∧ p ≠ d.1 ∧ p ≠ d.2 := by
  obtain ⟨ds, cs, n, h1, h2, h3, h4⟩ := h
  exact ⟨(ne_of_none h1 hp).symm, (ne_of_none h2 hp).symm, (ne_of_none h3 hp).symm⟩
theorem Dk.upd (h : Dk H a d N) (hp : H p = some u) (nl : ∀ xs, u ≠ .lst xs) : Dk (upd H p o) a d N :=
  let ⟨n1, n2, n3⟩ := h.ne hp nl
  h.updL n1 n2 n3
theorem Dk.tk (h : Dk H a d N) (k : Kp a d H H') : Tk H H' := fun b xs e =>
  let ⟨n1, n2, _⟩ := h.ne e (fun ys z => nomatch z)
  k b _ n1 n2 e
end
end WL

set_option Elab.async false
set_option linter.all false
set_option maxRecDepth 100000
namespace WL
open PySem PySem.Spec PyProof.Rows L2

theorem valV_in : ∀ {kvs : List (List Key × V)} {k : List Key}, k ∈ kvs.map (·.1) → ∃ v, valV kvs k = some v ∧ (k, v) ∈ kvs
  | [], k, h => by simp at h
  | p :: r, k, h => by
    by_cases e : p.1 = k
    · exact ⟨p.2, valV_pos e, by rw [← e]; exact List.mem_cons_self⟩
    · have h' : k ∈ r.map (·.1) := by
        rw [List.map_cons] at h
        rcases List.mem_cons.mp h with z | z
        · exact absurd z.symm e
        · exact z
      obtain ⟨v, h1, h2⟩ := valV_in h'
      exact ⟨v, by rw [valV_neg e]; exact h1, List.mem_cons_of_mem _ h2⟩
theorem putK_mem {kvs : List (List Key × V)} {k : List Key} {v : V} {p : List Key × V} (h : p ∈ putK kvs k v) : p ∈ kvs ∨ p = (k, v) := by
  unfold putK at h
  split at h
  · obtain ⟨q, hq, e⟩ := List.mem_map.mp h
    by_cases c : q.1 = k
    · rw [if_pos c] at e
      exact .inr (by rw [← e, c])
    · rw [if_neg c] at e
      exact .inl (by rw [← e]; exact hq)
  · rcases List.mem_append.mp h with z | z
    · exact .inl z
    · exact .inr (List.mem_singleton.mp z)
theorem putK_len {kvs : List (List Key × V)} {k : List Key} {v : V} : (putK kvs k v).length ≤ kvs.length + 1 := by
  unfold putK
  split
  · rw [List.length_map]; omega
  · rw [List.length_append]; exact Nat.le_refl _

/-- what comes behind the key in a row -/
def tlOne (_ : Hp) (v : V) : List V := [v]
def tlTup (H : Hp) (v : V) : List V := match v with
  | .ref e => match H e with
    | some (.tup ys) => ys
    | _ => []
  | _ => []
/-- a row made of an entry of the dict -/
structure DRow where
  a : Addr
  ns : List Int
  v : V
/-- tuple([key + .. for key in sorted(kept.keys())]) -/
theorem rows_of_dict {K : PySem.W.Frag} {σ : L2.St} {H : Hp} {Q : VK} {te : TE} {ks i d : Nat} {B : Int} {k : Addr} {kvs : List (List Key × V)} (tl : V → List V)
    (hk : H k = some (.dT kvs)) (h64 : kvs.length < 64) (hB : ∀ e ∈ kvs, ∃ ns : List Int, e.1 = ns.map Sum.inl ∧ ns.length = d ∧ TS.Bd B ns)
    (h0 : σ[ks]? = some (some (.ref k))) (hw : ∀ x, wipe ((wipe σ [i]).set i (some x)) [i] = wipe σ [i])
    (hstep : ∀ (ns : List Int) (b : Addr) (v : V) (H3 : Hp) (Qe : VK), Same H H3 → H3 b = some (.tup (ns.map V.int)) → ns.length = d → valV kvs (ns.map Sum.inl) = some v → (ns.map Sum.inl, v) ∈ kvs →
      (∀ p H4, Same H3 H4 → H4 p = some (.tup (ns.map V.int ++ tl v)) → Qe (.ref p) H4) → te ((wipe σ [i]).set i (some (.ref b))) H3 Qe)
    (q : ∀ (t : Addr) (R : List DRow) (H' : Hp), Same H H' → H' t = some (.tup (R.map fun q => V.ref q.a)) → R.length = kvs.length → (∀ q ∈ R, H' q.a = some (.tup (q.ns.map V.int ++ tl q.v)) ∧ q.ns.length = d ∧ (q.ns.map Sum.inl, q.v) ∈ kvs) →
      R.Pairwise (fun q r => TS.code B q.ns ≤ TS.code B r.ns) → H t = none → Q (.ref t) H') :
    tCB (fun xs H Q => ∃ p ys, xs = [V.ref p] ∧ ((SqL K H p ys ∧ ∀ l, H l = none → Q (.ref l) (upd H l (.tup ys))) ∨ (SqT K H p ys ∧ Q (.ref p) H)))
      (tCons (tLc (iList K (tCB (rSortK d B) (tCons (tBM0 K "dict" rKeysT (tVar ks)) tNil))) (gName i) tYes te [i]) tNil) σ H Q := by
  refine ⟨_, h0, .inr (.inr (.inl ⟨rfl, .inr ⟨kvs, hk⟩⟩)), k, kvs, rfl, rfl, hk, fun p np => ?_⟩
  have s1 : Same H (upd H p (keysO p k)) := same_upd np
  refine ⟨p, k, kvs, rfl, upd_same, s1 _ _ hk, h64, hB, fun l L perm hL pw nl => ?_⟩
  have s2 := s1.trans (same_upd (o := .lst (L.map fun q => V.ref q.2)) nl)
  refine ⟨l, rfl, ⟨_, SqL.of upd_same⟩, fun D nD => lc_list (K := K) (xs := L.map fun q => V.ref q.2)
    (fun j H3 => ∃ R : List DRow, R.length = j ∧ H3 D = some (.lst (R.map fun q => V.ref q.a)) ∧ Same (upd (upd H p (keysO p k)) l (.lst (L.map fun q => V.ref q.2))) H3 ∧
      (∀ q ∈ R, H3 q.a = some (.tup (q.ns.map V.int ++ tl q.v)) ∧ q.ns.length = d ∧ (q.ns.map Sum.inl, q.v) ∈ kvs) ∧ R.map (fun q => q.ns) = (L.take j).map (·.1))
    ⟨[], rfl, upd_same, same_upd nD, (fun q hq => absurd hq List.not_mem_nil), rfl⟩ (fun j H3 _ hP => ?_) (fun j x H3 hx hP => ?_) (fun H3 hP => ?_)⟩
  · obtain ⟨R, _, _, sm, _⟩ := hP
    exact SqL.of (sm _ _ upd_same)
  · obtain ⟨R, lR, hD, sm, hR, eR⟩ := hP
    rw [List.getElem?_map] at hx
    obtain ⟨⟨ns, b⟩, hz, rfl⟩ := Option.map_eq_some_iff.mp hx
    have zm := List.mem_of_getElem? hz
    have hb := hL _ zm
    have hb3 : H3 b = some (.tup (ns.map V.int)) := sm _ _ (by
      rw [upd_ne (ne_of_none hb nl)]
      exact hb)
    have hkm : (ns.map Sum.inl : List Key) ∈ kvs.map (·.1) := perm.mem_iff.mp (List.mem_map.mpr ⟨(ns, b), zm, rfl⟩)
    obtain ⟨v, hv, vm⟩ := valV_in hkm
    have hlen : ns.length = d := by
      obtain ⟨ns', e1, e2, _⟩ := hB _ vm
      have e3 : ns.map (Sum.inl : Int → Key) = ns'.map Sum.inl := e1
      have e4 := congrArg List.length e3
      rw [List.length_map, List.length_map] at e4
      omega
    have jl : j < L.length := (List.getElem?_eq_some_iff.mp hz).1
    have l64 : L.length < 64 := by
      have := perm.length_eq
      rw [List.length_map, List.length_map] at this
      omega
    refine ⟨hw _, ?_⟩
    simp only [tYes, if_true]
    refine hstep ns b v H3 _ (s2.trans sm) hb3 hlen hv vm fun p' H4 sm4 hp' => ⟨R.map fun q => V.ref q.a, sm4 _ _ hD, size_lt (by rw [List.length_map]; omega), R ++ [⟨p', ns, v⟩], ?_, ?_, ?_, ?_, ?_⟩
    · rw [List.length_append, lR]; rfl
    · rw [upd_same, List.map_append]; rfl
    · intro c o hc
      rw [upd_ne (ne_of_none hc nD)]
      exact sm4 _ _ (sm _ _ hc)
    · intro r hr
      have nD' : ∀ (c : Addr) (ys : List V), H4 c = some (.tup ys) → c ≠ D := fun c ys hc z => by
        subst z
        rw [sm4 _ _ hD] at hc
        cases hc
      rcases List.mem_append.mp hr with h | h
      · obtain ⟨h1, h2⟩ := hR r h
        have h3 := sm4 _ _ h1
        exact ⟨by rw [upd_ne (nD' _ _ h3)]; exact h3, h2⟩
      · rw [List.mem_singleton.mp h]
        exact ⟨by rw [upd_ne (nD' _ _ hp')]; exact hp', hlen, vm⟩
    · rw [List.map_append, eR, List.take_add_one, hz, List.map_append]
      rfl
  · obtain ⟨R, lR, hD, sm, hR, eR⟩ := hP
    rw [List.length_map] at lR
    rw [List.length_map, List.take_length] at eR
    have eL : L.length = kvs.length := by
      have := perm.length_eq
      rw [List.length_map, List.length_map] at this
      exact this
    refine ⟨D, _, rfl, .inl ⟨SqL.of hD, fun t nt => q t R _ (s2.trans (sm.trans (same_upd nt))) upd_same (by omega) (fun r hr => ?_) ?_ ((s2.trans sm).free nt)⟩⟩
    · obtain ⟨h1, h2⟩ := hR r hr
      exact ⟨by rw [upd_ne (ne_of_none h1 nt)]; exact h1, h2⟩
    · have e : R.Pairwise (fun q r => TS.code B q.ns ≤ TS.code B r.ns) ↔ (R.map fun q => q.ns).Pairwise (fun n m => TS.code B n ≤ TS.code B m) := by rw [List.pairwise_map]
      rw [e, eR, List.pairwise_map]
      exact pw

/-- a comprehension over zip(t, u), t and u tuples of one length -/
theorem lc_zipT {K : PySem.W.Frag} {a b : Addr} {xs ys : List V} {g : TG} {tt : TT} {te : TE} {vs : List Nat} {σ : L2.St} {H1 : Hp} {D : Addr} {Qd : Hp → Prop} (hl : xs.length = ys.length) (Pv : Nat → Hp → Prop) (h0 : Pv 0 (upd H1 D (.lst []))) (hq : ∀ i H, Pv i H → SqT K H a xs ∧ SqT K H b ys)
    (hs : ∀ (i : Nat) (x y : V) (T : Addr) (H : Hp), xs[i]? = some x → ys[i]? = some y → Pv i H → H T = none → g (.ref T) (wipe σ vs) (upd H T (.tup [x, y])) fun σ2 H2 => wipe σ2 vs = wipe σ vs ∧ tt σ2 H2 fun b H3 =>
      if b = true then te σ2 H3 fun y H4 => ∃ acc, H4 D = some (.lst acc) ∧ acc.length < sizeLine ∧ Pv (i + 1) (upd H4 D (.lst (acc ++ [y]))) else Pv (i + 1) H3) (hd : ∀ H, Pv xs.length H → Qd H) :
    ∃ W : Nat → Nat → Hp → Prop, (∃ m, W 0 m (upd H1 D (.lst []))) ∧ ∀ i m H, W i m H →
      ((RZ.ItzT K a b).stop i H ∧ Qd H) ∨ ((RZ.ItzT K a b).go i H ∧ ∃ Nx : Hp → Prop, (∀ H', Nx H' → ∃ m', m' < m ∧ W (i + 1) m' H') ∧ ∀ x H', (RZ.ItzT K a b).yld i H x H' → g x (wipe σ vs) H' fun σ2 H2 => wipe σ2 vs = wipe σ vs ∧ tt σ2 H2 fun b H3 =>
        if b = true then te σ2 H3 fun y H4 => ∃ acc, H4 D = some (.lst acc) ∧ acc.length < sizeLine ∧ Nx (upd H4 D (.lst (acc ++ [y]))) else Nx H3) := by
  refine ⟨fun i m H => m = xs.length - i ∧ i ≤ xs.length ∧ Pv i H, ⟨xs.length, by simp, Nat.zero_le _, h0⟩, ?_⟩
  rintro i m H ⟨rfl, hi, p⟩
  obtain ⟨qx, qy⟩ := hq i H p
  by_cases hlt : i < xs.length
  · have hx : xs[i]? = some xs[i] := List.getElem?_eq_getElem hlt
    have hlt2 : i < ys.length := by omega
    have hy : ys[i]? = some ys[i] := List.getElem?_eq_getElem hlt2
    refine .inr ⟨⟨xs, ys, _, _, qx, qy, hx, hy⟩, Pv (i + 1), fun H' p' => ⟨xs.length - (i + 1), by omega, rfl, hlt, p'⟩, fun v H' y => ?_⟩
    obtain ⟨T, x', y', rfl, hT, rfl, f1, f2⟩ := y
    exact hs i x' y' T H (f1 xs qx) (f2 ys qy) p hT
  · have e : i = xs.length := by omega
    subst e
    exact .inl ⟨⟨xs, ys, qx, qy, Or.inl (Nat.le_refl _)⟩, hd H p⟩

/-! ### data -/
def flat : V → Bool
  | .non => true
  | .bl _ => true
  | .int _ => true
  | .str _ => true
  | _ => false
/-- two like data, at most n tuples deep -/
def Alike : Nat → Hp → V → V → Prop
  | 0, _, v, w => flat v = true ∧ v = w
  | n + 1, H, v, w => (flat v = true ∧ v = w) ∨ ∃ a b xs ys, v = .ref a ∧ w = .ref b ∧ H a = some (.tup xs) ∧ H b = some (.tup ys) ∧ xs.length = ys.length ∧ xs.length ≤ 1000 ∧ ∀ (i : Nat) x y, xs[i]? = some x → ys[i]? = some y → Alike n H x y
theorem Alike.tk {H H' : Hp} (t : Tk H H') : ∀ {n : Nat} {v w : V}, Alike n H v w → Alike n H' v w
  | 0, _, _, h => h
  | n + 1, _, _, .inl h => .inl h
  | n + 1, _, _, .inr ⟨a, b, xs, ys, h1, h2, h3, h4, h5, h7, h6⟩ => .inr ⟨a, b, xs, ys, h1, h2, t _ _ h3, t _ _ h4, h5, h7, fun i x y e1 e2 => (h6 i x y e1 e2).tk t⟩
theorem Alike.mono {H : Hp} : ∀ {n : Nat} {v w : V}, Alike n H v w → Alike (n + 1) H v w
  | 0, _, _, h => .inl h
  | n + 1, _, _, .inl h => .inl h
  | n + 1, _, _, .inr ⟨a, b, xs, ys, h1, h2, h3, h4, h5, h7, h6⟩ => .inr ⟨a, b, xs, ys, h1, h2, h3, h4, h5, h7, fun i x y e1 e2 => (h6 i x y e1 e2).mono⟩
theorem Alike.le {H : Hp} {n m : Nat} {v w : V} (h : Alike n H v w) (l : n ≤ m) : Alike m H v w := by
  induction l with
  | refl => exact h
  | step _ ih => exact ih.mono
/-- data, at most n tuples deep -/
def Da (n : Nat) (H : Hp) (v : V) : Prop := Alike n H v v
theorem Da.flat {n : Nat} {H : Hp} {v : V} (h : flat v = true) : Da n H v := by
  cases n with
  | zero => exact ⟨h, rfl⟩
  | succ n => exact .inl ⟨h, rfl⟩
theorem Da.tup {n : Nat} {H : Hp} {a : Addr} {xs : List V} (h : H a = some (.tup xs)) (hl : xs.length ≤ 1000) (hx : ∀ x ∈ xs, Da n H x) : Da (n + 1) H (.ref a) :=
  .inr ⟨a, a, xs, xs, rfl, rfl, h, h, rfl, hl, fun i x y e1 e2 => by
    rw [e1] at e2
    cases e2
    exact hx x (List.mem_of_getElem? e1)⟩
end WL

set_option Elab.async false
set_option linter.all false
set_option maxRecDepth 100000
namespace WL
open PySem PySem.Spec PyProof.Rows L2
/-! ### rows out of entries -/
def toRow (tl : V → List V) (q : DRow) : Row := ⟨q.a, q.ns.dropLast, q.ns.getLastD 0, tl q.v⟩
theorem rows_mk {K : PySem.W.Frag} {d : Nat} {H : Hp} {t : Addr} {R : List DRow} {tl : V → List V} (ht : H t = some (.tup (R.map fun q => V.ref q.a))) (hR : ∀ q ∈ R, H q.a = some (.tup (q.ns.map V.int ++ tl q.v)) ∧ q.ns.length = d + 1) : Rows K d H t (R.map (toRow tl)) := by
  refine ⟨?_, fun q hq => ?_⟩
  · rw [List.map_map]
    exact ht
  · obtain ⟨r, hr, rfl⟩ := List.mem_map.mp hq
    obtain ⟨h1, h2⟩ := hR r hr
    refine ⟨by show r.ns.dropLast.length = d; rw [List.length_dropLast]; omega, ?_⟩
    show H r.a = some (.tup (r.ns.dropLast.map V.int ++ .int (r.ns.getLastD 0) :: tl r.v))
    have e : r.ns = r.ns.dropLast ++ [r.ns.getLastD 0] := by
      cases e : r.ns with
      | nil => rw [e] at h2; simp at h2
      | cons x y =>
        rw [List.getLastD_cons, List.getLastD_eq_getLast?]
        have := List.dropLast_concat_getLast (l := x :: y) (List.cons_ne_nil x y)
        rw [← this]
        simp [List.getLast_cons, List.getLast?_eq_getLast]
        cases y with
        | nil => simp
        | cons z w => simp [List.getLast?_eq_getLast]
    rw [h1]
    conv => lhs; rw [e]
    rw [List.map_append, List.append_assoc]
    rfl
/-- rows that are good: n ints ahead, a day, c things behind, each data of depth m -/
def GoodRows (K : PySem.W.Frag) (n m c : Nat) (H : Hp) (t : Addr) (rs : List Row) : Prop := Rows K n H t rs ∧ rs.length ≤ 60 ∧ ∀ q ∈ rs, 0 ≤ q.s ∧ q.s ≤ 1000000000 ∧ q.l.length = c ∧ ∀ x ∈ q.l, Da m H x
theorem GoodRows.tk {K : PySem.W.Frag} {n m c : Nat} {H H' : Hp} {t : Addr} {rs : List Row} (s : Tk H H') (h : GoodRows K n m c H t rs) : GoodRows K n m c H' t rs := ⟨h.1.tk s, h.2.1, fun q hq => let ⟨a, b, c, d⟩ := h.2.2 q hq; ⟨a, b, c, fun x hx => (d x hx).tk s⟩⟩
theorem tkT {K : PySem.W.Frag} {H H' : Hp} {a : Addr} {xs : List V} (t : Tk H H') (h : H a = some (.tup xs)) : SqT K H' a xs := SqT.of (t _ _ h)
/-- an entry of a dict of rows -/
def Ent (d m c : Nat) (tl : Hp → V → List V) (H : Hp) (e : List Key × V) : Prop := ∃ ns : List Int, e.1 = ns.map Sum.inl ∧ ns.length = d ∧ TS.Bd 2000000000 ns ∧ ns.getLastD 0 ≤ 1000000000 ∧ (tl H e.2).length = c ∧ ∀ x ∈ tl H e.2, Da m H x
theorem last_nn {ns : List Int} (h : TS.Bd 2000000000 ns) : 0 ≤ ns.getLastD 0 := by
  cases e : ns with
  | nil => exact Int.le_refl _
  | cons x y =>
    rw [List.getLastD_cons, List.getLastD_eq_getLast?]
    cases e2 : y.getLast? with
    | none => exact (h x (by rw [e]; exact List.mem_cons_self)).1
    | some z => exact (h z (by rw [e]; exact List.mem_cons_of_mem _ (List.mem_of_getLast? e2))).1
theorem good_mk {K : PySem.W.Frag} {d m c : Nat} {H H' : Hp} {t : Addr} {R : List DRow} {kvs : List (List Key × V)} {tl : Hp → V → List V} (tk : Tk H H') (hE : ∀ e ∈ kvs, Ent (d + 1) m c tl H e) (h64 : kvs.length ≤ 60) (ht : H' t = some (.tup (R.map fun q => V.ref q.a))) (lR : R.length = kvs.length)
    (hR : ∀ q ∈ R, H' q.a = some (.tup (q.ns.map V.int ++ tl H q.v)) ∧ q.ns.length = d + 1 ∧ (q.ns.map Sum.inl, q.v) ∈ kvs) : GoodRows K d m c H' t (R.map (toRow (tl H))) := by
  refine ⟨rows_mk ht fun q hq => ⟨(hR q hq).1, (hR q hq).2.1⟩, by rw [List.length_map]; omega, fun q hq => ?_⟩
  obtain ⟨r, hr, rfl⟩ := List.mem_map.mp hq
  obtain ⟨ns, e1, e2, e3, e4, e5, e6⟩ := hE _ (hR r hr).2.2
  have en : r.ns = ns := by
    have e1' : r.ns.map (Sum.inl : Int → Key) = ns.map Sum.inl := e1
    have := congrArg (List.map intK) e1'
    rw [intK_ints, intK_ints] at this
    exact this
  refine ⟨?_, ?_, e5, fun x hx => (e6 x hx).tk tk⟩
  · show 0 ≤ r.ns.getLastD 0
    rw [en]; exact last_nn e3
  · show r.ns.getLastD 0 ≤ 1000000000
    rw [en]; exact e4
/-- while a dict of rows is filled -/
structure Kept (d m c : Nat) (tl : Hp → V → List V) (a : Addr) (dd : Addr × Addr) (k : Addr) (H0 H : Hp) (N b : Nat) : Prop where
  ex : ∃ kvs, H k = some (.dT kvs) ∧ kvs.length ≤ b ∧ ∀ e ∈ kvs, Ent d m c tl H e
  dk : Dk H a dd N
  kp : Kp a dd H0 H
  nk : H0 k = none
theorem Ent.one {d m : Nat} {H H' : Hp} {e : List Key × V} (tk : Tk H H') (h : Ent d m 1 tlOne H e) : Ent d m 1 tlOne H' e := by
  obtain ⟨ns, e1, e2, e3, e4, e5, e6⟩ := h
  exact ⟨ns, e1, e2, e3, e4, e5, fun x hx => (e6 x hx).tk tk⟩
theorem tlTup_eq {H : Hp} {e : Addr} {ys : List V} (h : H e = some (.tup ys)) : tlTup H (.ref e) = ys := by
  unfold tlTup
  simp only [h]
theorem tlTup_of {H : Hp} {v : V} {c : Nat} (h : (tlTup H v).length = c) (hc : 0 < c) : ∃ e ys, v = .ref e ∧ H e = some (.tup ys) := by
  cases v with
  | ref x =>
    cases hx : H x with
    | none =>
      unfold tlTup at h
      simp only [hx] at h
      simp at h
      omega
    | some o =>
      cases o with
      | tup ys => exact ⟨x, ys, rfl, hx⟩
      | _ =>
        unfold tlTup at h
        simp only [hx] at h
        simp at h
        omega
  | _ =>
    unfold tlTup at h
    simp at h
    omega
theorem Ent.tup {d m c : Nat} {H H' : Hp} {e : List Key × V} (tk : Tk H H') (hc : 0 < c) (h : Ent d m c tlTup H e) : Ent d m c tlTup H' e := by
  obtain ⟨ns, e1, e2, e3, e4, e5, e6⟩ := h
  have ee : tlTup H' e.2 = tlTup H e.2 := by
    cases ev : e.2 with
    | ref x =>
      cases hx : H x with
      | none =>
        rw [ev] at e5
        unfold tlTup at e5
        simp only [hx] at e5
        simp at e5
        omega
      | some o =>
        cases o with
        | tup ys => rw [tlTup_eq hx, tlTup_eq (tk _ _ hx)]
        | _ =>
          rw [ev] at e5
          unfold tlTup at e5
          simp only [hx] at e5
          simp at e5
          omega
    | _ =>
      rw [ev] at e5
      unfold tlTup at e5
      simp at e5
      omega
  exact ⟨ns, e1, e2, e3, e4, by rw [ee]; exact e5, by rw [ee]; exact fun x hx => (e6 x hx).tk tk⟩
section
variable {d m c : Nat} {tl : Hp → V → List V} {a k : Addr} {dd : Addr × Addr} {H0 H H' : Hp} {N b : Nat}
theorem Kept.nek (x : Kept d m c tl a dd k H0 H N b) : k ≠ a ∧ k ≠ dd.1 ∧ k ≠ dd.2 := by
  obtain ⟨kvs, hk, _⟩ := x.ex
  exact x.dk.ne hk fun xs => fun z => nomatch z
/-- the deck moves on, or new things come -/
theorem Kept.step (et : ∀ {H H' : Hp} {e : List Key × V}, Tk H H' → Ent d m c tl H e → Ent d m c tl H' e) (x : Kept d m c tl a dd k H0 H N b) (kp : Kp a dd H H') {N' : Nat} (dk : Dk H' a dd N') : Kept d m c tl a dd k H0 H' N' b := by
  obtain ⟨kvs, hk, hb, hE⟩ := x.ex
  have tk := x.dk.tk kp
  exact ⟨⟨kvs, kp _ _ x.nek.1 x.nek.2.1 hk, hb, fun e he => et tk (hE e he)⟩, dk, x.kp.trans kp, x.nk⟩
theorem Kept.same (et : ∀ {H H' : Hp} {e : List Key × V}, Tk H H' → Ent d m c tl H e → Ent d m c tl H' e) (x : Kept d m c tl a dd k H0 H N b) (s : Same H H') : Kept d m c tl a dd k H0 H' N b := x.step et (Kp.of s) (x.dk.same s)
theorem Kept.mono {N' b' : Nat} (x : Kept d m c tl a dd k H0 H N b) (h1 : N ≤ N') (h2 : b ≤ b') : Kept d m c tl a dd k H0 H N' b' := by
  obtain ⟨kvs, hk, hb, hE⟩ := x.ex
  exact ⟨⟨kvs, hk, by omega, hE⟩, x.dk.mono h1, x.kp, x.nk⟩
theorem Kept.new (h : Dk H0 a dd N) (np : H0 k = none) : Kept d m c tl a dd k H0 (upd H0 k (.dT [])) N 0 :=
  ⟨⟨[], upd_same, Nat.le_refl _, fun e he => absurd he List.not_mem_nil⟩, h.same (same_upd np), Kp.of (same_upd np), np⟩
/-- an entry is put -/
theorem Kept.put (et : ∀ {H H' : Hp} {e : List Key × V}, Tk H H' → Ent d m c tl H e → Ent d m c tl H' e) (x : Kept d m c tl a dd k H0 H N b) {ns : List Int} {v : V} (hv : Ent d m c tl H (ns.map Sum.inl, v)) {kvs : List (List Key × V)} (hk : H k = some (.dT kvs)) :
    Kept d m c tl a dd k H0 (upd H k (.dT (putK kvs (ns.map Sum.inl) v))) N (b + 1) := by
  obtain ⟨kvs', hk', hb, hE⟩ := x.ex
  rw [hk] at hk'
  cases hk'
  have tk : Tk H (upd H k (.dT (putK kvs (ns.map Sum.inl) v))) := Tk.upd hk fun xs z => nomatch z
  refine ⟨⟨_, upd_same, Nat.le_trans putK_len (by omega), fun e he => et tk ?_⟩, x.dk.upd hk (fun xs z => nomatch z), fun p o h1 h2 hp => ?_, x.nk⟩
  · rcases putK_mem he with z | z
    · exact hE e z
    · rw [z]; exact hv
  · rw [upd_ne (ne_of_none hp x.nk)]
    exact x.kp p o h1 h2 hp
end
end WL

set_option Elab.async false
set_option linter.all false
set_option maxRecDepth 100000
namespace WL
open PySem PySem.Spec PyProof.Rows L2
theorem Kp.free {a : Addr} {d : Addr × Addr} {H H' : Hp} (s : Kp a d H H') {l : Addr} (h1 : l ≠ a) (h2 : l ≠ d.1) (h : H' l = none) : H l = none := by
  cases q : H l with
  | none => rfl
  | some o =>
    rw [s l o h1 h2 q] at h
    cases h
/-! ### a dict with int keys that is filled -/
def EntK (m : Nat) (H : Hp) (e : Key × V) : Prop := ∃ s : Int, e.1 = .inl s ∧ 0 ≤ s ∧ s ≤ 1000000000 ∧ Da m H e.2
structure KeptK (m : Nat) (a : Addr) (dd : Addr × Addr) (k : Addr) (H0 H : Hp) (N b : Nat) : Prop where
  ex : ∃ kvs, H k = some (.dK kvs) ∧ kvs.length ≤ b ∧ ∀ e ∈ kvs, EntK m H e
  dk : Dk H a dd N
  kp : Kp a dd H0 H
  nk : H0 k = none
theorem EntK.tk {m : Nat} {H H' : Hp} {e : Key × V} (t : Tk H H') (h : EntK m H e) : EntK m H' e := let ⟨s, h1, h2, h3, h4⟩ := h; ⟨s, h1, h2, h3, h4.tk t⟩
theorem putK_memK {kvs : List (Key × V)} {k : Key} {v : V} {p : Key × V} (h : p ∈ putK kvs k v) : p ∈ kvs ∨ p = (k, v) := by
  unfold putK at h
  split at h
  · obtain ⟨q, hq, e⟩ := List.mem_map.mp h
    by_cases c : q.1 = k
    · rw [if_pos c] at e
      exact .inr (by rw [← e, c])
    · rw [if_neg c] at e
      exact .inl (by rw [← e]; exact hq)
  · rcases List.mem_append.mp h with z | z
    · exact .inl z
    · exact .inr (List.mem_singleton.mp z)
theorem putK_lenK {kvs : List (Key × V)} {k : Key} {v : V} : (putK kvs k v).length ≤ kvs.length + 1 := by
  unfold putK
  split
  · rw [List.length_map]; omega
  · rw [List.length_append]; exact Nat.le_refl _
section
variable {m : Nat} {a k : Addr} {dd : Addr × Addr} {H0 H H' : Hp} {N b : Nat}
theorem KeptK.nek (x : KeptK m a dd k H0 H N b) : k ≠ a ∧ k ≠ dd.1 ∧ k ≠ dd.2 := by
  obtain ⟨kvs, hk, _⟩ := x.ex
  exact x.dk.ne hk fun xs => fun z => nomatch z
theorem KeptK.step (x : KeptK m a dd k H0 H N b) (kp : Kp a dd H H') {N' : Nat} (dk : Dk H' a dd N') : KeptK m a dd k H0 H' N' b := by
  obtain ⟨kvs, hk, hb, hE⟩ := x.ex
  have tk := x.dk.tk kp
  exact ⟨⟨kvs, kp _ _ x.nek.1 x.nek.2.1 hk, hb, fun e he => (hE e he).tk tk⟩, dk, x.kp.trans kp, x.nk⟩
theorem KeptK.same (x : KeptK m a dd k H0 H N b) (s : Same H H') : KeptK m a dd k H0 H' N b := x.step (Kp.of s) (x.dk.same s)
theorem KeptK.mono {N' b' : Nat} (x : KeptK m a dd k H0 H N b) (h1 : N ≤ N') (h2 : b ≤ b') : KeptK m a dd k H0 H N' b' := by
  obtain ⟨kvs, hk, hb, hE⟩ := x.ex
  exact ⟨⟨kvs, hk, by omega, hE⟩, x.dk.mono h1, x.kp, x.nk⟩
theorem KeptK.new (h : Dk H0 a dd N) (np : H0 k = none) : KeptK m a dd k H0 (upd H0 k (.dK [])) N 0 :=
  ⟨⟨[], upd_same, Nat.le_refl _, fun e he => absurd he List.not_mem_nil⟩, h.same (same_upd np), Kp.of (same_upd np), np⟩
theorem KeptK.put (x : KeptK m a dd k H0 H N b) {s : Int} {v : V} (h0 : 0 ≤ s) (h1 : s ≤ 1000000000) (hv : Da m H v) {kvs : List (Key × V)} (hk : H k = some (.dK kvs)) :
    KeptK m a dd k H0 (upd H k (.dK (putK kvs (.inl s) v))) N (b + 1) := by
  obtain ⟨kvs', hk', hb, hE⟩ := x.ex
  rw [hk] at hk'
  cases hk'
  have tk : Tk H (upd H k (.dK (putK kvs (.inl s) v))) := Tk.upd hk fun xs z => nomatch z
  refine ⟨⟨_, upd_same, Nat.le_trans putK_lenK (by omega), fun e he => ?_⟩, x.dk.upd hk (fun xs z => nomatch z), fun p o h1 h2 hp => ?_, x.nk⟩
  · rcases putK_memK he with z | z
    · exact (hE e z).tk tk
    · rw [z]; exact ⟨s, rfl, h0, h1, hv.tk tk⟩
  · rw [upd_ne (ne_of_none hp x.nk)]
    exact x.kp p o h1 h2 hp
/-- a list that came later is written -/
theorem KeptK.lst {g : Addr} {xs : List V} {o : HO} (x : KeptK m a dd k H0 H N b) (hg : H g = some (.lst xs)) (n : g ≠ a ∧ g ≠ dd.1 ∧ g ≠ dd.2) (ng : H0 g = none) : KeptK m a dd k H0 (upd H g o) N b := by
  obtain ⟨kvs, hk, hb, hE⟩ := x.ex
  have tk : Tk H (upd H g o) := Tk.upd hg fun xs z => nomatch z
  refine ⟨⟨kvs, ?_, hb, fun e he => (hE e he).tk tk⟩, x.dk.updL n.1 n.2.1 n.2.2, fun p u h1 h2 hp => ?_, x.nk⟩
  · rw [upd_ne (ne_of hk hg fun z => nomatch z)]
    exact hk
  · rw [upd_ne (ne_of_none hp ng)]
    exact x.kp p u h1 h2 hp
end
theorem valV_inK : ∀ {kvs : List (Key × V)} {k : Key}, k ∈ kvs.map (·.1) → ∃ v, valV kvs k = some v ∧ (k, v) ∈ kvs
  | [], k, h => by simp at h
  | p :: r, k, h => by
    by_cases e : p.1 = k
    · exact ⟨p.2, valV_pos e, by rw [← e]; exact List.mem_cons_self⟩
    · have h' : k ∈ r.map (·.1) := by
        rw [List.map_cons] at h
        rcases List.mem_cons.mp h with z | z
        · exact absurd z.symm e
        · exact z
      obtain ⟨v, h1, h2⟩ := valV_inK h'
      exact ⟨v, by rw [valV_neg e]; exact h1, List.mem_cons_of_mem _ h2⟩
/-- tuple([(key, kept[key]) for key in sorted(kept.keys())]), the keys ints -/
theorem rows_of_dictK {K : PySem.W.Frag} {σ : L2.St} {H : Hp} {Q : VK} {ks i : Nat} {k : Addr} {kvs : List (Key × V)} {m : Nat}
    (hk : H k = some (.dK kvs)) (h60 : kvs.length ≤ 60) (hE : ∀ e ∈ kvs, EntK m H e)
    (h0 : σ[ks]? = some (some (.ref k))) (hw : ∀ x, wipe ((wipe σ [i]).set i (some x)) [i] = wipe σ [i])
    (hi : ∀ x, ((wipe σ [i]).set i (some x))[i]? = some (some x)) (hks : ∀ x, ((wipe σ [i]).set i (some x))[ks]? = some (some (.ref k)))
    (q : ∀ (t : Addr) (rs : List Row) (H' : Hp), Same H H' → GoodRows K 0 m 1 H' t rs → H t = none → Q (.ref t) H') :
    tCB (fun xs H Q => ∃ p ys, xs = [V.ref p] ∧ ((SqL K H p ys ∧ ∀ l, H l = none → Q (.ref l) (upd H l (.tup ys))) ∨ (SqT K H p ys ∧ Q (.ref p) H)))
      (tCons (tLc (iList K (tCB rSortKI (tCons (tBM0 K "dict" rKeysK (tVar ks)) tNil))) (gName i) tYes (tTup (tCons (tVar i) (tCons (tDGet (tVar ks) (tVar i)) tNil))) [i]) tNil) σ H Q := by
  obtain ⟨is, eis⟩ : ∃ is : List Int, kvs.map (·.1) = is.map Sum.inl := by
    refine ⟨kvs.map fun e => intK e.1, ?_⟩
    rw [List.map_map]
    refine List.map_congr_left fun e he => ?_
    obtain ⟨s, h1, _⟩ := hE e he
    show e.1 = Sum.inl (intK e.1)
    rw [h1]
    rfl
  have lis : is.length = kvs.length := by simpa using (congrArg List.length eis).symm
  refine ⟨_, h0, .inr (.inr (.inl ⟨rfl, .inl ⟨kvs, hk⟩⟩)), k, kvs, rfl, rfl, hk, fun p np => ?_⟩
  have s1 : Same H (upd H p (keysO p k)) := same_upd np
  refine ⟨p, k, kvs, is, rfl, upd_same, s1 _ _ hk, eis, by omega, fun ys l perm _ nl => ?_⟩
  have s2 := s1.trans (same_upd (o := .lst (ys.map V.int)) nl)
  refine ⟨l, rfl, ⟨_, SqL.of upd_same⟩, fun D nD => lc_list (K := K) (xs := ys.map V.int)
    (fun j H3 => ∃ R : List Row, R.length = j ∧ H3 D = some (.lst (R.map fun q => V.ref q.a)) ∧ Same (upd (upd H p (keysO p k)) l (.lst (ys.map V.int))) H3 ∧
      ∀ q ∈ R, Rw 0 H3 q ∧ 0 ≤ q.s ∧ q.s ≤ 1000000000 ∧ q.l.length = 1 ∧ ∀ x ∈ q.l, Da m H3 x)
    ⟨[], rfl, upd_same, same_upd nD, (fun q hq => absurd hq List.not_mem_nil)⟩ (fun j H3 _ hP => ?_) (fun j x H3 hx hP => ?_) (fun H3 hP => ?_)⟩
  · obtain ⟨R, _, _, sm, _⟩ := hP
    exact SqL.of (sm _ _ upd_same)
  · obtain ⟨R, lR, hD, sm, hR⟩ := hP
    rw [List.getElem?_map] at hx
    obtain ⟨s, hz, rfl⟩ := Option.map_eq_some_iff.mp hx
    have sm3 := s2.trans sm
    have hkm : (Sum.inl s : Key) ∈ kvs.map (·.1) := by
      rw [eis]
      exact List.mem_map.mpr ⟨s, perm.mem_iff.mp (List.mem_of_getElem? hz), rfl⟩
    obtain ⟨v, hv, vm⟩ := valV_inK hkm
    obtain ⟨s', e1, b0, b1, dv⟩ := hE _ vm
    cases e1
    have jl : j < ys.length := (List.getElem?_eq_some_iff.mp hz).1
    have l64 : ys.length = kvs.length := by rw [perm.length_eq]; exact lis
    refine ⟨hw _, ?_⟩
    simp only [tYes, if_true]
    refine ⟨_, hi _, _, hks _, _, hi _, k, v, rfl, ?_, (show 2 ≤ sizeLine by decide), fun e ne => ?_⟩
    · have := DGet.k (k := (Sum.inl s : Key)) (sm3 _ _ hk)
      rw [hv] at this
      exact this
    have s4 := same_upd (o := .tup [.int s, v]) ne
    have sm4 := sm.trans s4
    have nD' : ∀ (c : Addr) (zs : List V), upd H3 e (.tup [.int s, v]) c = some (.tup zs) → c ≠ D := fun c zs hc z => by
      subst z
      rw [s4 _ _ hD] at hc
      cases hc
    have tkD : Tk (upd H3 e (.tup [.int s, v])) (upd (upd H3 e (.tup [.int s, v])) D (.lst (R.map (fun q => V.ref q.a) ++ [V.ref e]))) := Tk.upd (s4 _ _ hD) fun xs z => nomatch z
    refine ⟨R.map fun q => V.ref q.a, s4 _ _ hD, size_lt (by rw [List.length_map]; omega), R ++ [⟨e, [], s, [v]⟩], ?_, ?_, ?_, ?_⟩
    · rw [List.length_append, lR]; rfl
    · rw [upd_same, List.map_append]; rfl
    · intro c o hc
      rw [upd_ne (ne_of_none hc nD)]
      exact sm4 _ _ hc
    · intro r hr
      rcases List.mem_append.mp hr with h | h
      · obtain ⟨⟨h1, h2⟩, h3, h4, h5, h6⟩ := hR r h
        exact ⟨⟨h1, tkD _ _ (s4 _ _ h2)⟩, h3, h4, h5, fun x hx => ((h6 x hx).tk (Tk.of s4)).tk tkD⟩
      · rw [List.mem_singleton.mp h]
        refine ⟨⟨rfl, tkD _ _ upd_same⟩, b0, b1, rfl, fun x hx => ?_⟩
        rw [List.mem_singleton.mp hx]
        exact ((dv.tk (Tk.of sm3)).tk (Tk.of s4)).tk tkD
  · obtain ⟨R, lR, hD, sm, hR⟩ := hP
    rw [List.length_map] at lR
    have l64 : ys.length = kvs.length := by rw [perm.length_eq]; exact lis
    refine ⟨D, _, rfl, .inl ⟨SqL.of hD, fun t nt => ?_⟩⟩
    have s5 := same_upd (o := .tup (R.map fun q => V.ref q.a)) nt
    exact q t R _ ((s2.trans sm).trans s5) ⟨⟨upd_same, fun r hr => ⟨(hR r hr).1.1, s5 _ _ (hR r hr).1.2⟩⟩, by omega, fun r hr => ⟨(hR r hr).2.1, (hR r hr).2.2.1, (hR r hr).2.2.2.1, fun x hx => ((hR r hr).2.2.2.2 x hx).tk (Tk.of s5)⟩⟩ ((s2.trans sm).free nt)
end WL

set_option Elab.async false
set_option linter.all false
set_option maxRecDepth 100000
namespace WL
open PySem PySem.Spec PyProof.Rows L2
def topS (i : Nat) : Stmt := PySem.Challenge.pw_whoselaw_k01_rows_in_force.main.body.getD i (.Pass ⟨0, 0, 0, 0⟩)
abbrev st_rule_at : Stmt := topS 6
theorem sc_rule_at : FnScope ["lands", "land", "kind", "day"] ["lands", "land", "kind", "day"] (defScope st_rule_at) := ⟨rfl, rfl, rfl, by decide +kernel, rfl, by decide +kernel, by decide +kernel⟩
abbrev st_custom_at : Stmt := topS 7
theorem sc_custom_at : FnScope ["lands", "land", "kind", "day"] ["lands", "land", "kind", "day"] (defScope st_custom_at) := ⟨rfl, rfl, rfl, by decide +kernel, rfl, by decide +kernel, by decide +kernel⟩
abbrev st_reach_at : Stmt := topS 8
theorem sc_reach_at : FnScope ["lands", "land", "kind", "day"] ["lands", "land", "kind", "day"] (defScope st_reach_at) := ⟨rfl, rfl, rfl, by decide +kernel, rfl, by decide +kernel, by decide +kernel⟩
abbrev st_heirs_at : Stmt := topS 9
theorem sc_heirs_at : FnScope ["lands", "land", "day", "found", "row"] ["lands", "land", "day"] (defScope st_heirs_at) := ⟨rfl, rfl, rfl, by decide +kernel, rfl, by decide +kernel, by decide +kernel⟩
abbrev st_take_at : Stmt := topS 10
theorem sc_take_at : FnScope ["lands", "land", "other", "day"] ["lands", "land", "other", "day"] (defScope st_take_at) := ⟨rfl, rfl, rfl, by decide +kernel, rfl, by decide +kernel, by decide +kernel⟩
abbrev st_rows_of : Stmt := topS 11
theorem sc_rows_of : FnScope ["lands", "land", "part"] ["lands", "land", "part"] (defScope st_rows_of) := ⟨rfl, rfl, rfl, by decide +kernel, rfl, by decide +kernel, by decide +kernel⟩
abbrev st_row_at : Stmt := topS 12
theorem sc_row_at : FnScope ["rows", "key", "day", "found", "row"] ["rows", "key", "day"] (defScope st_row_at) := ⟨rfl, rfl, rfl, by decide +kernel, rfl, by decide +kernel, by decide +kernel⟩
abbrev st__law_deck : Stmt := topS 14
theorem sc__law_deck : FnScope ["_law_script", "_law_digits", "_law_cells", "_law_cell"] ["_law_script"] (defScope st__law_deck) := ⟨rfl, rfl, rfl, by decide +kernel, rfl, by decide +kernel, by decide +kernel⟩
abbrev st__law_next : Stmt := topS 15
theorem sc__law_next : FnScope ["_law_deck_here", "_law_at", "_law_primes", "_law_cell", "_law_mixed"] ["_law_deck_here"] (defScope st__law_next) := ⟨rfl, rfl, rfl, by decide +kernel, rfl, by decide +kernel, by decide +kernel⟩
abbrev st__law_span : Stmt := topS 16
theorem sc__law_span : FnScope ["_law_deck_here"] ["_law_deck_here"] (defScope st__law_span) := ⟨rfl, rfl, rfl, by decide +kernel, rfl, by decide +kernel, by decide +kernel⟩
abbrev st__law_rules : Stmt := topS 17
theorem sc__law_rules : FnScope ["_law_deck_here", "_law_span_here", "_law_kept", "_law_kind", "_law_number", "_law_k", "_law_since", "_law_more", "_law_key"] ["_law_deck_here", "_law_span_here"] (defScope st__law_rules) := ⟨rfl, rfl, rfl, by decide +kernel, rfl, by decide +kernel, by decide +kernel⟩
abbrev st__law_saying : Stmt := topS 18
theorem sc__law_saying : FnScope ["_law_deck_here", "_law_kind", "_law_asks", "_law_number", "_law_whose", "_law_yes", "_law_no"] ["_law_deck_here", "_law_kind", "_law_asks"] (defScope st__law_saying) := ⟨rfl, rfl, rfl, by decide +kernel, rfl, by decide +kernel, by decide +kernel⟩
abbrev st__law_laws : Stmt := topS 19
theorem sc__law_laws : FnScope ["_law_deck_here", "_law_span_here", "_law_asks", "_law_kept", "_law_kind", "_law_number", "_law_k", "_law_since", "_law_key"] ["_law_deck_here", "_law_span_here", "_law_asks"] (defScope st__law_laws) := ⟨rfl, rfl, rfl, by decide +kernel, rfl, by decide +kernel, by decide +kernel⟩
abbrev st__law_in_force : Stmt := topS 20
theorem sc__law_in_force : FnScope ["_law_rows", "_law_begin", "_law_day", "_law_found", "_law_row"] ["_law_rows", "_law_begin", "_law_day"] (defScope st__law_in_force) := ⟨rfl, rfl, rfl, by decide +kernel, rfl, by decide +kernel, by decide +kernel⟩
abbrev st__law_heirs : Stmt := topS 21
theorem sc__law_heirs : FnScope ["_law_deck_here", "_law_span_here", "_law_kept", "_law_k", "_law_ranks", "_law_j", "_law_calls", "_law_i", "_law_number", "_law_kind", "_law_mode", "_law_since"] ["_law_deck_here", "_law_span_here"] (defScope st__law_heirs) := ⟨rfl, rfl, rfl, by decide +kernel, rfl, by decide +kernel, by decide +kernel⟩
abbrev st__law_takes : Stmt := topS 22
theorem sc__law_takes : FnScope ["_law_deck_here", "_law_land", "_law_many", "_law_span_here", "_law_kept", "_law_other", "_law_number", "_law_k", "_law_since", "_law_one", "_law_key"] ["_law_deck_here", "_law_land", "_law_many", "_law_span_here"] (defScope st__law_takes) := ⟨rfl, rfl, rfl, by decide +kernel, rfl, by decide +kernel, by decide +kernel⟩
abbrev st__law_reaches : Stmt := topS 23
theorem sc__law_reaches : FnScope ["_law_deck_here", "_law_span_here", "_law_kept", "_law_kind", "_law_number", "_law_k", "_law_since", "_law_key"] ["_law_deck_here", "_law_span_here"] (defScope st__law_reaches) := ⟨rfl, rfl, rfl, by decide +kernel, rfl, by decide +kernel, by decide +kernel⟩
abbrev st__law_whole_lands : Stmt := topS 24
theorem sc__law_whole_lands : FnScope ["_law_deck_here", "_law_many", "_law_span_here", "_law_asks", "_law_found", "_law_land", "_law_row"] ["_law_deck_here", "_law_many", "_law_span_here", "_law_asks"] (defScope st__law_whole_lands) := ⟨rfl, rfl, rfl, by decide +kernel, rfl, by decide +kernel, by decide +kernel⟩
abbrev st__law_same : Stmt := topS 25
theorem sc__law_same : FnScope ["_law_found", "_law_due_here", "_law_one", "_law_other"] ["_law_found", "_law_due_here"] (defScope st__law_same) := ⟨rfl, rfl, rfl, by decide +kernel, rfl, by decide +kernel, by decide +kernel⟩
abbrev st__law_days : Stmt := topS 26
theorem sc__law_days : FnScope ["_law_deck_here", "_law_land", "_law_span_here", "_law_rows", "_law_part", "_law_number", "_law_since", "_law_row"] ["_law_deck_here", "_law_land", "_law_span_here"] (defScope st__law_days) := ⟨rfl, rfl, rfl, by decide +kernel, rfl, by decide +kernel, by decide +kernel⟩
abbrev st__law_told : Stmt := topS 27
theorem sc__law_told : FnScope ["_law_lands", "_law_land", "_law_day", "_law_found", "_law_kind", "_law_other"] ["_law_lands", "_law_land", "_law_day"] (defScope st__law_told) := ⟨rfl, rfl, rfl, by decide +kernel, rfl, by decide +kernel, by decide +kernel⟩
abbrev st__law_due : Stmt := topS 28
theorem sc__law_due : FnScope ["_law_lands", "_law_land", "_law_day", "_law_rules_here", "_law_laws_here", "_law_heirs_here", "_law_takes_here", "_law_reaches_here", "_law_found", "_law_kind", "_law_other"] ["_law_lands", "_law_land", "_law_day"] (defScope st__law_due) := ⟨rfl, rfl, rfl, by decide +kernel, rfl, by decide +kernel, by decide +kernel⟩
abbrev st_law : Stmt := topS 29
theorem sc_law : FnScope ["_law_script", "_law_deck_here", "_law_many", "_law_span_here", "_law_lands", "_law_asked", "_law_land", "_law_day"] ["_law_script"] (defScope st_law) := ⟨rfl, rfl, rfl, by decide +kernel, rfl, by decide +kernel, by decide +kernel⟩
end WL

set_option Elab.async false
set_option linter.all false
set_option maxRecDepth 100000
namespace WL
open PySem PySem.Spec PyProof.Rows L2

section
variable {P : Program} {w : World} {K : PySem.W.Frag} {mg : Str → Option Value} {base : Heap}
def spRowAt (K : PySem.W.Frag) : Sp := fun vs H Q _ => ∃ (r : Addr) (rs : List Row) (k t : Int), vs = [.ref r, .int k, .int t] ∧ Rows K 1 H r rs ∧ Q (optV (pick (hit [k] t) rs)) H
theorem ok_row_at {f : Addr} {fd : FuncData} (D_row_at : Df K mg "row_at" st_row_at f fd ["rows", "key", "day"]) : FnOk P w K mg base CX0 1 f fd ["rows", "key", "day"] (spRowAt K) := by
  refine D_row_at.F.ok sc_row_at (fun vs H Q E h => ?_) (fun cdv A outer s H vs Q E hr h => ?_)
  · obtain ⟨r, rs, k, t, rfl, _⟩ := h
    rfl
  · obtain ⟨r, rs, k, t, rfl, ⟨hR, hw⟩, q⟩ := h
    refine ⟨_, (pss_cons (ps_set (i := 3) sc_row_at.nd rfl (.inl rfl) pe_non)
      (pss_cons (ps_for PassesOwn.never rfl (pi_tup (pv 0)) (pg_name (i := 4) sc_row_at.nd rfl (.inl rfl))
      (pss_one (ps_if (PW.pt (pw_and (pt_cmpR op_eq (pe_ix ix_tup (pv 4) pe_int (fun _ _ => rfl)) (pv 1) (nomark _)) (pw_and1 (pt_cmpR op_le (pe_ix ix_tup (pv 4) pe_int (fun _ _ => rfl)) (pv 2) (nomark _))))) (pss_one (ps_set (i := 3) sc_row_at.nd rfl (.inl rfl) (pv 4))) pss_nil)))
      (pss_one (ps_ret (pv 3))))), ?_⟩
    refine ⟨_, rfl, r, rfl, ⟨_, SqT.of hR⟩, for_tup (K := K) (xs := rs.map fun q => V.ref q.a) (fun i σ H' => ∃ y, σ = [some (.ref r), some (.int k), some (.int t), some (optV (pick (hit [k] t) (rs.take i))), y] ∧ H' = H) ⟨none, rfl, rfl⟩
      (fun i σ H' _ ⟨y, _, e⟩ => by rw [e]; exact SqT.of hR) (fun i x σ H' hx ⟨y, e1, e2⟩ => ?_) (fun σ H' ⟨y, e1, e2⟩ => ?_)⟩
    · subst e1 e2
      rw [List.getElem?_map] at hx
      obtain ⟨z, hz, rfl⟩ := Option.map_eq_some_iff.mp hx
      obtain ⟨zn, hl⟩ := hw z (List.mem_of_getElem? hz)
      obtain ⟨zk, ek⟩ := len1 zn
      rw [ek] at hl
      have pt := pick_take (hit [k] t) hz
      refine ⟨.ref z.a, rfl, z.a, _, 0, _, rfl, rfl, SqT.of hl, atI_nat (j := 0) rfl, _, rfl, rfl, _, rfl, ite2 (fun e => ?_) (fun e => ?_)⟩
      · refine ⟨.ref z.a, rfl, z.a, _, 1, _, rfl, rfl, SqT.of hl, atI_nat (j := 1) rfl, _, rfl, _, _, rfl, rfl, _, rfl, ite2 (fun e' => ?_) (fun e' => ?_)⟩
        · refine ⟨_, rfl, some (.ref z.a), ?_, rfl⟩
          have k1 : zk = k := V.int.inj (of_decide_eq_true e)
          have k2 : hit [k] t z = true := by unfold hit; rw [ek, k1, decide_eq_true rfl, e']; rfl
          rw [pt, if_pos k2]
          rfl
        · refine ⟨some (.ref z.a), ?_, rfl⟩
          have k2 : ¬ hit [k] t z = true := fun c => e' (Bool.and_eq_true_iff.mp c).2
          rw [pt, if_neg k2]
          rfl
      · refine ite2 (fun c => nomatch c) (fun _ => ⟨some (.ref z.a), ?_, rfl⟩)
        have k2 : ¬ hit [k] t z = true := fun c => by
          have c1 := of_decide_eq_true (Bool.and_eq_true_iff.mp c).1
          rw [ek] at c1
          cases c1
          exact e (decide_eq_true rfl)
        rw [pt, if_neg k2]
        rfl
    · subst e1 e2
      rw [List.length_map, List.take_length]
      exact ⟨_, rfl, q⟩
def spRowsOf (K : PySem.W.Frag) : Sp := fun vs H Q _ => ∃ (a : Addr) (i p : Nat) (v : V), vs = [.ref a, .int i, .int p] ∧ Part H a i p v ∧ Q v H
theorem ok_rows_of {f : Addr} {fd : FuncData} (B : Bt mg) (D_rows_of : Df K mg "rows_of" st_rows_of f fd ["lands", "land", "part"]) : FnOk P w K mg base CX0 1 f fd ["lands", "land", "part"] (spRowsOf K) := by
  refine D_rows_of.F.ok sc_rows_of (fun vs H Q E h => ?_) (fun cdv A outer s H vs Q E hr h => ?_)
  · obtain ⟨a, i, p, v, rfl, _⟩ := h
    rfl
  · obtain ⟨a, i, p, v, rfl, ⟨ls, parts, l, hA, hi, hL, hp⟩, q⟩ := h
    have hil : i < ls.length := (List.getElem?_eq_some_iff.mp hi).1
    refine ⟨_, (pss_cons (ps_if (pt_not (pt_chain op_le op_lt pe_int (pv 1) (pe_callB call_len_seq (by rfl) B.len (by decide +kernel) (pa_cons (pv 0) pa_nil)))) (pss_one (ps_ret (pe_tup pa_nil))) pss_nil)
      (pss_one (ps_ret (pe_ix ix_tup (pe_ix ix_tup (pv 0) (pv 1) (fun _ _ => rfl)) (pv 2) (fun _ _ => rfl))))), ?_⟩
    refine ⟨_, rfl, _, _, rfl, rfl, _, rfl, itePos (by omega) ⟨_, rfl, a, ls, rfl, .inr (SqT.of hA), _, _, rfl, rfl, _, rfl, iteNS (by omega) ?_⟩⟩
    exact ⟨_, rfl, _, rfl, a, ls, _, _, rfl, rfl, SqT.of hA, atI_nat hi, _, rfl, l, parts, _, _, rfl, rfl, SqT.of hL, atI_nat hp, q⟩
/-- the row in force of the land i's part n, of a kind on a day -/
def spAt (K : PySem.W.Frag) (n : Nat) : Sp := fun vs H Q _ => ∃ (a : Addr) (i : Nat) (k t : Int) (r : Addr) (rs : List Row), vs = [.ref a, .int i, .int k, .int t] ∧ Part H a i n (.ref r) ∧ Rows K 1 H r rs ∧ Q (optV (pick (hit [k] t) rs)) H
end
end WL

set_option Elab.async false
set_option linter.all false
set_option maxRecDepth 100000
namespace WL
open PySem PySem.Spec PyProof.Rows L2
section
variable {P : Program} {w : World} {K : PySem.W.Frag} {mg : Str → Option Value} {base : Heap}
def spForce (K : PySem.W.Frag) : Sp := fun vs H Q _ => ∃ (r b : Addr) (t : Int) (bs : List Int) (rs : List Row), vs = [.ref r, .ref b, .int t] ∧ Rows K bs.length H r rs ∧ SqT K H b (bs.map V.int) ∧
  ∀ H', Same H H' → Q (optV (pick (hit bs t) rs)) H'
theorem ok_in_force {f : Addr} {fd : FuncData} (B : Bt mg) (D : Df K mg "_law_in_force" st__law_in_force f fd ["_law_rows", "_law_begin", "_law_day"]) : FnOk P w K mg base CX0 1 f fd ["_law_rows", "_law_begin", "_law_day"] (spForce K) := by
  refine D.F.ok sc__law_in_force (fun vs H Q E h => ?_) (fun cdv A outer s H vs Q E hr h => ?_)
  · obtain ⟨r, b, t, bs, rs, rfl, _⟩ := h
    rfl
  · obtain ⟨r, b, t, bs, rs, rfl, ⟨hR, hw⟩, hB, q⟩ := h
    refine ⟨_, (pss_cons (ps_set (i := 3) sc__law_in_force.nd rfl (.inl rfl) pe_non)
      (pss_cons (ps_for PassesOwn.never rfl (pi_tup (pv 0)) (pg_name (i := 4) sc__law_in_force.nd rfl (.inl rfl))
      (pss_one (ps_if (PW.pt (pw_and (pt_cmpR (op_eqD hr.units) (pe_slice sl_tup (pv 4) po_none (po_some (pe_callB call_len_seq (by rfl) B.len (by decide +kernel) (pa_cons (pv 1) pa_nil)))) (pv 1) (nomark _)) (pw_and1 (pt_cmpR op_le (pe_ix ix_tup (pv 4) (pe_callB call_len_seq (by rfl) B.len (by decide +kernel) (pa_cons (pv 1) pa_nil)) (fun _ _ => rfl)) (pv 2) (nomark _))))) (pss_one (ps_set (i := 3) sc__law_in_force.nd rfl (.inl rfl) (pv 4))) pss_nil)))
      (pss_one (ps_ret (pv 3))))), ?_⟩
    refine ⟨_, rfl, r, rfl, ⟨_, SqT.of hR⟩, for_tup (K := K) (xs := rs.map fun q => V.ref q.a) (fun i σ H' => ∃ y, σ = [some (.ref r), some (.ref b), some (.int t), some (optV (pick (hit bs t) (rs.take i))), y] ∧ Same H H') ⟨none, rfl, Same.refl H⟩
      (fun i σ H' _ ⟨y, _, e⟩ => SqT.of (e _ _ hR)) (fun i x σ H' hx ⟨y, e1, sm⟩ => ?_) (fun σ H' ⟨y, e1, sm⟩ => ?_)⟩
    · subst e1
      rw [List.getElem?_map] at hx
      obtain ⟨z, hz, rfl⟩ := Option.map_eq_some_iff.mp hx
      obtain ⟨zn, hl⟩ := hw z (List.mem_of_getElem? hz)
      have hl' := sm _ _ hl
      have pt := pick_take (hit bs t) hz
      have en : ((bs.map V.int).length : Int) = ((z.ns.map V.int).length : Nat) := by rw [List.length_map, List.length_map, zn]
      refine ⟨.ref z.a, rfl, .ref b, rfl, b, _, rfl, .inr (sameT sm hB), _, rfl, z.a, _, rfl, SqT.of hl', by rw [en]; exact notwhole, fun p np => ?_⟩
      rw [en, cut_to]
      have sm2 := sm.trans (same_upd (o := .tup (z.ns.map V.int)) np)
      refine ⟨_, rfl, .tuple (z.ns.map PyData.int), .tuple (bs.map PyData.int), .tup (SqT.of upd_same) (dp_ints _), .tup (sameT sm2 hB) (dp_ints _), shaped_ints _, shaped_ints _, _, rfl, ?_⟩
      rw [show PyData.eqv (.tuple (z.ns.map PyData.int)) (.tuple (bs.map PyData.int)) = decide (z.ns = bs) from eqvAll_ints _ _]
      refine ite2 (fun e => ?_) (fun e => ?_)
      · refine ⟨.ref z.a, rfl, .ref b, rfl, b, _, rfl, .inr (sameT sm2 hB), z.a, _, _, .int z.s, rfl, rfl, SqT.of (sm2 _ _ hl), ?_, _, rfl, _, _, rfl, rfl, _, rfl, ite2 (fun e' => ?_) (fun e' => ?_)⟩
        · rw [en]
          exact atI_nat (by rw [List.getElem?_append_right (Nat.le_refl _), Nat.sub_self]; rfl)
        · refine ⟨_, rfl, some (.ref z.a), ?_, sm2⟩
          have k2 : hit bs t z = true := by unfold hit; rw [e, e']; rfl
          rw [pt, if_pos k2]
          rfl
        · refine ⟨some (.ref z.a), ?_, sm2⟩
          have k2 : ¬ hit bs t z = true := fun c => e' (Bool.and_eq_true_iff.mp c).2
          rw [pt, if_neg k2]
          rfl
      · refine ite2 (fun c => nomatch c) (fun _ => ⟨some (.ref z.a), ?_, sm2⟩)
        have k2 : ¬ hit bs t z = true := fun c => e (Bool.and_eq_true_iff.mp c).1
        rw [pt, if_neg k2]
        rfl
    · subst e1
      rw [List.length_map, List.take_length]
      exact ⟨_, rfl, q H' sm⟩

/-! ### next -/
def spNext : Sp := fun vs H Q _ => ∃ (a : Addr) (d : Addr × Addr) (N : Nat), vs = [.ref a] ∧ Dk H a d N ∧ N ≤ 1000000 ∧ ∀ (r : Int) H', Kp a d H H' → Dk H' a d (N + 1) → 0 ≤ r → r < MM → Q (.int r) H'
theorem ok_next {f : Addr} {fd : FuncData} (B : Bt mg) (D : Df K mg "_law_next" st__law_next f fd ["_law_deck_here"]) : FnOk P w K mg base CX0 1 f fd ["_law_deck_here"] spNext := by
  refine D.F.ok sc__law_next (fun vs H Q E h => ?_) (fun cdv A outer s H vs Q E hr h => ?_)
  · obtain ⟨a, d, N, rfl, _⟩ := h
    rfl
  · obtain ⟨a, d, N, rfl, ⟨ds, cs, n, hA, hD, hC, nad, nca, ncd, hn, bds, bcs, pcs, lcs⟩, hN, q⟩ := h
    refine ⟨_, (pss_cons (ps_if (pt_cmpR (op_neD hr.units) (pe_ix ix_list (pv 0) pe_int (fun _ _ => rfl)) (pe_lst pa_nil) (nomark _)) (pss_one (ps_ret (pe_bm PySem.F.plainAttrs_list PySem.F.slot_list_pop PySem.F.type_list_pop mt_popAt (pe_ix ix_list (pv 0) pe_int (fun _ _ => rfl)) (pa_cons pe_int pa_nil)))) pss_nil)
      (pss_cons (ps_set (i := 1) sc__law_next.nd rfl (.inl rfl) (pe_ix ix_list (pv 0) pe_int (fun _ _ => rfl)))
      (pss_cons (ps_asg (pe_op op_add (pv 1) pe_int) (pg_sub (pv 0) pe_int set_list))
      (pss_cons (ps_set (i := 2) sc__law_next.nd rfl (.inl rfl) (pe_tup (pa_cons pe_int (pa_cons pe_int (pa_cons pe_int (pa_cons pe_int (pa_cons pe_int (pa_cons pe_int (pa_cons pe_int (pa_cons pe_int (pa_cons pe_int (pa_cons pe_int (pa_cons pe_int (pa_cons pe_int pa_nil))))))))))))))
      (pss_cons (ps_set (i := 3) sc__law_next.nd rfl (.inl rfl) (pe_op op_add (pe_ix ix_list (pe_ix ix_list (pv 0) pe_int (fun _ _ => rfl)) (pe_op op_mod (pe_op op_add (pv 1) pe_int) (pe_callB call_len_seq (by rfl) B.len (by decide +kernel) (pa_cons (pe_ix ix_list (pv 0) pe_int (fun _ _ => rfl)) pa_nil))) (fun _ _ => rfl)) (pe_op op_mul pe_int (pv 1))))
      (pss_cons (ps_set (i := 4) sc__law_next.nd rfl (.inl rfl) (pe_op op_mod (pe_op op_pow (pe_op op_add (pv 3) (pe_op op_mul (pe_ix ix_tup (pv 2) (pe_op op_mod (pv 1) pe_int) (fun _ _ => rfl)) (pe_op op_add (pv 1) pe_int))) pe_int) pe_int))
      (pss_one (ps_ret (pe_op op_mod (pe_op op_add (pv 4) (pe_op op_mul (pe_ix ix_tup (pv 2) (pe_op op_mod (pe_op op_add (pv 1) pe_int) pe_int) (fun _ _ => rfl)) (pv 3))) pe_int))))))))), ?_⟩
    refine ⟨.ref a, rfl, a, _, 0, .ref d.1, rfl, rfl, SqL.of hA, atI_nat (j := 0) rfl, Nat.zero_le _, fun e ne => ?_⟩
    have s1 : Same H (upd H e (.lst [])) := same_upd ne
    have hA1 := s1 _ _ hA
    have hD1 := s1 _ _ hD
    have hC1 := s1 _ _ hC
    refine ⟨.list (ds.map PyData.int), .list (([] : List Int).map PyData.int), .lst (SqL.of hD1) (dp_ints _), .lst (SqL.of upd_same) .nil, shaped_intsL _, shaped_intsL [], _, rfl, ?_⟩
    rw [show PyData.eqv (.list (ds.map PyData.int)) (.list (([] : List Int).map PyData.int)) = decide (ds = []) from eqvAll_ints _ _]
    cases ds with
    | cons x r =>
      refine iteNT (fun z => nomatch z) ?_
      refine ⟨.ref a, rfl, a, _, 0, .ref d.1, rfl, rfl, SqL.of hA1, atI_nat (j := 0) rfl, .inl ⟨rfl, _, SqL.of hD1⟩, d.1, _, 0, 0, .int x, rfl, rfl, hD1, by decide, by decide, (ixN_seq (by unfold ixN; simp)).1, rfl, ?_⟩
      obtain ⟨b0, b1⟩ := bds x List.mem_cons_self
      refine q x _ (fun b o n1 n2 eb => ?_) ⟨r, cs, n, ?_, upd_same, ?_, nad, nca, ncd, by omega, fun y hy => bds y (List.mem_cons_of_mem _ hy), bcs, pcs, lcs⟩ b0 b1
      · rw [upd_ne n2]
        exact s1 _ _ eb
      · rw [upd_ne nad]
        exact hA1
      · rw [upd_ne ncd]
        exact hC1
    | nil =>
      refine iteNS rfl ?_
      refine ⟨.ref a, rfl, a, _, 2, .int n, rfl, rfl, SqL.of hA1, atI_nat (j := 2) rfl, ?_⟩
      refine ⟨_, rfl, _, _, rfl, rfl, _, rfl, a, _, 2, 2, rfl, rfl, hA1, rfl, ?_⟩
      refine ⟨by decide, fun t nt => ?_⟩
      have hA2 : upd (upd H e (.lst [])) a (.lst [.ref d.1, .ref d.2, .int ((n : Int) + 1)]) a = some (.lst [.ref d.1, .ref d.2, .int ((n : Int) + 1)]) := upd_same
      have hC2 : upd (upd H e (.lst [])) a (.lst [.ref d.1, .ref d.2, .int ((n : Int) + 1)]) d.2 = some (.lst (cs.map V.int)) := by rw [upd_ne nca]; exact hC1
      have hD2 : upd (upd H e (.lst [])) a (.lst [.ref d.1, .ref d.2, .int ((n : Int) + 1)]) d.1 = some (.lst (([] : List Int).map V.int)) := by rw [upd_ne nad.symm]; exact hD1
      have kp : ∀ b o, b ≠ a → b ≠ d.1 → H b = some o → upd (upd H e (.lst [])) a (.lst [.ref d.1, .ref d.2, .int ((n : Int) + 1)]) b = some o := fun b o n1 n2 eb => by rw [upd_ne n1]; exact s1 _ _ eb
      have s3 := same_upd (o := .tup (primes.map V.int)) nt
      have hA3 := s3 _ _ hA2
      have hC3 := s3 _ _ hC2
      have hD3 := s3 _ _ hD2
      have hT : upd (upd (upd H e (.lst [])) a (.lst [.ref d.1, .ref d.2, .int ((n : Int) + 1)])) t (.tup (primes.map V.int)) t = some (.tup (primes.map V.int)) := upd_same
      have lc : ((cs.map V.int).length : Int) = cs.length := by rw [List.length_map]
      have hm := emod_lt (r := (n : Int) + 1) (m := ((cs.map V.int).length : Int)) (by omega)
      obtain ⟨v, hv, vm⟩ := atI_some (xs := cs.map V.int) hm.1 hm.2
      obtain ⟨cv, cm, rfl⟩ := List.mem_map.mp vm
      obtain ⟨c0, c1⟩ := bcs cv cm
      have c1 : cv < 2147483629 := c1
      obtain ⟨p1, hp1, a1, b1⟩ := prime_at (i := (n : Int) % 12) (emod_lt (by decide)).1 (emod_lt (by decide)).2
      obtain ⟨p2, hp2, a2, b2⟩ := prime_at (i := ((n : Int) + 5) % 12) (emod_lt (by decide)).1 (emod_lt (by decide)).2
      have hn' : (n : Int) ≤ 1000000 := by omega
      have m1 := mul_bd a1 b1 (show (0 : Int) ≤ (n : Int) + 1 by omega) (show (n : Int) + 1 ≤ 1000001 by omega)
      refine ⟨.ref a, rfl, a, _, 1, .ref d.2, rfl, rfl, SqL.of hA3, atI_nat (j := 1) rfl, _, rfl, _, _, rfl, rfl, .ref a, rfl, a, _, 1, .ref d.2, rfl, rfl, SqL.of hA3, atI_nat (j := 1) rfl, d.2, _, rfl, .inl (SqL.of hC3), _, _, rfl, rfl, (by omega), d.2, _, _, _, rfl, rfl, SqL.of hC3, hv, _, rfl, _, _, rfl, rfl, .inl ⟨by decide, by decide⟩, _, _, rfl, rfl, ?_⟩
      refine ⟨_, rfl, _, rfl, _, rfl, _, _, rfl, rfl, (show (0 : Int) < 12 by decide), t, _, _, _, rfl, rfl, SqT.of hT, hp1, _, rfl, _, _, rfl, rfl, _, _, rfl, rfl, .inl ⟨by omega, by omega⟩, _, _, rfl, rfl, _, _, rfl, rfl, ⟨by decide, by decide, ?_⟩, _, _, rfl, rfl, (show (0 : Int) < 2147483647 by decide), ?_⟩
      · show (cv + 7 * (n : Int) + p1 * ((n : Int) + 1)).natAbs < 2 ^ 64
        omega
      refine ⟨_, rfl, _, rfl, _, rfl, _, _, rfl, rfl, _, _, rfl, rfl, (show (0 : Int) < 12 by decide), t, _, _, _, rfl, rfl, SqT.of hT, hp2, _, rfl, _, _, rfl, rfl, .inl ⟨by omega, by omega⟩, _, _, rfl, rfl, _, _, rfl, rfl, (show (0 : Int) < 2147483629 by decide), ?_⟩
      have fin := emod_lt (r := (cv + 7 * (n : Int) + p1 * ((n : Int) + 1)) ^ (5 : Int).toNat % 2147483647 + p2 * (cv + 7 * (n : Int))) (m := MM) (by decide)
      refine q _ _ (fun b o n1 n2 eb => s3 _ _ (kp b o n1 n2 eb)) ⟨[], cs, n + 1, hA3, hD3, hC3, nad, nca, ncd, by omega, (fun x hx => absurd hx List.not_mem_nil), bcs, pcs, lcs⟩ fin.1 fin.2
def spSpan : Sp := fun vs H Q _ => ∃ (a : Addr) (d : Addr × Addr) (N : Nat), vs = [.ref a] ∧ Dk H a d N ∧ N ≤ 1000000 ∧ ∀ (r : Int) H', Kp a d H H' → Dk H' a d (N + 1) → 0 < r → r ≤ 1000000001 → Q (.int r) H'
theorem ok_span {f f1 : Addr} {fd fd1 : FuncData} (B : Bt mg) (D : Df K mg "_law_span" st__law_span f fd ["_law_deck_here"]) (D__law_next : Df K mg "_law_next" st__law_next f1 fd1 ["_law_deck_here"])
    (G__law_next : FnOk P w K mg base CX0 1 f1 fd1 ["_law_deck_here"] spNext) : FnOk P w K mg base CX0 2 f fd ["_law_deck_here"] spSpan := by
  refine D.F.ok sc__law_span (fun vs H Q E h => ?_) (fun cdv A outer s H vs Q E hr h => ?_)
  · obtain ⟨a, d, N, rfl, _⟩ := h
    rfl
  · obtain ⟨a, d, N, rfl, hK, hN, q⟩ := h
    refine ⟨_, (pss_one (ps_ret (pe_ix ix_list (pe_lst (pa_cons pe_int (pa_cons pe_int (pa_cons pe_int pa_nil)))) (pe_op op_mod (pe_call G__law_next (hr.mono (by decide)) (by rfl) D__law_next.g D__law_next.F.kp D__law_next.b .nil pass0 (pa_cons (pv 0) pa_nil)) pe_int) (fun _ _ => rfl)))), ?_⟩
    refine ⟨by decide, fun l nl => ?_⟩
    have s1 : Same H (upd H l (.lst [.int 5, .int 12, .int 1000000001])) := same_upd nl
    refine ⟨_, rfl, a, d, N, rfl, hK.same s1, hN, fun r H' kp hK' r0 r1 => ?_⟩
    have hm := emod_lt (r := r) (m := 3) (by decide)
    obtain ⟨v, hv, vm⟩ := atI_some (xs := ([5, 12, 1000000001] : List Int).map V.int) hm.1 hm.2
    obtain ⟨x, xm, rfl⟩ := List.mem_map.mp vm
    have hx : ∀ x ∈ ([5, 12, 1000000001] : List Int), 0 < x ∧ x ≤ 1000000001 := by decide
    have nn := hK.nn nl
    refine ⟨_, _, rfl, rfl, (show (0 : Int) < 3 by decide), l, _, _, _, rfl, rfl, SqL.of (kp l _ nn.1 nn.2.1 upd_same), hv, q _ _ ((Kp.of s1).trans kp) hK' (hx x xm).1 (hx x xm).2⟩
end
end WL

set_option Elab.async false
set_option linter.all false
set_option maxRecDepth 100000
namespace WL
open PySem PySem.Spec PyProof.Rows L2
theorem cut_ints (ns : List Int) (lo hi : Option Int) : ∃ ms : List Int, cutV (ns.map V.int) lo hi = ms.map V.int ∧ ms.length ≤ ns.length := by
  unfold cutV
  rw [← List.map_drop, ← List.map_take]
  exact ⟨_, rfl, by rw [List.length_take, List.length_drop]; omega⟩
section
variable {P : Program} {w : World} {K : PySem.W.Frag} {mg : Str → Option Value} {base : Heap}
def spDeck (K : PySem.W.Frag) : Sp := fun vs H Q _ => ∃ (s : Addr) (ns : List Int), vs = [.ref s] ∧ SqL K H s (ns.map V.int) ∧ ns.length ≤ 63 ∧ ∀ a d H', Same H H' → Dk H' a d 0 → Q (.ref a) H'
theorem ok_deck {f : Addr} {fd : FuncData} (B : Bt mg) (D : Df K mg "_law_deck" st__law_deck f fd ["_law_script"]) : FnOk P w K mg base CX0 1 f fd ["_law_script"] (spDeck K) := by
  refine D.F.ok sc__law_deck (fun vs H Q E h => ?_) (fun cdv A outer s H vs Q E hr h => ?_)
  · obtain ⟨a, d, rfl, _⟩ := h
    rfl
  · obtain ⟨sc, ns, rfl, hS, hn, q⟩ := h
    refine ⟨_, (pss_cons (ps_set (i := 1) sc__law_deck.nd rfl (.inl rfl) (pe_lst pa_nil))
      (pss_cons (ps_set (i := 2) sc__law_deck.nd rfl (.inl rfl) (pe_lst (pa_cons (pe_callB call_len_seq (by rfl) B.len (by decide +kernel) (pa_cons (pv 0) pa_nil)) pa_nil)))
      (pss_cons (ps_for PassesOwn.never rfl (pi_list (pe_slice sl_list (pv 0) po_none (po_some pe_int))) (pg_name (i := 3) sc__law_deck.nd rfl (.inl rfl))
      (pss_cons (ps_set (i := 3) sc__law_deck.nd rfl (.inl rfl) (pe_callB call_abs (by rfl) B.abs (by decide +kernel) (pa_cons (pv 3) pa_nil)))
      (pss_cons (ps_expr (pe_bm PySem.F.plainAttrs_list PySem.F.slot_list_append PySem.F.type_list_append mt_append (pv 2) (pa_cons (pe_op op_mod (pv 3) pe_int) pa_nil)))
      (pss_one (ps_while PassesOwn.never (PW.pt (pw_and (pt_cmpR op_ge (pv 3) (pe_op op_pow pe_int pe_int) (nomark _)) (pw_and1 (pt_cmpR op_lt (pe_callB call_len_seq (by rfl) B.len (by decide +kernel) (pa_cons (pv 1) pa_nil)) pe_int (nomark _)))))
      (pss_cons (ps_expr (pe_bm PySem.F.plainAttrs_list PySem.F.slot_list_append PySem.F.type_list_append mt_append (pv 1) (pa_cons (pe_op op_mod (pv 3) pe_int) pa_nil)))
      (pss_one (ps_set (i := 3) sc__law_deck.nd rfl (.inl rfl) (pe_op op_fdivW (pv 3) pe_int)))))))))
      (pss_one (ps_ret (pe_lst (pa_cons (pv 1) (pa_cons (pv 2) (pa_cons pe_int pa_nil))))))))), ?_⟩
    refine ⟨Nat.zero_le _, fun g ng => ?_⟩
    have s1 : Same H (upd H g (.lst [])) := same_upd ng
    refine ⟨_, rfl, sc, _, rfl, .inl (s1.seq hS), (show 1 ≤ sizeLine by decide), fun c nc => ?_⟩
    have s2 := s1.trans (same_upd (o := .lst [.int ((ns.map V.int).length : Nat)]) nc)
    have ngc : g ≠ c := fun z => by
      rw [← z, upd_same] at nc
      cases nc
    obtain ⟨ms, em, lm⟩ := cut_ints ns none (some 63)
    refine ⟨.ref sc, rfl, 63, rfl, sc, _, rfl, s2.seq hS, fun x nx => ?_⟩
    rw [em]
    have s3 := s2.trans (same_upd (o := .lst (ms.map V.int)) nx)
    have nxg : g ≠ x := fun z => by
      rw [← z, upd_ne ngc, upd_same] at nx
      cases nx
    have nxc : c ≠ x := fun z => by
      rw [← z, upd_same] at nx
      cases nx
    refine ⟨x, rfl, ⟨_, SqL.of upd_same⟩, for_list (K := K) (xs := ms.map V.int) (fun i σ H' => ∃ (y : Option V) (ds cs : List Int), σ = [some (.ref sc), some (.ref g), some (.ref c), y] ∧ Same H H' ∧ H' g = some (.lst (ds.map V.int)) ∧ H' c = some (.lst (cs.map V.int)) ∧ H' x = some (.lst (ms.map V.int)) ∧
        ds.length ≤ 900 ∧ cs.length = i + 1 ∧ (∀ x ∈ ds, 0 ≤ x ∧ x < MM) ∧ (∀ x ∈ cs, 0 ≤ x ∧ x < MM))
      ⟨none, [], [(ns.length : Int)], rfl, s3, ?_, ?_, upd_same, by decide, rfl, (fun x hx => absurd hx List.not_mem_nil), ?_⟩ (fun i σ H' _ ⟨_, _, _, _, _, _, _, hx, _⟩ => SqL.of hx) (fun i v σ H' hv hP => ?_) (fun σ H' hP => ?_)⟩
    · rw [upd_ne nxg, upd_ne ngc, upd_same]
      rfl
    · rw [upd_ne nxc, upd_same, List.length_map]
      rfl
    · intro x hx
      have e := List.mem_singleton.mp hx
      subst e
      show 0 ≤ (ns.length : Int) ∧ (ns.length : Int) < 2147483629
      omega
    · obtain ⟨y, ds, cs, rfl, sm, hg, hc, hx, ld, lc, bd, bc⟩ := hP
      rw [List.getElem?_map] at hv
      obtain ⟨z, hz, rfl⟩ := Option.map_eq_some_iff.mp hv
      have hi : i < ms.length := (List.getElem?_eq_some_iff.mp hz).1
      refine ⟨_, rfl, _, rfl, ?_⟩
      have hz0 : 0 ≤ (if z < 0 then -z else z) := by split <;> omega
      generalize (if z < 0 then -z else z) = u at hz0
      have um := emod_lt (r := u) (m := MM) (by decide)
      refine ⟨.ref c, rfl, .inl ⟨rfl, _, SqL.of hc⟩, _, rfl, _, _, rfl, rfl, (show (0 : Int) < 2147483629 by decide), c, _, _, rfl, rfl, hc, size_lt (by rw [List.length_map]; omega), ?_⟩
      have ec : cs.map V.int ++ [V.int (u % 2147483629)] = (cs ++ [u % 2147483629]).map V.int := by rw [List.map_append]; rfl
      rw [ec]
      have bc' : ∀ x ∈ cs ++ [u % 2147483629], 0 ≤ x ∧ x < MM := fun x hx => by
        rcases List.mem_append.mp hx with h | h
        · exact bc x h
        · rw [List.mem_singleton.mp h]; exact um
      refine ⟨fun m σ H' => ∃ (z : Int) (ds : List Int), σ = [some (.ref sc), some (.ref g), some (.ref c), some (.int z)] ∧ 0 ≤ z ∧ m = 900 - ds.length ∧ Same H H' ∧ H' g = some (.lst (ds.map V.int)) ∧ H' c = some (.lst ((cs ++ [u % 2147483629]).map V.int)) ∧ H' x = some (.lst (ms.map V.int)) ∧
        ds.length ≤ 900 ∧ (∀ x ∈ ds, 0 ≤ x ∧ x < MM), ⟨_, u, ds, rfl, hz0, rfl, ?_, ?_, upd_same, ?_, ld, bd⟩, ?_⟩
      · intro b o eb
        rw [upd_ne]
        · exact sm _ _ eb
        · intro e
          subst e
          have e1 := s1 _ _ eb
          rw [nc] at e1
          cases e1
      · rw [upd_ne ngc]; exact hg
      · rw [upd_ne nxc.symm]; exact hx
      · rintro m σ H2 ⟨z, ds2, rfl, z0, rfl, sm2, hg2, hc2, hx2, ld2, bd2⟩
        have fin : ∃ (y : Option V) (ds' cs' : List Int), ([some (.ref sc), some (.ref g), some (.ref c), some (.int z)] : L2.St) = [some (.ref sc), some (.ref g), some (.ref c), y] ∧ Same H H2 ∧ H2 g = some (.lst (ds'.map V.int)) ∧ H2 c = some (.lst (cs'.map V.int)) ∧ H2 x = some (.lst (ms.map V.int)) ∧
            ds'.length ≤ 900 ∧ cs'.length = i + 1 + 1 ∧ (∀ x ∈ ds', 0 ≤ x ∧ x < MM) ∧ (∀ x ∈ cs', 0 ≤ x ∧ x < MM) :=
          ⟨_, ds2, cs ++ [u % 2147483629], rfl, sm2, hg2, hc2, hx2, ld2, by rw [List.length_append, lc]; rfl, bd2, bc'⟩
        refine ⟨_, rfl, _, _, rfl, rfl, ⟨by decide, by decide, by decide⟩, _, _, rfl, rfl, _, rfl, ite2 (fun e => ?_) (fun e => iteF fin)⟩
        refine ⟨_, rfl, g, _, rfl, .inl (SqL.of hg2), _, _, rfl, rfl, _, rfl, ite2 (fun e' => ?_) (fun e' => fin)⟩
        have l9 : ds2.length < 900 := by
          have e1 := of_decide_eq_true e'
          rw [List.length_map] at e1
          omega
        have zm := emod_lt (r := z) (m := MM) (by decide)
        refine ⟨_, fun _ _ h => h, ?_⟩
        refine ⟨.ref g, rfl, .inl ⟨rfl, _, SqL.of hg2⟩, _, rfl, _, _, rfl, rfl, (show (0 : Int) < 2147483629 by decide), g, _, _, rfl, rfl, hg2, size_lt (by rw [List.length_map]; omega), ?_⟩
        refine ⟨_, rfl, _, _, rfl, rfl, wide_div (b := 31) (by decide) (by decide) (by decide) (by decide), ?_⟩
        have eg : ds2.map V.int ++ [V.int (z % 2147483629)] = (ds2 ++ [z % 2147483629]).map V.int := by rw [List.map_append]; rfl
        rw [eg]
        refine ⟨900 - (ds2 ++ [z % 2147483629]).length, by rw [List.length_append, List.length_singleton]; omega, z / 2147483629, ds2 ++ [z % 2147483629], rfl, Int.ediv_nonneg z0 (by decide), rfl, ?_, upd_same, ?_, ?_, by rw [List.length_append, List.length_singleton]; omega, ?_⟩
        · intro b o eb
          rw [upd_ne (ne_of_none eb ng)]
          exact sm2 _ _ eb
        · rw [upd_ne ngc.symm]; exact hc2
        · rw [upd_ne nxg.symm]; exact hx2
        · intro x hx
          rcases List.mem_append.mp hx with h | h
          · exact bd2 x h
          · rw [List.mem_singleton.mp h]; exact zm
    · obtain ⟨y, ds, cs, rfl, sm, hg, hc, hx, ld, lc, bd, bc⟩ := hP
      rw [List.length_map] at lc
      refine ⟨_, rfl, _, rfl, (show 3 ≤ sizeLine by decide), fun a na => q a (g, c) _ (sm.trans (same_upd na)) ⟨ds, cs, 0, upd_same, ?_, ?_, ?_, ?_, ngc.symm, Nat.le_refl _, bd, bc, by omega, by omega⟩⟩
      · rw [upd_ne (ne_of_none hg na)]; exact hg
      · rw [upd_ne (ne_of_none hc na)]; exact hc
      · exact (ne_of_none hg na).symm
      · exact ne_of_none hc na
end
end WL

set_option Elab.async false
set_option linter.all false
set_option maxRecDepth 100000
namespace WL
open PySem PySem.Spec PyProof.Rows L2
theorem pick_int {xs : List Int} {i : Int} (h0 : 0 ≤ i) (h1 : i < (xs.map V.int).length) : ∃ x, atI (xs.map V.int) i = some (.int x) ∧ x ∈ xs := by
  obtain ⟨v, hv, hm⟩ := atI_some h0 h1
  obtain ⟨x, hx, rfl⟩ := List.mem_map.mp hm
  exact ⟨x, hv, hx⟩
theorem div_ok {i : Int} {k : Int} (h : 0 < k) (h2 : k.natAbs < 2 ^ 31) : CDivW i k := wide_div (b := 31) h h2 (by decide) (by decide)
theorem bd2 {k s : Int} (h0 : 0 ≤ k) (h1 : k < 100) (h2 : 0 ≤ s) (h3 : s ≤ 1000000000) : TS.Bd 2000000000 [k, s] := fun m hm => by
  rcases List.mem_cons.mp hm with rfl | hm
  · omega
  · rw [List.mem_singleton.mp hm]; omega
section
variable {P : Program} {w : World} {K : PySem.W.Frag} {mg : Str → Option Value} {base : Heap}
def spRules (K : PySem.W.Frag) : Sp := fun vs H Q _ => ∃ (a : Addr) (d : Addr × Addr) (N : Nat) (span : Int), vs = [.ref a, .int span] ∧ Dk H a d N ∧ N ≤ 900000 ∧ 0 < span ∧ span ≤ 1000000001 ∧
  ∀ t rs H', Kp a d H H' → Dk H' a d (N + 20) → GoodRows K 1 0 2 H' t rs → Q (.ref t) H'
theorem ok_rules {f f1 : Addr} {fd fd1 : FuncData} (B : Bt mg) (D : Df K mg "_law_rules" st__law_rules f fd ["_law_deck_here", "_law_span_here"]) (D__law_next : Df K mg "_law_next" st__law_next f1 fd1 ["_law_deck_here"])
    (G__law_next : FnOk P w K mg base CX0 1 f1 fd1 ["_law_deck_here"] spNext) : FnOk P w K mg base CX0 2 f fd ["_law_deck_here", "_law_span_here"] (spRules K) := by
  have et : ∀ {H H' : Hp} {e : List Key × V}, Tk H H' → Ent 2 0 2 tlTup H e → Ent 2 0 2 tlTup H' e := fun tk h => h.tup tk (by decide)
  refine D.F.ok sc__law_rules (fun vs H Q E h => ?_) (fun cdv A outer s H vs Q E hr h => ?_)
  · obtain ⟨a, d, N, span, rfl, _⟩ := h
    rfl
  · obtain ⟨a, d, N, span, rfl, hK, hN, sp0, sp1, q⟩ := h
    refine ⟨_, (pss_cons (ps_set (i := 2) sc__law_rules.nd rfl (.inr rfl) pe_dnewT)
      (pss_cons (ps_for PassesOwn.never rfl (pi_range1 rfl B.range (pa_cons pe_int pa_nil)) (pg_name (i := 3) sc__law_rules.nd rfl (.inl rfl))
      (pss_cons (ps_set (i := 4) sc__law_rules.nd rfl (.inl rfl) (pe_call G__law_next (hr.mono (by decide)) (by rfl) D__law_next.g D__law_next.F.kp D__law_next.b .nil pass0 (pa_cons (pv 0) pa_nil)))
      (pss_one (ps_for PassesOwn.never rfl (pi_range1 rfl B.range (pa_cons (pe_ix ix_list (pe_lst (pa_cons pe_int (pa_cons pe_int (pa_cons pe_int (pa_cons pe_int (pa_cons pe_int (pa_cons pe_int pa_nil))))))) (pe_op op_mod (pv 4) pe_int) (fun _ _ => rfl)) pa_nil)) (pg_name (i := 5) sc__law_rules.nd rfl (.inl rfl))
      (pss_cons (ps_set (i := 6) sc__law_rules.nd rfl (.inl rfl) (pe_ix ix_list (pe_lst (pa_cons pe_int (pa_cons (pe_op op_mod (pe_call G__law_next (hr.mono (by decide)) (by rfl) D__law_next.g D__law_next.F.kp D__law_next.b .nil pass0 (pa_cons (pv 0) pa_nil)) (pv 1)) pa_nil))) (pe_op op_mod (pe_op op_add (pe_op op_fdivW (pv 4) pe_int) (pv 5)) pe_int) (fun _ _ => rfl)))
      (pss_cons (ps_set (i := 7) sc__law_rules.nd rfl (.inl rfl) (pe_call G__law_next (hr.mono (by decide)) (by rfl) D__law_next.g D__law_next.F.kp D__law_next.b .nil pass0 (pa_cons (pv 0) pa_nil)))
      (pss_one (ps_dput (hu_of hr) (pv 2) (pe_tup (pa_cons (pv 3) (pa_cons (pv 6) pa_nil))) (pe_tup (pa_cons (pe_op op_mod (pv 7) pe_int) (pa_cons (pe_ix ix_list (pe_lst (pa_cons pe_int (pa_cons pe_int (pa_cons pe_int (pa_cons pe_int (pa_cons pe_int pa_nil)))))) (pe_op op_mod (pe_op op_fdivW (pv 7) pe_int) pe_int) (fun _ _ => rfl)) pa_nil))) rfl))))))))
      (pss_one (ps_ret (pe_callTy call_tuple_of (by rfl) B.tuple (by decide +kernel) (pa_cons (pe_lc (own := [("_law_key", 8)]) (g := gName 8) (tt := tYes) rfl sc__law_rules.nd (pi_list (pe_callB (cr_sortK (d := 2) (B := 2000000000) (by decide) rfl) (by rfl) B.sorted (by decide +kernel) (pa_cons (pe_bm0 PySem.F.plainAttrs_dict PySem.F.slot_dict_keys PySem.F.type_dict_keys mt_keysT (pv 2)) pa_nil))) (blkOk_by (own := [("_law_key", 8)]) (N := ["_law_deck_here", "_law_span_here", "_law_kept", "_law_kind", "_law_number", "_law_k", "_law_since", "_law_more", "_law_key"]) (sc := defScope st__law_rules) (by decide +kernel)) (fun _ _ _ _ _ => (pg_name (i := 8) sc__law_rules.nd rfl (.inl rfl))) (fun _ _ _ _ _ => pts_nil) (fun _ _ _ _ _ => (pe_op (show OpR _ _ (rCatT K) from op_catT) (pv 8) (pe_dget (hu_of hr) (pv 2) (pv 8) (fun _ _ => rfl))))) pa_nil)))))), ?_⟩
    intro k nk
    refine ⟨4, rfl, by decide, by decide, for_range (lo := 0) (n := 4) (fun i σ H' => ∃ y3 y4 y5 y6 y7 y8, σ = [some (.ref a), some (.int span), some (.ref k), y3, y4, y5, y6, y7, y8] ∧ Kept 2 0 2 tlTup a d k H H' (N + 5 * i) (2 * i))
      ⟨none, none, none, none, none, none, rfl, Kept.new hK nk⟩ (fun i σ H1 hi hP => ?_) (fun σ H1 hP => ?_)⟩
    · obtain ⟨y3, y4, y5, y6, y7, y8, rfl, hk1⟩ := hP
      refine ⟨_, rfl, a, d, _, rfl, hk1.dk, by omega, fun r H2 kp2 dk2 r0 r1 => ?_⟩
      have hk2 := hk1.step et kp2 dk2
      have hm := emod_lt (r := r) (m := 6) (by decide)
      obtain ⟨c, hc, cm⟩ := pick_int (xs := [1, 1, 1, 2, 2, 0]) hm.1 hm.2
      have c2 : 0 ≤ c ∧ c ≤ 2 := (by decide : ∀ c ∈ ([1, 1, 1, 2, 2, 0] : List Int), 0 ≤ c ∧ c ≤ 2) c cm
      refine ⟨(show 6 ≤ sizeLine by decide), fun l nl => ⟨_, rfl, _, _, rfl, rfl, (show (0 : Int) < 6 by decide), l, _, _, _, rfl, rfl, SqL.of upd_same, hc, c, rfl, by omega, by omega, ?_⟩⟩
      have hk3 := hk2.same et (same_upd (o := .lst (([1, 1, 1, 2, 2, 0] : List Int).map V.int)) nl)
      refine for_range (lo := 0) (n := c.toNat) (fun j σ H' => ∃ y5 y6 y7 y8, σ = [some (.ref a), some (.int span), some (.ref k), some (.int (0 + (i : Int))), some (.int r), y5, y6, y7, y8] ∧ Kept 2 0 2 tlTup a d k H H' (N + 5 * i + 1 + 2 * j) (2 * i + j))
        ⟨y5, y6, y7, y8, rfl, hk3.mono (by omega) (by omega)⟩ (fun j σ H4 hj hP => ?_) (fun σ H4 hP => ?_)
      · obtain ⟨z5, z6, z7, z8, rfl, hk4⟩ := hP
        refine ⟨_, rfl, a, d, _, rfl, hk4.dk, by omega, fun r2 H5 kp5 dk5 r20 r21 => ?_⟩
        have hk5 := hk4.step et kp5 dk5
        refine ⟨_, rfl, _, _, rfl, rfl, sp0, (show 2 ≤ sizeLine by decide), fun l2 nl2 => ?_⟩
        have hk6 := hk5.same et (same_upd (o := .lst (([0, r2 % span] : List Int).map V.int)) nl2)
        have hm2 := emod_lt (r := r / 6 + (0 + (j : Int))) (m := 2) (by decide)
        have hsp := emod_lt (r := r2) sp0
        obtain ⟨x, hx, xm⟩ := pick_int (xs := [0, r2 % span]) hm2.1 hm2.2
        have xb : 0 ≤ x ∧ x ≤ 1000000000 := by
          rcases List.mem_cons.mp xm with rfl | xm
          · omega
          · rw [List.mem_singleton.mp xm]; omega
        refine ⟨_, rfl, _, _, rfl, rfl, div_ok (by decide) (by decide), _, rfl, _, _, rfl, rfl, _, _, rfl, rfl, (show (0 : Int) < 2 by decide), l2, _, _, _, rfl, rfl, SqL.of upd_same, hx, ?_⟩
        refine ⟨_, rfl, a, d, _, rfl, hk6.dk, by omega, fun r3 H7 kp7 dk7 r30 r31 => ?_⟩
        have hk7 := hk6.step et kp7 dk7
        have hm3 := emod_lt (r := r3 / 3) (m := 5) (by decide)
        obtain ⟨wy, hwy, wm⟩ := pick_int (xs := [2, 2, 0, 1, 2]) hm3.1 hm3.2
        refine ⟨_, rfl, _, _, rfl, rfl, (show (0 : Int) < 3 by decide), (show 5 ≤ sizeLine by decide), fun l3 nl3 => ⟨_, rfl, _, _, rfl, rfl, div_ok (by decide) (by decide), _, _, rfl, rfl, (show (0 : Int) < 5 by decide), l3, _, _, _, rfl, rfl, SqL.of upd_same, hwy, (show 2 ≤ sizeLine by decide), fun e ne => ?_⟩⟩
        have hk8 := (hk7.same et (same_upd (o := .lst (([2, 2, 0, 1, 2] : List Int).map V.int)) nl3)).same et (same_upd (o := .tup [.int (r3 % 3), .int wy]) ne)
        refine ⟨_, rfl, _, rfl, _, rfl, (show 2 ≤ sizeLine by decide), fun kk nkk => ?_⟩
        have hk9 := hk8.same et (same_upd (o := .tup [.int (0 + (i : Int)), .int x]) nkk)
        obtain ⟨kvs, hkv, hb, hE⟩ := hk9.ex
        refine ⟨k, _, rfl, DPut.t (k := ([0 + (i : Int), x] : List Int).map Sum.inl) hkv upd_same (size_lt (by omega)), ?_⟩
        refine ⟨_, _, _, _, rfl, (hk9.put et (ns := [0 + (i : Int), x]) ?_ hkv).mono (by omega) (by omega)⟩
        have he : upd (upd (upd H7 l3 (.lst (([2, 2, 0, 1, 2] : List Int).map V.int))) e (.tup [.int (r3 % 3), .int wy])) kk (.tup [.int (0 + (i : Int)), .int x]) e = some (.tup [.int (r3 % 3), .int wy]) := same_upd nkk _ _ upd_same
        refine ⟨[0 + (i : Int), x], rfl, rfl, bd2 (by omega) (by omega) xb.1 xb.2, xb.2, ?_, ?_⟩
        · show (tlTup _ (.ref e)).length = 2
          rw [tlTup_eq he]; rfl
        · show ∀ x ∈ tlTup _ (.ref e), _
          rw [tlTup_eq he]
          intro y hy
          rcases List.mem_cons.mp hy with rfl | hy
          · exact Da.flat rfl
          · rw [List.mem_singleton.mp hy]; exact Da.flat rfl
      · obtain ⟨z5, z6, z7, z8, rfl, hk4⟩ := hP
        exact ⟨_, _, _, _, _, _, rfl, hk4.mono (by omega) (by omega)⟩
    · obtain ⟨y3, y4, y5, y6, y7, y8, rfl, hk1⟩ := hP
      obtain ⟨kvs, hkv, hb, hE⟩ := hk1.ex
      refine rows_of_dict (K := K) (d := 2) (B := 2000000000) (tlTup H1) hkv (by omega) (fun e he => ?_) rfl (fun x => rfl) (fun ns b v H3 Qe sm hb3 ln hv vm qe => ?_) (fun t R H' sm ht lR hR _ _ => ?_)
      · obtain ⟨ns, e1, e2, e3, _⟩ := hE e he
        exact ⟨ns, e1, e2, e3⟩
      · obtain ⟨ns', e1, e2, e3, e4, e5, e6⟩ := hE _ vm
        obtain ⟨ve, ys, rfl, hys⟩ : ∃ ve ys, v = .ref ve ∧ H1 ve = some (.tup ys) := tlTup_of e5 (by decide)
        have et' : tlTup H1 (.ref ve) = ys := tlTup_eq hys
        have ly : ys.length = 2 := by rw [← et']; exact e5
        refine ⟨_, rfl, _, rfl, _, rfl, k, _, rfl, ?_, b, ve, _, ys, rfl, rfl, SqT.of hb3, SqT.of (sm _ _ hys), ?_, size_le (by rw [List.length_map]; omega), fun z => ?_, fun _ p np => qe p _ (same_upd np) ?_⟩
        · have := DGet.t (k := ns.map Sum.inl) (sm _ _ hkv) (show H3 b = some (.tup ((ns.map Sum.inl).map kV)) by rw [kV_ints]; exact hb3)
          rw [hv] at this
          exact this
        · intro z
          rw [List.map_eq_nil_iff] at z
          rw [z] at ln
          cases ln
        · rw [z] at ly; cases ly
        · rw [upd_same, et']
      · refine q t _ H' (hk1.kp.trans (Kp.of sm)) ((hk1.dk.same sm).mono (by omega)) (good_mk (Tk.of sm) hE (by omega) ht lR hR)
end
end WL

set_option Elab.async false
set_option linter.all false
set_option maxRecDepth 100000
namespace WL
open PySem PySem.Spec PyProof.Rows L2
def bud : Nat → Nat
  | 0 => 1
  | n + 1 => 1 + 2 * bud n
theorem fnFalse {P : Program} {w : World} {K : PySem.W.Frag} {mg : Str → Option Value} {base : Heap} {k : Nat} {f : Addr} {fd : FuncData} {ps : List Str} : FnOk P w K mg base CX0 k f fd ps (fun _ _ _ _ => False) :=
  ⟨fun _ _ _ _ h => h.elim, fun _ _ _ _ _ _ _ _ _ _ _ _ _ h => h.elim⟩
section
variable {P : Program} {w : World} {K : PySem.W.Frag} {mg : Str → Option Value} {base : Heap}
/-- a saying with at most n - 1 asks on a way; of 0: nothing is promised -/
def spSay : Nat → Sp
  | 0 => fun _ _ _ _ => False
  | n + 1 => fun vs H Q _ => ∃ (a : Addr) (d : Addr × Addr) (N : Nat) (kind z : Int), vs = [.ref a, .int kind, .int z] ∧ z = n ∧ Dk H a d N ∧ N + bud n ≤ 1000000 ∧ 0 ≤ kind ∧ kind < 4 ∧ ∀ v H', Kp a d H H' → Dk H' a d (N + bud n) → Da (n + 1) H' v → Q v H'
theorem ok_saying {f f1 : Addr} {fd fd1 : FuncData} (B : Bt mg) (D__law_saying : Df K mg "_law_saying" st__law_saying f fd ["_law_deck_here", "_law_kind", "_law_asks"]) (D__law_next : Df K mg "_law_next" st__law_next f1 fd1 ["_law_deck_here"])
    (G__law_next : FnOk P w K mg base CX0 1 f1 fd1 ["_law_deck_here"] spNext) : ∀ n, FnOk P w K mg base CX0 (n + 1) f fd ["_law_deck_here", "_law_kind", "_law_asks"] (spSay n) := by
  intro n
  induction n with
  | zero => exact fnFalse
  | succ n G__law_saying =>
  refine D__law_saying.F.ok sc__law_saying (fun vs H Q E h => ?_) (fun cdv A outer s H vs Q E hr h => ?_)
  · obtain ⟨a, d, N, kind, z, rfl, _⟩ := h
    rfl
  · obtain ⟨a, d, N, kind, z, rfl, rfl, hK, hN, k0, k4, q⟩ := h
    have bp : 1 ≤ bud n := by cases n <;> simp [bud] <;> omega
    refine ⟨_, (pss_cons (ps_set (i := 3) sc__law_saying.nd rfl (.inl rfl) (pe_call G__law_next (hr.mono (by omega)) (by rfl) D__law_next.g D__law_next.F.kp D__law_next.b .nil pass0 (pa_cons (pv 0) pa_nil)))
      (pss_cons (ps_if (PW.pt (pw_or (pt_cmpR op_eq (pv 1) pe_int (nomark _)) (pw_or (pt_cmpR op_eq (pv 2) pe_int (nomark _)) (pw_or1 (pt_cmpR op_eq (pe_op op_mod (pv 3) pe_int) pe_int (nomark _)))))) (pss_one (ps_ret (pe_tup (pa_cons pe_str (pa_cons (pe_ix ix_list (pe_lst (pa_cons pe_int (pa_cons (pe_op op_mod (pe_op op_fdivW (pv 3) pe_int) pe_int) pa_nil))) (pe_op op_mod (pe_op op_fdivW (pv 3) pe_int) pe_int) (fun _ _ => rfl)) pa_nil))))) pss_nil)
      (pss_cons (ps_set (i := 4) sc__law_saying.nd rfl (.inl rfl) (pe_ix ix_list (pe_lst (pa_cons pe_non (pa_cons pe_non (pa_cons (pe_op op_mod (pe_op op_fdivW (pv 3) pe_int) pe_int) (pa_cons (pe_op op_mod (pe_op op_fdivW (pv 3) pe_int) pe_int) pa_nil))))) (pe_op op_mod (pe_op op_fdivW (pv 3) pe_int) pe_int) (fun _ _ => rfl)))
      (pss_cons (ps_set (i := 5) sc__law_saying.nd rfl (.inl rfl) (pe_call G__law_saying hr (by rfl) D__law_saying.g D__law_saying.F.kp D__law_saying.b .nil pass0 (pa_cons (pv 0) (pa_cons (pv 1) (pa_cons (pe_op op_sub (pv 2) pe_int) pa_nil)))))
      (pss_cons (ps_set (i := 6) sc__law_saying.nd rfl (.inl rfl) (pe_call G__law_saying hr (by rfl) D__law_saying.g D__law_saying.F.kp D__law_saying.b .nil pass0 (pa_cons (pv 0) (pa_cons (pv 1) (pa_cons (pe_op op_sub (pv 2) pe_int) pa_nil)))))
      (pss_one (ps_ret (pe_tup (pa_cons pe_str (pa_cons (pe_op op_mod (pe_op op_fdivW (pv 3) pe_int) (pv 1)) (pa_cons (pv 4) (pa_cons (pe_op op_mod (pe_op op_fdivW (pv 3) pe_int) pe_int) (pa_cons (pv 5) (pa_cons (pv 6) pa_nil)))))))))))))), ?_⟩
    refine ⟨_, rfl, a, d, N, rfl, hK, by omega, fun r H1 kp1 dk1 r0 r1 => ?_⟩
    refine ⟨_, rfl, rfl, _, rfl, ite2 (fun e => iteT ?_) (fun e => ⟨_, rfl, rfl, _, rfl, ite2 (fun e2 => iteT ?_) (fun e2 => ⟨_, rfl, _, _, rfl, rfl, (show (0 : Int) < 4 by decide), rfl, _, rfl, ite2 (fun e3 => ?_) (fun e3 => ?_)⟩)⟩)⟩
    rotate_left 3
    · have kn : kind ≠ 0 := fun z => e (by rw [z]; exact decide_eq_true rfl)
      obtain ⟨m, rfl⟩ : ∃ m, n = m + 1 := by
        cases n with
        | zero => exact absurd (decide_eq_true rfl) e2
        | succ m => exact ⟨m, rfl⟩
      have eb : bud (m + 1) = 1 + 2 * bud m := rfl
      have hm := emod_lt (r := r / 4) (m := 4) (by decide)
      obtain ⟨wh, hwh, wm⟩ := atI_some (xs := [V.non, V.non, V.int (r / 24 % 4), V.int (r / 24 % 4)]) hm.1 hm.2
      have wf : flat wh = true := by
        have : ∀ x ∈ [V.non, V.non, V.int (r / 24 % 4), V.int (r / 24 % 4)], flat x = true := by simp [flat]
        exact this wh wm
      refine ⟨_, rfl, _, _, rfl, rfl, div_ok (by decide) (by decide), _, _, rfl, rfl, (show (0 : Int) < 4 by decide), _, rfl, _, _, rfl, rfl, div_ok (by decide) (by decide), _, _, rfl, rfl, (show (0 : Int) < 4 by decide), (show 4 ≤ sizeLine by decide), fun l nl => ?_⟩
      have s2 := same_upd (o := .lst [V.non, V.non, V.int (r / 24 % 4), V.int (r / 24 % 4)]) nl
      refine ⟨_, rfl, _, _, rfl, rfl, div_ok (by decide) (by decide), _, _, rfl, rfl, (show (0 : Int) < 4 by decide), l, _, _, _, rfl, rfl, SqL.of upd_same, hwh, ?_⟩
      refine ⟨_, rfl, _, rfl, _, rfl, _, _, rfl, rfl, a, d, _, kind, _, rfl, by omega, dk1.same s2, by omega, k0, k4, fun yes H3 kp3 dk3 day => ?_⟩
      refine ⟨_, rfl, _, rfl, _, rfl, _, _, rfl, rfl, a, d, _, kind, _, rfl, by omega, dk3, by omega, k0, k4, fun no H4 kp4 dk4 dan => ?_⟩
      have day4 := day.tk (dk3.tk kp4)
      refine ⟨_, rfl, _, _, rfl, rfl, div_ok (by decide) (by decide), _, rfl, _, _, rfl, rfl, (show (0 : Int) < kind by omega), _, rfl, _, rfl, _, _, rfl, rfl, div_ok (by decide) (by decide), _, _, rfl, rfl, (show (0 : Int) < 2 by decide), _, rfl, _, rfl, (show 6 ≤ sizeLine by decide), fun t nt => ?_⟩
      have s5 := same_upd (o := .tup [V.str "ask", .int (r / 96 % kind), wh, .int (r / 384 % 2), yes, no]) nt
      refine q _ _ (kp1.trans ((Kp.of s2).trans (kp3.trans (kp4.trans (Kp.of s5))))) ((dk4.same s5).mono (by omega)) (Da.tup upd_same (show 6 ≤ 1000 by decide) fun x hx => ?_)
      rcases List.mem_cons.mp hx with rfl | hx
      · exact Da.flat rfl
      rcases List.mem_cons.mp hx with rfl | hx
      · exact Da.flat rfl
      rcases List.mem_cons.mp hx with rfl | hx
      · exact Da.flat wf
      rcases List.mem_cons.mp hx with rfl | hx
      · exact Da.flat rfl
      rcases List.mem_cons.mp hx with rfl | hx
      · exact day4.tk (Tk.of s5)
      · rw [List.mem_singleton.mp hx]
        exact dan.tk (Tk.of s5)
    all_goals
      have hm := emod_lt (r := r / 4) (m := 2) (by decide)
      obtain ⟨x, hx, xm⟩ := pick_int (xs := [0, r / 8 % 10]) hm.1 hm.2
      refine ⟨_, rfl, _, _, rfl, rfl, div_ok (by decide) (by decide), _, _, rfl, rfl, (show (0 : Int) < 10 by decide), (show 2 ≤ sizeLine by decide), fun l nl => ?_⟩
      have s2 := same_upd (o := .lst (([0, r / 8 % 10] : List Int).map V.int)) nl
      refine ⟨_, rfl, _, _, rfl, rfl, div_ok (by decide) (by decide), _, _, rfl, rfl, (show (0 : Int) < 2 by decide), l, _, _, _, rfl, rfl, SqL.of upd_same, hx, (show 2 ≤ sizeLine by decide), fun t nt => ?_⟩
      have s3 := same_upd (o := .tup [V.str "say", .int x]) nt
      refine q _ _ (kp1.trans ((Kp.of s2).trans (Kp.of s3))) (((dk1.same s2).same s3).mono (by omega)) (Da.tup upd_same (show 2 ≤ 1000 by decide) fun y hy => ?_)
      rcases List.mem_cons.mp hy with rfl | hy
      · exact Da.flat rfl
      · rw [List.mem_singleton.mp hy]
        exact Da.flat rfl
def spLaws (K : PySem.W.Frag) (n : Nat) : Sp := fun vs H Q _ => ∃ (a : Addr) (d : Addr × Addr) (N : Nat) (span : Int), vs = [.ref a, .int span, .int n] ∧ Dk H a d N ∧ N ≤ 900000 ∧ 0 < span ∧ span ≤ 1000000001 ∧
  ∀ t rs H', Kp a d H H' → Dk H' a d (N + 4 * (3 + 2 * bud n)) → GoodRows K 1 (n + 1) 1 H' t rs → Q (.ref t) H'
theorem ok_laws {f f1 f2 : Addr} {fd fd1 fd2 : FuncData} (n : Nat) (hn : bud n ≤ 1000) (B : Bt mg) (D : Df K mg "_law_laws" st__law_laws f fd ["_law_deck_here", "_law_span_here", "_law_asks"]) (D__law_next : Df K mg "_law_next" st__law_next f1 fd1 ["_law_deck_here"]) (D__law_saying : Df K mg "_law_saying" st__law_saying f2 fd2 ["_law_deck_here", "_law_kind", "_law_asks"])
    (G__law_next : FnOk P w K mg base CX0 1 f1 fd1 ["_law_deck_here"] spNext) (G__law_saying : FnOk P w K mg base CX0 (n + 2) f2 fd2 ["_law_deck_here", "_law_kind", "_law_asks"] (spSay (n + 1))) : FnOk P w K mg base CX0 (n + 3) f fd ["_law_deck_here", "_law_span_here", "_law_asks"] (spLaws K n) := by
  have et : ∀ {H H' : Hp} {e : List Key × V}, Tk H H' → Ent 2 (n + 1) 1 tlOne H e → Ent 2 (n + 1) 1 tlOne H' e := fun tk h => h.one tk
  refine D.F.ok sc__law_laws (fun vs H Q E h => ?_) (fun cdv A outer s H vs Q E hr h => ?_)
  · obtain ⟨a, d, N, span, rfl, _⟩ := h
    rfl
  · obtain ⟨a, d, N, span, rfl, hK, hN, sp0, sp1, q⟩ := h
    refine ⟨_, (pss_cons (ps_set (i := 3) sc__law_laws.nd rfl (.inr rfl) pe_dnewT)
      (pss_cons (ps_for PassesOwn.never rfl (pi_range1 rfl B.range (pa_cons pe_int pa_nil)) (pg_name (i := 4) sc__law_laws.nd rfl (.inl rfl))
      (pss_cons (ps_set (i := 5) sc__law_laws.nd rfl (.inl rfl) (pe_call G__law_next (hr.mono (by omega)) (by rfl) D__law_next.g D__law_next.F.kp D__law_next.b .nil pass0 (pa_cons (pv 0) pa_nil)))
      (pss_one (ps_for PassesOwn.never rfl (pi_range1 rfl B.range (pa_cons (pe_ix ix_list (pe_lst (pa_cons pe_int (pa_cons pe_int (pa_cons pe_int (pa_cons pe_int pa_nil))))) (pe_op op_mod (pv 5) pe_int) (fun _ _ => rfl)) pa_nil)) (pg_name (i := 6) sc__law_laws.nd rfl (.inl rfl))
      (pss_cons (ps_set (i := 7) sc__law_laws.nd rfl (.inl rfl) (pe_ix ix_list (pe_lst (pa_cons pe_int (pa_cons (pe_op op_mod (pe_call G__law_next (hr.mono (by omega)) (by rfl) D__law_next.g D__law_next.F.kp D__law_next.b .nil pass0 (pa_cons (pv 0) pa_nil)) (pv 1)) pa_nil))) (pe_op op_mod (pe_op op_add (pe_op op_fdivW (pv 5) pe_int) (pv 6)) pe_int) (fun _ _ => rfl)))
      (pss_one (ps_dput (hu_of hr) (pv 3) (pe_tup (pa_cons (pv 4) (pa_cons (pv 7) pa_nil))) (pe_call G__law_saying hr (by rfl) D__law_saying.g D__law_saying.F.kp D__law_saying.b .nil pass0 (pa_cons (pv 0) (pa_cons (pv 4) (pa_cons (pv 2) pa_nil)))) rfl)))))))
      (pss_one (ps_ret (pe_callTy call_tuple_of (by rfl) B.tuple (by decide +kernel) (pa_cons (pe_lc (own := [("_law_key", 8)]) (g := gName 8) (tt := tYes) rfl sc__law_laws.nd (pi_list (pe_callB (cr_sortK (d := 2) (B := 2000000000) (by decide) rfl) (by rfl) B.sorted (by decide +kernel) (pa_cons (pe_bm0 PySem.F.plainAttrs_dict PySem.F.slot_dict_keys PySem.F.type_dict_keys mt_keysT (pv 3)) pa_nil))) (blkOk_by (own := [("_law_key", 8)]) (N := ["_law_deck_here", "_law_span_here", "_law_asks", "_law_kept", "_law_kind", "_law_number", "_law_k", "_law_since", "_law_key"]) (sc := defScope st__law_laws) (by decide +kernel)) (fun _ _ _ _ _ => (pg_name (i := 8) sc__law_laws.nd rfl (.inl rfl))) (fun _ _ _ _ _ => pts_nil) (fun _ _ _ _ _ => (pe_op (show OpR _ _ (rCatT K) from op_catT) (pv 8) (pe_tup (pa_cons (pe_dget (hu_of hr) (pv 3) (pv 8) (fun _ _ => rfl)) pa_nil))))) pa_nil)))))), ?_⟩
    intro k nk
    refine ⟨4, rfl, by decide, by decide, for_range (lo := 0) (n := 4) (fun i σ H' => ∃ y3 y4 y5 y6 y7, σ = [some (.ref a), some (.int span), some (.int n), some (.ref k), y3, y4, y5, y6, y7] ∧ Kept 2 (n + 1) 1 tlOne a d k H H' (N + (3 + 2 * bud n) * i) (2 * i))
      ⟨none, none, none, none, none, rfl, Kept.new hK nk⟩ (fun i σ H1 hi hP => ?_) (fun σ H1 hP => ?_)⟩
    · obtain ⟨y3, y4, y5, y6, y7, rfl, hk1⟩ := hP
      have hi3 : (3 + 2 * bud n) * i ≤ (3 + 2 * bud n) * 3 := Nat.mul_le_mul_left _ (by omega)
      have hi4 : (3 + 2 * bud n) * (i + 1) = (3 + 2 * bud n) * i + (3 + 2 * bud n) := by rw [Nat.mul_add, Nat.mul_one]
      refine ⟨_, rfl, a, d, _, rfl, hk1.dk, by omega, fun r H2 kp2 dk2 r0 r1 => ?_⟩
      have hk2 := hk1.step et kp2 dk2
      have hm := emod_lt (r := r) (m := 4) (by decide)
      obtain ⟨c, hc, cm⟩ := pick_int (xs := [1, 1, 2, 0]) hm.1 hm.2
      have c2 : 0 ≤ c ∧ c ≤ 2 := (by decide : ∀ c ∈ ([1, 1, 2, 0] : List Int), 0 ≤ c ∧ c ≤ 2) c cm
      refine ⟨(show 4 ≤ sizeLine by decide), fun l nl => ⟨_, rfl, _, _, rfl, rfl, (show (0 : Int) < 4 by decide), l, _, _, _, rfl, rfl, SqL.of upd_same, hc, c, rfl, by omega, by omega, ?_⟩⟩
      have hk3 := hk2.same et (same_upd (o := .lst (([1, 1, 2, 0] : List Int).map V.int)) nl)
      refine for_range (lo := 0) (n := c.toNat) (fun j σ H' => ∃ y5 y6 y7, σ = [some (.ref a), some (.int span), some (.int n), some (.ref k), some (.int (0 + (i : Int))), some (.int r), y5, y6, y7] ∧ Kept 2 (n + 1) 1 tlOne a d k H H' (N + (3 + 2 * bud n) * i + 1 + (1 + bud n) * j) (2 * i + j))
        ⟨y5, y6, y7, rfl, hk3.mono (by omega) (by omega)⟩ (fun j σ H4 hj hP => ?_) (fun σ H4 hP => ?_)
      · obtain ⟨z5, z6, z7, rfl, hk4⟩ := hP
        have hj2 : (1 + bud n) * j ≤ (1 + bud n) * 1 := Nat.mul_le_mul_left _ (by omega)
        have hj3 : (1 + bud n) * (j + 1) = (1 + bud n) * j + (1 + bud n) := by rw [Nat.mul_add, Nat.mul_one]
        refine ⟨_, rfl, a, d, _, rfl, hk4.dk, by omega, fun r2 H5 kp5 dk5 r20 r21 => ?_⟩
        have hk5 := hk4.step et kp5 dk5
        refine ⟨_, rfl, _, _, rfl, rfl, sp0, (show 2 ≤ sizeLine by decide), fun l2 nl2 => ?_⟩
        have hk6 := hk5.same et (same_upd (o := .lst (([0, r2 % span] : List Int).map V.int)) nl2)
        have hm2 := emod_lt (r := r / 4 + (0 + (j : Int))) (m := 2) (by decide)
        have hsp := emod_lt (r := r2) sp0
        obtain ⟨x, hx, xm⟩ := pick_int (xs := [0, r2 % span]) hm2.1 hm2.2
        have xb : 0 ≤ x ∧ x ≤ 1000000000 := by
          rcases List.mem_cons.mp xm with rfl | xm
          · omega
          · rw [List.mem_singleton.mp xm]; omega
        refine ⟨_, rfl, _, _, rfl, rfl, div_ok (by decide) (by decide), _, rfl, _, _, rfl, rfl, _, _, rfl, rfl, (show (0 : Int) < 2 by decide), l2, _, _, _, rfl, rfl, SqL.of upd_same, hx, ?_⟩
        refine ⟨_, rfl, _, rfl, _, rfl, a, d, _, _, _, rfl, rfl, hk6.dk, by omega, by omega, by omega, fun v H7 kp7 dk7 dv => ?_⟩
        have hk7 := hk6.step et kp7 dk7
        refine ⟨_, rfl, _, rfl, _, rfl, (show 2 ≤ sizeLine by decide), fun kk nkk => ?_⟩
        have s9 := same_upd (o := .tup [.int (0 + (i : Int)), .int x]) nkk
        have hk9 := hk7.same et s9
        obtain ⟨kvs, hkv, hb, hE⟩ := hk9.ex
        refine ⟨k, _, rfl, DPut.t (k := ([0 + (i : Int), x] : List Int).map Sum.inl) hkv upd_same (size_lt (by omega)), ?_⟩
        refine ⟨_, _, _, rfl, (hk9.put et (ns := [0 + (i : Int), x]) ?_ hkv).mono (by omega) (by omega)⟩
        refine ⟨[0 + (i : Int), x], rfl, rfl, bd2 (by omega) (by omega) xb.1 xb.2, xb.2, rfl, fun y hy => ?_⟩
        rw [List.mem_singleton.mp hy]
        exact dv.tk (Tk.of s9)
      · obtain ⟨z5, z6, z7, rfl, hk4⟩ := hP
        have hj2 : (1 + bud n) * c.toNat ≤ (1 + bud n) * 2 := Nat.mul_le_mul_left _ (by omega)
        exact ⟨_, _, _, _, _, rfl, hk4.mono (by omega) (by omega)⟩
    · obtain ⟨y3, y4, y5, y6, y7, rfl, hk1⟩ := hP
      obtain ⟨kvs, hkv, hb, hE⟩ := hk1.ex
      refine rows_of_dict (K := K) (d := 2) (B := 2000000000) (tlOne H1) hkv (by omega) (fun e he => ?_) rfl (fun x => rfl) (fun ns b v H3 Qe sm hb3 ln hv vm qe => ?_) (fun t R H' sm ht lR hR _ _ => ?_)
      · obtain ⟨ns, e1, e2, e3, _⟩ := hE e he
        exact ⟨ns, e1, e2, e3⟩
      · refine ⟨_, rfl, _, rfl, _, rfl, k, v, rfl, ?_, (show 1 ≤ sizeLine by decide), fun e ne => ?_⟩
        · have := DGet.t (k := ns.map Sum.inl) (sm _ _ hkv) (show H3 b = some (.tup ((ns.map Sum.inl).map kV)) by rw [kV_ints]; exact hb3)
          rw [hv] at this
          exact this
        have s4 := same_upd (o := .tup [v]) ne
        refine ⟨b, e, _, [v], rfl, rfl, SqT.of (s4 _ _ hb3), SqT.of upd_same, ?_, size_le (by rw [List.length_map]; show _ + 1 ≤ _; omega), (fun z => nomatch z), fun _ p np => qe p _ (s4.trans (same_upd np)) upd_same⟩
        intro z
        rw [List.map_eq_nil_iff] at z
        rw [z] at ln
        cases ln
      · refine q t _ H' (hk1.kp.trans (Kp.of sm)) ((hk1.dk.same sm).mono (by omega)) (good_mk (Tk.of sm) hE (by omega) ht lR hR)
end
end WL

set_option Elab.async false
set_option linter.all false
set_option maxRecDepth 100000
namespace WL
open PySem PySem.Spec PyProof.Rows L2
section
variable {P : Program} {w : World} {K : PySem.W.Frag} {mg : Str → Option Value} {base : Heap}
def spSame : Nat → Sp
  | 0 => fun _ _ _ _ => False
  | n + 1 => fun vs H Q _ => ∃ v w, vs = [v, w] ∧ Alike n H v w ∧ ∀ H', Same H H' → Q (.bl true) H'
theorem flat_of {n : Nat} {H : Hp} {v w : V} (h : Alike n H v w) : (flat v = true ∧ v = w) ∨ ∃ m a b xs ys, n = m + 1 ∧ v = .ref a ∧ w = .ref b ∧ H a = some (.tup xs) ∧ H b = some (.tup ys) ∧ xs.length = ys.length ∧ xs.length ≤ 1000 ∧ ∀ (i : Nat) x y, xs[i]? = some x → ys[i]? = some y → Alike m H x y := by
  cases n with
  | zero => exact .inl h
  | succ m =>
    rcases h with h | ⟨a, b, xs, ys, h⟩
    · exact .inl h
    · exact .inr ⟨m, a, b, xs, ys, rfl, h⟩
theorem ok_same {f : Addr} {fd : FuncData} (B : Bt mg) (D__law_same : Df K mg "_law_same" st__law_same f fd ["_law_found", "_law_due_here"]) : ∀ n, FnOk P w K mg base CX0 (n + 1) f fd ["_law_found", "_law_due_here"] (spSame n) := by
  intro n
  induction n with
  | zero => exact fnFalse
  | succ n G__law_same =>
  refine D__law_same.F.ok sc__law_same (fun vs H Q E h => ?_) (fun cdv A outer s H vs Q E hr h => ?_)
  · obtain ⟨v, w, rfl, _⟩ := h
    rfl
  · obtain ⟨v, w, rfl, hA, q⟩ := h
    refine ⟨_, (pss_cons (ps_if (pt_val (pe_callB call_isi (by rfl) B.isinstance (by decide +kernel) (pa_cons (pv 1) (pa_cons (pe_bltn (v := .ty "tuple") (by rfl) B.tuple (by decide +kernel) rfl) pa_nil)))) (pss_cons (ps_if (PW.pt (pw_or (pt_not (pt_val (pe_callB call_isi (by rfl) B.isinstance (by decide +kernel) (pa_cons (pv 0) (pa_cons (pe_bltn (v := .ty "tuple") (by rfl) B.tuple (by decide +kernel) rfl) pa_nil))))) (pw_or1 (pt_cmpR op_ne (pe_callB call_len_seq (by rfl) B.len (by decide +kernel) (pa_cons (pv 0) pa_nil)) (pe_callB call_len_seq (by rfl) B.len (by decide +kernel) (pa_cons (pv 1) pa_nil)) (nomark _))))) (pss_one (ps_ret pe_bl)) pss_nil)
      (pss_one (ps_ret (pe_callB (cr_all rfl) (by rfl) B.all (by decide +kernel) (pa_cons (pe_lc (own := [("_law_one", 2), ("_law_other", 3)]) (g := gTup K 2 (gCons (gName 2) (gCons (gName 3) gNil))) (tt := tYes) rfl sc__law_same.nd (RZ.pi_zipA (by rfl) B.zip (pa_cons (pv 0) (pa_cons (pv 1) pa_nil))) (blkOk_by (own := [("_law_one", 2), ("_law_other", 3)]) (N := ["_law_found", "_law_due_here", "_law_one", "_law_other"]) (sc := defScope st__law_same) (by decide +kernel)) (fun _ _ _ _ _ => (pg_tup rfl (pgs_cons (pg_name (i := 2) sc__law_same.nd rfl (.inl rfl)) (pgs_cons (pg_name (i := 3) sc__law_same.nd rfl (.inl rfl)) pgs_nil)))) (fun _ _ _ _ _ => pts_nil) (fun _ _ _ _ _ => (pe_call G__law_same hr (by rfl) D__law_same.g D__law_same.F.kp D__law_same.b .nil pass0 (pa_cons (pv 2) (pa_cons (pv 3) pa_nil))))) pa_nil))))) pss_nil)
      (pss_cons (ps_if (pt_cmp (pc_isN (pv 1))) (pss_one (ps_ret (pe_cmp (pc_isN (pv 0))))) pss_nil)
      (pss_cons (ps_if (PW.pt (pw_or (pt_cmpR op_ne (pe_callB call_isi (by rfl) B.isinstance (by decide +kernel) (pa_cons (pv 0) (pa_cons (pe_bltn (v := .ty "bool") (by rfl) B.bool (by decide +kernel) rfl) pa_nil))) (pe_callB call_isi (by rfl) B.isinstance (by decide +kernel) (pa_cons (pv 1) (pa_cons (pe_bltn (v := .ty "bool") (by rfl) B.bool (by decide +kernel) rfl) pa_nil))) (nomark _)) (pw_or1 (pt_cmpR op_ne (pe_callB call_isi (by rfl) B.isinstance (by decide +kernel) (pa_cons (pv 0) (pa_cons (pe_bltn (v := .ty "str") (by rfl) B.str (by decide +kernel) rfl) pa_nil))) (pe_callB call_isi (by rfl) B.isinstance (by decide +kernel) (pa_cons (pv 1) (pa_cons (pe_bltn (v := .ty "str") (by rfl) B.str (by decide +kernel) rfl) pa_nil))) (nomark _))))) (pss_one (ps_ret pe_bl)) pss_nil)
      (pss_one (ps_ret (pe_cmpR op_eq (pv 0) (pv 1) (nomark _))))))), ?_⟩
    rcases flat_of hA with ⟨fv, rfl⟩ | ⟨m, a, b, xs, ys, rfl, rfl, rfl, ha, hb, hl, h9, hx⟩
    · cases v with
      | non =>
        refine ⟨_, rfl, .non, .ty "tuple", .type "NoneType", .type "tuple", false, rfl, .ty _, .base .non, kit_ty (by decide +kernel), _, rfl, iteF ?_⟩
        exact ⟨_, rfl, _, rfl, itePos rfl ⟨_, rfl, q H (Same.refl H)⟩⟩
      | bl y =>
        refine ⟨_, rfl, .bl y, .ty "tuple", .type "bool", .type "tuple", false, rfl, .ty _, .base (.bl y), kit_ty (by decide +kernel), _, rfl, iteF ?_⟩
        refine ⟨_, rfl, _, rfl, iteNeg (fun c => nomatch c) ?_⟩
        refine ⟨_, rfl, .bl y, .ty "bool", .type "bool", .type "bool", true, rfl, .ty _, .base (.bl y), kit_ty (by decide +kernel), _, rfl, .bl y, .ty "bool", .type "bool", .type "bool", true, rfl, .ty _, .base (.bl y), kit_ty (by decide +kernel), rfl, _, rfl, iteNS rfl ?_⟩
        refine ⟨_, rfl, .bl y, .ty "str", .type "bool", .type "str", false, rfl, .ty _, .base (.bl y), kit_ty (by decide +kernel), _, rfl, .bl y, .ty "str", .type "bool", .type "str", false, rfl, .ty _, .base (.bl y), kit_ty (by decide +kernel), rfl, _, rfl, iteNS rfl ?_⟩
        refine ⟨_, rfl, _, rfl, rfl, ?_⟩
        rw [decide_eq_true rfl]
        exact q H (Same.refl H)
      | int y =>
        refine ⟨_, rfl, .int y, .ty "tuple", .type "int", .type "tuple", false, rfl, .ty _, .base (.int y), kit_ty (by decide +kernel), _, rfl, iteF ?_⟩
        refine ⟨_, rfl, _, rfl, iteNeg (fun c => nomatch c) ?_⟩
        refine ⟨_, rfl, .int y, .ty "bool", .type "int", .type "bool", false, rfl, .ty _, .base (.int y), kit_ty (by decide +kernel), _, rfl, .int y, .ty "bool", .type "int", .type "bool", false, rfl, .ty _, .base (.int y), kit_ty (by decide +kernel), rfl, _, rfl, iteNS rfl ?_⟩
        refine ⟨_, rfl, .int y, .ty "str", .type "int", .type "str", false, rfl, .ty _, .base (.int y), kit_ty (by decide +kernel), _, rfl, .int y, .ty "str", .type "int", .type "str", false, rfl, .ty _, .base (.int y), kit_ty (by decide +kernel), rfl, _, rfl, iteNS rfl ?_⟩
        refine ⟨_, rfl, _, rfl, rfl, ?_⟩
        rw [decide_eq_true rfl]
        exact q H (Same.refl H)
      | str y =>
        refine ⟨_, rfl, .str y, .ty "tuple", .type "str", .type "tuple", false, rfl, .ty _, .base (.str y), kit_ty (by decide +kernel), _, rfl, iteF ?_⟩
        refine ⟨_, rfl, _, rfl, iteNeg (fun c => nomatch c) ?_⟩
        refine ⟨_, rfl, .str y, .ty "bool", .type "str", .type "bool", false, rfl, .ty _, .base (.str y), kit_ty (by decide +kernel), _, rfl, .str y, .ty "bool", .type "str", .type "bool", false, rfl, .ty _, .base (.str y), kit_ty (by decide +kernel), rfl, _, rfl, iteNS rfl ?_⟩
        refine ⟨_, rfl, .str y, .ty "str", .type "str", .type "str", true, rfl, .ty _, .base (.str y), kit_ty (by decide +kernel), _, rfl, .str y, .ty "str", .type "str", .type "str", true, rfl, .ty _, .base (.str y), kit_ty (by decide +kernel), rfl, _, rfl, iteNS rfl ?_⟩
        refine ⟨_, rfl, _, rfl, rfl, ?_⟩
        rw [decide_eq_true rfl]
        exact q H (Same.refl H)
      | byt y => cases fv
      | flt y => cases fv
      | ref y => cases fv
      | ty y => cases fv
    · refine ⟨_, rfl, .ref b, .ty "tuple", .type "tuple", .type "tuple", true, rfl, .ty _, .base (.tup hb), kit_ty (by decide +kernel), _, rfl, iteT ?_⟩
      refine ⟨_, rfl, .ref a, .ty "tuple", .type "tuple", .type "tuple", true, rfl, .ty _, .base (.tup ha), kit_ty (by decide +kernel), _, rfl, iteF ?_⟩
      refine ⟨_, rfl, a, xs, rfl, .inr (SqT.of ha), _, rfl, b, ys, rfl, .inr (SqT.of hb), rfl, _, rfl, iteNS (by rw [hl]) ?_⟩
      refine ⟨_, rfl, _, rfl, a, b, xs, ys, rfl, .inr ⟨SqT.of ha, SqT.of hb, fun D nD => lc_zipT (K := K) (σ := [some (.ref a), some (.ref b), none, none]) hl
        (fun j H3 => H3 D = some (.lst (List.replicate j (V.bl true))) ∧ Same H H3 ∧ j ≤ xs.length)
        ⟨upd_same, same_upd nD, Nat.zero_le _⟩ (fun j H3 hP => ⟨SqT.of (hP.2.1 _ _ ha), SqT.of (hP.2.1 _ _ hb)⟩) (fun j x y T H3 ex ey hP nT => ?_) (fun H3 hP => ?_)⟩⟩
      · obtain ⟨hD, sm, _⟩ := hP
        have sT := same_upd (o := .tup [x, y]) nT
        have sm2 := sm.trans sT
        refine ⟨T, [x, y], rfl, SqT.of upd_same, rfl, x, [y], rfl, y, [], rfl, rfl, rfl, ?_⟩
        have jl : j < xs.length := (List.getElem?_eq_some_iff.mp ex).1
        simp only [tYes, if_true]
        refine ⟨_, rfl, _, rfl, x, y, rfl, (hx j x y ex ey).tk (Tk.of sm2), fun H4 sm4 => ?_⟩
        refine ⟨_, sm4 _ _ (sT _ _ hD), ?_, ?_⟩
        · rw [List.length_replicate]
          exact size_lt (by omega)
        · refine ⟨by rw [upd_same, List.replicate_succ'], fun c o hc => ?_, jl⟩
          rw [upd_ne (ne_of_none hc nD)]
          exact sm4 _ _ (sm2 _ _ hc)
      · obtain ⟨hD, sm, _⟩ := hP
        refine ⟨D, List.replicate xs.length true, rfl, SqL.of (by rw [List.map_replicate]; exact hD), ?_⟩
        have e : (List.replicate xs.length true).all id = true := by simp
        rw [e]
        exact q _ sm
end
end WL

set_option Elab.async false
set_option linter.all false
set_option maxRecDepth 100000
namespace WL
open PySem PySem.Spec PyProof.Rows L2
section
variable {P : Program} {w : World} {K : PySem.W.Frag} {mg : Str → Option Value} {base : Heap}
theorem ok_rule_at {f f1 f2 : Addr} {fd fd1 fd2 : FuncData} {u : Tok} (D_rule_at : Df K mg "rule_at" st_rule_at f fd ["lands", "land", "kind", "day"]) (D_row_at : Df K mg "row_at" st_row_at f1 fd1 ["rows", "key", "day"]) (D_rows_of : Df K mg "rows_of" st_rows_of f2 fd2 ["lands", "land", "part"])
    (G_row_at : FnOk P w K mg base CX0 1 f1 fd1 ["rows", "key", "day"] (spRowAt K)) (G_rows_of : FnOk P w K mg base CX0 1 f2 fd2 ["lands", "land", "part"] (spRowsOf K)) (C_RULES : mg "RULES" = some (.int 0 u)) : FnOk P w K mg base CX0 2 f fd ["lands", "land", "kind", "day"] (spAt K 0) := by
  refine D_rule_at.F.ok sc_rule_at (fun vs H Q E h => ?_) (fun cdv A outer s H vs Q E hr h => ?_)
  · obtain ⟨a, i, k, t, r, rs, rfl, _⟩ := h
    rfl
  · obtain ⟨a, i, k, t, r, rs, rfl, hP, hR, q⟩ := h
    refine ⟨_, (pss_one (ps_ret (pe_call G_row_at (hr.mono (by decide)) (by rfl) D_row_at.g D_row_at.F.kp D_row_at.b .nil pass0 (pa_cons (pe_call G_rows_of (hr.mono (by decide)) (by rfl) D_rows_of.g D_rows_of.F.kp D_rows_of.b .nil pass0 (pa_cons (pv 0) (pa_cons (pv 1) (pa_cons (pe_glob (v := .int 0) (by rfl) C_RULES ⟨_, rfl⟩) pa_nil)))) (pa_cons (pv 2) (pa_cons (pv 3) pa_nil)))))), ?_⟩
    exact ⟨_, rfl, _, rfl, a, i, 0, _, rfl, hP, _, rfl, _, rfl, r, rs, k, t, rfl, hR, q⟩
theorem ok_custom_at {f f1 f2 : Addr} {fd fd1 fd2 : FuncData} {u : Tok} (D_custom_at : Df K mg "custom_at" st_custom_at f fd ["lands", "land", "kind", "day"]) (D_row_at : Df K mg "row_at" st_row_at f1 fd1 ["rows", "key", "day"]) (D_rows_of : Df K mg "rows_of" st_rows_of f2 fd2 ["lands", "land", "part"])
    (G_row_at : FnOk P w K mg base CX0 1 f1 fd1 ["rows", "key", "day"] (spRowAt K)) (G_rows_of : FnOk P w K mg base CX0 1 f2 fd2 ["lands", "land", "part"] (spRowsOf K)) (C_CUSTOMS : mg "CUSTOMS" = some (.int 1 u)) : FnOk P w K mg base CX0 2 f fd ["lands", "land", "kind", "day"] (spAt K 1) := by
  refine D_custom_at.F.ok sc_custom_at (fun vs H Q E h => ?_) (fun cdv A outer s H vs Q E hr h => ?_)
  · obtain ⟨a, i, k, t, r, rs, rfl, _⟩ := h
    rfl
  · obtain ⟨a, i, k, t, r, rs, rfl, hP, hR, q⟩ := h
    refine ⟨_, (pss_one (ps_ret (pe_call G_row_at (hr.mono (by decide)) (by rfl) D_row_at.g D_row_at.F.kp D_row_at.b .nil pass0 (pa_cons (pe_call G_rows_of (hr.mono (by decide)) (by rfl) D_rows_of.g D_rows_of.F.kp D_rows_of.b .nil pass0 (pa_cons (pv 0) (pa_cons (pv 1) (pa_cons (pe_glob (v := .int 1) (by rfl) C_CUSTOMS ⟨_, rfl⟩) pa_nil)))) (pa_cons (pv 2) (pa_cons (pv 3) pa_nil)))))), ?_⟩
    exact ⟨_, rfl, _, rfl, a, i, 1, _, rfl, hP, _, rfl, _, rfl, r, rs, k, t, rfl, hR, q⟩
theorem ok_reach_at {f f1 f2 : Addr} {fd fd1 fd2 : FuncData} {u : Tok} (D_reach_at : Df K mg "reach_at" st_reach_at f fd ["lands", "land", "kind", "day"]) (D_row_at : Df K mg "row_at" st_row_at f1 fd1 ["rows", "key", "day"]) (D_rows_of : Df K mg "rows_of" st_rows_of f2 fd2 ["lands", "land", "part"])
    (G_row_at : FnOk P w K mg base CX0 1 f1 fd1 ["rows", "key", "day"] (spRowAt K)) (G_rows_of : FnOk P w K mg base CX0 1 f2 fd2 ["lands", "land", "part"] (spRowsOf K)) (C_REACHES : mg "REACHES" = some (.int 4 u)) : FnOk P w K mg base CX0 2 f fd ["lands", "land", "kind", "day"] (spAt K 4) := by
  refine D_reach_at.F.ok sc_reach_at (fun vs H Q E h => ?_) (fun cdv A outer s H vs Q E hr h => ?_)
  · obtain ⟨a, i, k, t, r, rs, rfl, _⟩ := h
    rfl
  · obtain ⟨a, i, k, t, r, rs, rfl, hP, hR, q⟩ := h
    refine ⟨_, (pss_one (ps_ret (pe_call G_row_at (hr.mono (by decide)) (by rfl) D_row_at.g D_row_at.F.kp D_row_at.b .nil pass0 (pa_cons (pe_call G_rows_of (hr.mono (by decide)) (by rfl) D_rows_of.g D_rows_of.F.kp D_rows_of.b .nil pass0 (pa_cons (pv 0) (pa_cons (pv 1) (pa_cons (pe_glob (v := .int 4) (by rfl) C_REACHES ⟨_, rfl⟩) pa_nil)))) (pa_cons (pv 2) (pa_cons (pv 3) pa_nil)))))), ?_⟩
    exact ⟨_, rfl, _, rfl, a, i, 4, _, rfl, hP, _, rfl, _, rfl, r, rs, k, t, rfl, hR, q⟩
theorem ok_take_at {f f1 f2 : Addr} {fd fd1 fd2 : FuncData} {u : Tok} (D_take_at : Df K mg "take_at" st_take_at f fd ["lands", "land", "other", "day"]) (D_row_at : Df K mg "row_at" st_row_at f1 fd1 ["rows", "key", "day"]) (D_rows_of : Df K mg "rows_of" st_rows_of f2 fd2 ["lands", "land", "part"])
    (G_row_at : FnOk P w K mg base CX0 1 f1 fd1 ["rows", "key", "day"] (spRowAt K)) (G_rows_of : FnOk P w K mg base CX0 1 f2 fd2 ["lands", "land", "part"] (spRowsOf K)) (C_TAKES : mg "TAKES" = some (.int 3 u)) : FnOk P w K mg base CX0 2 f fd ["lands", "land", "other", "day"] (spAt K 3) := by
  refine D_take_at.F.ok sc_take_at (fun vs H Q E h => ?_) (fun cdv A outer s H vs Q E hr h => ?_)
  · obtain ⟨a, i, k, t, r, rs, rfl, _⟩ := h
    rfl
  · obtain ⟨a, i, k, t, r, rs, rfl, hP, hR, q⟩ := h
    refine ⟨_, (pss_one (ps_ret (pe_call G_row_at (hr.mono (by decide)) (by rfl) D_row_at.g D_row_at.F.kp D_row_at.b .nil pass0 (pa_cons (pe_call G_rows_of (hr.mono (by decide)) (by rfl) D_rows_of.g D_rows_of.F.kp D_rows_of.b .nil pass0 (pa_cons (pv 0) (pa_cons (pv 1) (pa_cons (pe_glob (v := .int 3) (by rfl) C_TAKES ⟨_, rfl⟩) pa_nil)))) (pa_cons (pv 2) (pa_cons (pv 3) pa_nil)))))), ?_⟩
    exact ⟨_, rfl, _, rfl, a, i, 3, _, rfl, hP, _, rfl, _, rfl, r, rs, k, t, rfl, hR, q⟩
def spHeirsAt (K : PySem.W.Frag) : Sp := fun vs H Q _ => ∃ (a : Addr) (i : Nat) (t : Int) (r : Addr) (rs : List Row), vs = [.ref a, .int i, .int t] ∧ Part H a i 2 (.ref r) ∧ Rows K 0 H r rs ∧ Q (optV (pick (hit [] t) rs)) H
theorem ok_heirs_at {f f2 : Addr} {fd fd2 : FuncData} {u : Tok} (D : Df K mg "heirs_at" st_heirs_at f fd ["lands", "land", "day"]) (D_rows_of : Df K mg "rows_of" st_rows_of f2 fd2 ["lands", "land", "part"])
    (G_rows_of : FnOk P w K mg base CX0 1 f2 fd2 ["lands", "land", "part"] (spRowsOf K)) (C_HEIRS : mg "HEIRS" = some (.int 2 u)) : FnOk P w K mg base CX0 2 f fd ["lands", "land", "day"] (spHeirsAt K) := by
  refine D.F.ok sc_heirs_at (fun vs H Q E h => ?_) (fun cdv A outer s H vs Q E hr h => ?_)
  · obtain ⟨a, i, t, r, rs, rfl, _⟩ := h
    rfl
  · obtain ⟨a, i, t, r, rs, rfl, hP, ⟨hR, hw⟩, q⟩ := h
    refine ⟨_, (pss_cons (ps_set (i := 3) sc_heirs_at.nd rfl (.inl rfl) pe_non)
      (pss_cons (ps_for PassesOwn.never rfl (pi_tup (pe_call G_rows_of (hr.mono (by decide)) (by rfl) D_rows_of.g D_rows_of.F.kp D_rows_of.b .nil pass0 (pa_cons (pv 0) (pa_cons (pv 1) (pa_cons (pe_glob (v := .int 2) (by rfl) C_HEIRS ⟨_, rfl⟩) pa_nil))))) (pg_name (i := 4) sc_heirs_at.nd rfl (.inl rfl))
      (pss_one (ps_if (pt_cmpR op_le (pe_ix ix_tup (pv 4) pe_int (fun _ _ => rfl)) (pv 2) (nomark _)) (pss_one (ps_set (i := 3) sc_heirs_at.nd rfl (.inl rfl) (pv 4))) pss_nil)))
      (pss_one (ps_ret (pv 3))))), ?_⟩
    refine ⟨_, rfl, _, rfl, a, i, 2, _, rfl, hP, r, rfl, ⟨_, SqT.of hR⟩, for_tup (K := K) (xs := rs.map fun q => V.ref q.a) (fun j σ H' => ∃ y, σ = [some (.ref a), some (.int i), some (.int t), some (optV (pick (hit [] t) (rs.take j))), y] ∧ H' = H) ⟨none, rfl, rfl⟩
      (fun j σ H' _ ⟨y, _, e⟩ => by rw [e]; exact SqT.of hR) (fun j x σ H' hx ⟨y, e1, e2⟩ => ?_) (fun σ H' ⟨y, e1, e2⟩ => ?_)⟩
    · subst e1 e2
      rw [List.getElem?_map] at hx
      obtain ⟨z, hz, rfl⟩ := Option.map_eq_some_iff.mp hx
      obtain ⟨zn, hl⟩ := hw z (List.mem_of_getElem? hz)
      have ek : z.ns = [] := List.length_eq_zero_iff.mp zn
      rw [ek] at hl
      have pt := pick_take (hit [] t) hz
      refine ⟨.ref z.a, rfl, z.a, _, 0, _, rfl, rfl, SqT.of hl, atI_nat (j := 0) rfl, _, rfl, _, _, rfl, rfl, _, rfl, ite2 (fun e => ?_) (fun e => ?_)⟩
      · refine ⟨_, rfl, some (.ref z.a), ?_, rfl⟩
        have k2 : hit [] t z = true := by unfold hit; rw [ek, decide_eq_true rfl, e]; rfl
        rw [pt, if_pos k2]
        rfl
      · refine ⟨some (.ref z.a), ?_, rfl⟩
        have k2 : ¬ hit [] t z = true := fun c => e (Bool.and_eq_true_iff.mp c).2
        rw [pt, if_neg k2]
        rfl
    · subst e1 e2
      rw [List.length_map, List.take_length]
      exact ⟨_, rfl, q⟩
end
end WL

set_option Elab.async false
set_option linter.all false
set_option maxRecDepth 100000
namespace WL
open PySem PySem.Spec PyProof.Rows L2
section
variable {P : Program} {w : World} {K : PySem.W.Frag} {mg : Str → Option Value} {base : Heap}
def spReaches (K : PySem.W.Frag) : Sp := fun vs H Q _ => ∃ (a : Addr) (d : Addr × Addr) (N : Nat) (span : Int), vs = [.ref a, .int span] ∧ Dk H a d N ∧ N ≤ 900000 ∧ 0 < span ∧ span ≤ 1000000001 ∧
  ∀ t rs H', Kp a d H H' → Dk H' a d (N + 12) → GoodRows K 1 0 1 H' t rs → Q (.ref t) H'
theorem ok_reaches {f f1 : Addr} {fd fd1 : FuncData} (B : Bt mg) (D : Df K mg "_law_reaches" st__law_reaches f fd ["_law_deck_here", "_law_span_here"]) (D__law_next : Df K mg "_law_next" st__law_next f1 fd1 ["_law_deck_here"])
    (G__law_next : FnOk P w K mg base CX0 1 f1 fd1 ["_law_deck_here"] spNext) : FnOk P w K mg base CX0 2 f fd ["_law_deck_here", "_law_span_here"] (spReaches K) := by
  have et : ∀ {H H' : Hp} {e : List Key × V}, Tk H H' → Ent 2 0 1 tlOne H e → Ent 2 0 1 tlOne H' e := fun tk h => h.one tk
  refine D.F.ok sc__law_reaches (fun vs H Q E h => ?_) (fun cdv A outer s H vs Q E hr h => ?_)
  · obtain ⟨a, d, N, span, rfl, _⟩ := h
    rfl
  · obtain ⟨a, d, N, span, rfl, hK, hN, sp0, sp1, q⟩ := h
    refine ⟨_, (pss_cons (ps_set (i := 2) sc__law_reaches.nd rfl (.inr rfl) pe_dnewT)
      (pss_cons (ps_for PassesOwn.never rfl (pi_range1 rfl B.range (pa_cons pe_int pa_nil)) (pg_name (i := 3) sc__law_reaches.nd rfl (.inl rfl))
      (pss_cons (ps_set (i := 4) sc__law_reaches.nd rfl (.inl rfl) (pe_call G__law_next (hr.mono (by decide)) (by rfl) D__law_next.g D__law_next.F.kp D__law_next.b .nil pass0 (pa_cons (pv 0) pa_nil)))
      (pss_one (ps_for PassesOwn.never rfl (pi_range1 rfl B.range (pa_cons (pe_ix ix_list (pe_lst (pa_cons pe_int (pa_cons pe_int (pa_cons pe_int (pa_cons pe_int pa_nil))))) (pe_op op_mod (pv 4) pe_int) (fun _ _ => rfl)) pa_nil)) (pg_name (i := 5) sc__law_reaches.nd rfl (.inl rfl))
      (pss_cons (ps_set (i := 6) sc__law_reaches.nd rfl (.inl rfl) (pe_ix ix_list (pe_lst (pa_cons pe_int (pa_cons (pe_op op_mod (pe_call G__law_next (hr.mono (by decide)) (by rfl) D__law_next.g D__law_next.F.kp D__law_next.b .nil pass0 (pa_cons (pv 0) pa_nil)) (pv 1)) pa_nil))) (pe_op op_mod (pe_op op_add (pe_op op_fdivW (pv 4) pe_int) (pv 5)) pe_int) (fun _ _ => rfl)))
      (pss_one (ps_dput (hu_of hr) (pv 2) (pe_tup (pa_cons (pv 3) (pa_cons (pv 6) pa_nil))) (pe_op op_mod (pe_op op_add (pe_op op_fdivW (pv 4) pe_int) (pv 5)) pe_int) rfl)))))))
      (pss_one (ps_ret (pe_callTy call_tuple_of (by rfl) B.tuple (by decide +kernel) (pa_cons (pe_lc (own := [("_law_key", 7)]) (g := gName 7) (tt := tYes) rfl sc__law_reaches.nd (pi_list (pe_callB (cr_sortK (d := 2) (B := 2000000000) (by decide) rfl) (by rfl) B.sorted (by decide +kernel) (pa_cons (pe_bm0 PySem.F.plainAttrs_dict PySem.F.slot_dict_keys PySem.F.type_dict_keys mt_keysT (pv 2)) pa_nil))) (blkOk_by (own := [("_law_key", 7)]) (N := ["_law_deck_here", "_law_span_here", "_law_kept", "_law_kind", "_law_number", "_law_k", "_law_since", "_law_key"]) (sc := defScope st__law_reaches) (by decide +kernel)) (fun _ _ _ _ _ => (pg_name (i := 7) sc__law_reaches.nd rfl (.inl rfl))) (fun _ _ _ _ _ => pts_nil) (fun _ _ _ _ _ => (pe_op (show OpR _ _ (rCatT K) from op_catT) (pv 7) (pe_tup (pa_cons (pe_dget (hu_of hr) (pv 2) (pv 7) (fun _ _ => rfl)) pa_nil))))) pa_nil)))))), ?_⟩
    intro k nk
    refine ⟨4, rfl, by decide, by decide, for_range (lo := 0) (n := 4) (fun i σ H' => ∃ y3 y4 y5 y6 y7, σ = [some (.ref a), some (.int span), some (.ref k), y3, y4, y5, y6, y7] ∧ Kept 2 0 1 tlOne a d k H H' (N + 3 * i) (2 * i))
      ⟨none, none, none, none, none, rfl, Kept.new hK nk⟩ (fun i σ H1 hi hP => ?_) (fun σ H1 hP => ?_)⟩
    · obtain ⟨y3, y4, y5, y6, y7, rfl, hk1⟩ := hP
      refine ⟨_, rfl, a, d, _, rfl, hk1.dk, by omega, fun r H2 kp2 dk2 r0 r1 => ?_⟩
      have hk2 := hk1.step et kp2 dk2
      have hm := emod_lt (r := r) (m := 4) (by decide)
      obtain ⟨c, hc, cm⟩ := pick_int (xs := [1, 1, 2, 0]) hm.1 hm.2
      have c2 : 0 ≤ c ∧ c ≤ 2 := (by decide : ∀ c ∈ ([1, 1, 2, 0] : List Int), 0 ≤ c ∧ c ≤ 2) c cm
      refine ⟨(show 4 ≤ sizeLine by decide), fun l nl => ⟨_, rfl, _, _, rfl, rfl, (show (0 : Int) < 4 by decide), l, _, _, _, rfl, rfl, SqL.of upd_same, hc, c, rfl, by omega, by omega, ?_⟩⟩
      have hk3 := hk2.same et (same_upd (o := .lst (([1, 1, 2, 0] : List Int).map V.int)) nl)
      refine for_range (lo := 0) (n := c.toNat) (fun j σ H' => ∃ y5 y6 y7, σ = [some (.ref a), some (.int span), some (.ref k), some (.int (0 + (i : Int))), some (.int r), y5, y6, y7] ∧ Kept 2 0 1 tlOne a d k H H' (N + 3 * i + 1 + j) (2 * i + j))
        ⟨y5, y6, y7, rfl, hk3.mono (by omega) (by omega)⟩ (fun j σ H4 hj hP => ?_) (fun σ H4 hP => ?_)
      · obtain ⟨z5, z6, z7, rfl, hk4⟩ := hP
        refine ⟨_, rfl, a, d, _, rfl, hk4.dk, by omega, fun r2 H5 kp5 dk5 r20 r21 => ?_⟩
        have hk5 := hk4.step et kp5 dk5
        refine ⟨_, rfl, _, _, rfl, rfl, sp0, (show 2 ≤ sizeLine by decide), fun l2 nl2 => ?_⟩
        have hk6 := hk5.same et (same_upd (o := .lst (([0, r2 % span] : List Int).map V.int)) nl2)
        have hm2 := emod_lt (r := r / 4 + (0 + (j : Int))) (m := 2) (by decide)
        have hsp := emod_lt (r := r2) sp0
        obtain ⟨x, hx, xm⟩ := pick_int (xs := [0, r2 % span]) hm2.1 hm2.2
        have xb : 0 ≤ x ∧ x ≤ 1000000000 := by
          rcases List.mem_cons.mp xm with rfl | xm
          · omega
          · rw [List.mem_singleton.mp xm]; omega
        refine ⟨_, rfl, _, _, rfl, rfl, div_ok (by decide) (by decide), _, rfl, _, _, rfl, rfl, _, _, rfl, rfl, (show (0 : Int) < 2 by decide), l2, _, _, _, rfl, rfl, SqL.of upd_same, hx, ?_⟩
        refine ⟨_, rfl, _, _, rfl, rfl, div_ok (by decide) (by decide), _, rfl, _, _, rfl, rfl, _, _, rfl, rfl, (show (0 : Int) < 3 by decide), ?_⟩
        refine ⟨_, rfl, _, rfl, _, rfl, (show 2 ≤ sizeLine by decide), fun kk nkk => ?_⟩
        have s9 := same_upd (o := .tup [.int (0 + (i : Int)), .int x]) nkk
        have hk9 := hk6.same et s9
        obtain ⟨kvs, hkv, hb, hE⟩ := hk9.ex
        refine ⟨k, _, rfl, DPut.t (k := ([0 + (i : Int), x] : List Int).map Sum.inl) hkv upd_same (size_lt (by omega)), ?_⟩
        refine ⟨_, _, _, rfl, (hk9.put et (ns := [0 + (i : Int), x]) ?_ hkv).mono (by omega) (by omega)⟩
        refine ⟨[0 + (i : Int), x], rfl, rfl, bd2 (by omega) (by omega) xb.1 xb.2, xb.2, rfl, fun y hy => ?_⟩
        rw [List.mem_singleton.mp hy]
        exact Da.flat rfl
      · obtain ⟨z5, z6, z7, rfl, hk4⟩ := hP
        exact ⟨_, _, _, _, _, rfl, hk4.mono (by omega) (by omega)⟩
    · obtain ⟨y3, y4, y5, y6, y7, rfl, hk1⟩ := hP
      obtain ⟨kvs, hkv, hb, hE⟩ := hk1.ex
      refine rows_of_dict (K := K) (d := 2) (B := 2000000000) (tlOne H1) hkv (by omega) (fun e he => ?_) rfl (fun x => rfl) (fun ns b v H3 Qe sm hb3 ln hv vm qe => ?_) (fun t R H' sm ht lR hR _ _ => ?_)
      · obtain ⟨ns, e1, e2, e3, _⟩ := hE e he
        exact ⟨ns, e1, e2, e3⟩
      · refine ⟨_, rfl, _, rfl, _, rfl, k, v, rfl, ?_, (show 1 ≤ sizeLine by decide), fun e ne => ?_⟩
        · have := DGet.t (k := ns.map Sum.inl) (sm _ _ hkv) (show H3 b = some (.tup ((ns.map Sum.inl).map kV)) by rw [kV_ints]; exact hb3)
          rw [hv] at this
          exact this
        have s4 := same_upd (o := .tup [v]) ne
        refine ⟨b, e, _, [v], rfl, rfl, SqT.of (s4 _ _ hb3), SqT.of upd_same, ?_, size_le (by rw [List.length_map]; show _ + 1 ≤ _; omega), (fun z => nomatch z), fun _ p np => qe p _ (s4.trans (same_upd np)) upd_same⟩
        intro z
        rw [List.map_eq_nil_iff] at z
        rw [z] at ln
        cases ln
      · refine q t _ H' (hk1.kp.trans (Kp.of sm)) ((hk1.dk.same sm).mono (by omega)) (good_mk (Tk.of sm) hE (by omega) ht lR hR)
def spTakes (K : PySem.W.Frag) : Sp := fun vs H Q _ => ∃ (a : Addr) (d : Addr × Addr) (N : Nat) (span land : Int) (many : Nat), vs = [.ref a, .int land, .int many, .int span] ∧ many ≤ 5 ∧ Dk H a d N ∧ N ≤ 900000 ∧ 0 < span ∧ span ≤ 1000000001 ∧
  ∀ t rs H', Kp a d H H' → Dk H' a d (N + 15) → GoodRows K 1 0 1 H' t rs → Q (.ref t) H'
theorem ok_takes {f f1 : Addr} {fd fd1 : FuncData} (B : Bt mg) (D : Df K mg "_law_takes" st__law_takes f fd ["_law_deck_here", "_law_land", "_law_many", "_law_span_here"]) (D__law_next : Df K mg "_law_next" st__law_next f1 fd1 ["_law_deck_here"])
    (G__law_next : FnOk P w K mg base CX0 1 f1 fd1 ["_law_deck_here"] spNext) : FnOk P w K mg base CX0 2 f fd ["_law_deck_here", "_law_land", "_law_many", "_law_span_here"] (spTakes K) := by
  have et : ∀ {H H' : Hp} {e : List Key × V}, Tk H H' → Ent 2 0 1 tlOne H e → Ent 2 0 1 tlOne H' e := fun tk h => h.one tk
  refine D.F.ok sc__law_takes (fun vs H Q E h => ?_) (fun cdv A outer s H vs Q E hr h => ?_)
  · obtain ⟨a, d, N, span, land, many, rfl, _⟩ := h
    rfl
  · obtain ⟨a, d, N, span, land, many, rfl, m5, hK, hN, sp0, sp1, q⟩ := h
    refine ⟨_, (pss_cons (ps_set (i := 4) sc__law_takes.nd rfl (.inr rfl) pe_dnewT)
      (pss_cons (ps_for PassesOwn.never rfl (pi_list (pe_lc (own := [("_law_one", 9)]) (g := gName 9) rfl sc__law_takes.nd (pi_range1 rfl B.range (pa_cons (pv 2) pa_nil)) (blkOk_by (own := [("_law_one", 9)]) (N := ["_law_deck_here", "_law_land", "_law_many", "_law_span_here", "_law_kept", "_law_other", "_law_number", "_law_k", "_law_since", "_law_one", "_law_key"]) (sc := defScope st__law_takes) (by decide +kernel)) (fun _ _ _ _ _ => (pg_name (i := 9) sc__law_takes.nd rfl (.inl rfl))) (fun _ _ _ _ _ => pts_one (pt_cmpR op_ne (pv 9) (pv 1) (nomark _))) (fun _ _ _ _ _ => (pv 9)))) (pg_name (i := 5) sc__law_takes.nd rfl (.inl rfl))
      (pss_cons (ps_set (i := 6) sc__law_takes.nd rfl (.inl rfl) (pe_call G__law_next (hr.mono (by decide)) (by rfl) D__law_next.g D__law_next.F.kp D__law_next.b .nil pass0 (pa_cons (pv 0) pa_nil)))
      (pss_one (ps_for PassesOwn.never rfl (pi_range1 rfl B.range (pa_cons (pe_ix ix_list (pe_lst (pa_cons pe_int (pa_cons pe_int (pa_cons pe_int pa_nil)))) (pe_op op_mod (pv 6) pe_int) (fun _ _ => rfl)) pa_nil)) (pg_name (i := 7) sc__law_takes.nd rfl (.inl rfl))
      (pss_cons (ps_set (i := 8) sc__law_takes.nd rfl (.inl rfl) (pe_ix ix_list (pe_lst (pa_cons pe_int (pa_cons (pe_op op_mod (pe_call G__law_next (hr.mono (by decide)) (by rfl) D__law_next.g D__law_next.F.kp D__law_next.b .nil pass0 (pa_cons (pv 0) pa_nil)) (pv 3)) pa_nil))) (pe_op op_mod (pe_op op_add (pe_op op_fdivW (pv 6) pe_int) (pv 7)) pe_int) (fun _ _ => rfl)))
      (pss_one (ps_dput (hu_of hr) (pv 4) (pe_tup (pa_cons (pv 5) (pa_cons (pv 8) pa_nil))) (pe_op op_mod (pe_op op_add (pe_op op_fdivW (pv 6) pe_int) (pv 7)) pe_int) rfl)))))))
      (pss_one (ps_ret (pe_callTy call_tuple_of (by rfl) B.tuple (by decide +kernel) (pa_cons (pe_lc (own := [("_law_key", 10)]) (g := gName 10) (tt := tYes) rfl sc__law_takes.nd (pi_list (pe_callB (cr_sortK (d := 2) (B := 2000000000) (by decide) rfl) (by rfl) B.sorted (by decide +kernel) (pa_cons (pe_bm0 PySem.F.plainAttrs_dict PySem.F.slot_dict_keys PySem.F.type_dict_keys mt_keysT (pv 4)) pa_nil))) (blkOk_by (own := [("_law_key", 10)]) (N := ["_law_deck_here", "_law_land", "_law_many", "_law_span_here", "_law_kept", "_law_other", "_law_number", "_law_k", "_law_since", "_law_one", "_law_key"]) (sc := defScope st__law_takes) (by decide +kernel)) (fun _ _ _ _ _ => (pg_name (i := 10) sc__law_takes.nd rfl (.inl rfl))) (fun _ _ _ _ _ => pts_nil) (fun _ _ _ _ _ => (pe_op (show OpR _ _ (rCatT K) from op_catT) (pv 10) (pe_tup (pa_cons (pe_dget (hu_of hr) (pv 4) (pv 10) (fun _ _ => rfl)) pa_nil))))) pa_nil)))))), ?_⟩
    intro k nk
    refine ⟨_, rfl, many, rfl, by omega, by omega, fun o no => lc_range (lo := 0) (n := many) (fun i H3 => ∃ os : List Int, H3 o = some (.lst (os.map V.int)) ∧ os.length ≤ i ∧ (∀ x ∈ os, 0 ≤ x ∧ x < 5) ∧ Same (upd H k (.dT [])) H3)
      ⟨[], upd_same, Nat.le_refl _, (fun x hx => absurd hx List.not_mem_nil), same_upd no⟩ (fun i H3 hi hP => ?_) (fun H3 hP => ?_)⟩
    · obtain ⟨os, ho, lo, bo, sm⟩ := hP
      refine ⟨rfl, _, rfl, _, rfl, rfl, _, rfl, ite2 (fun e => ⟨_, rfl, _, ho, size_lt (by rw [List.length_map]; omega), os ++ [0 + (i : Int)], ?_, ?_, fun x hx => ?_, fun b u hb => ?_⟩) (fun e => ⟨os, ho, by omega, bo, sm⟩)⟩
      · rw [upd_same, List.map_append]; rfl
      · rw [List.length_append]; show _ + 1 ≤ _; omega
      · rcases List.mem_append.mp hx with h | h
        · exact bo x h
        · rw [List.mem_singleton.mp h]; omega
      · rw [upd_ne (ne_of_none hb no)]
        exact sm _ _ hb
    obtain ⟨os, ho, lo, bo, sm⟩ := hP
    have hk0 : Kept 2 0 1 tlOne a d k H (upd H k (.dT [])) N 0 := Kept.new hK nk
    have nn := hk0.dk.nn no
    refine ⟨o, rfl, ⟨_, SqL.of ho⟩, for_list (K := K) (xs := os.map V.int) (fun i σ H' => ∃ y3 y4 y5 y6 y7 y8, σ = [some (.ref a), some (.int land), some (.int many), some (.int span), some (.ref k), y3, y4, y5, y6, y7, y8] ∧ Kept 2 0 1 tlOne a d k H H' (N + 3 * i) (2 * i) ∧ H' o = some (.lst (os.map V.int)))
      ⟨none, none, none, none, none, none, rfl, hk0.same et sm, ho⟩ (fun i σ H' _ hP => ?_) (fun i v σ H1 hv hP => ?_) (fun σ H1 hP => ?_)⟩
    · obtain ⟨_, _, _, _, _, _, _, _, h⟩ := hP
      exact SqL.of h
    · obtain ⟨y3, y4, y5, y6, y7, y8, rfl, hk1, ho1⟩ := hP
      rw [List.getElem?_map] at hv
      obtain ⟨oth, hoth, rfl⟩ := Option.map_eq_some_iff.mp hv
      have hi : i < os.length := (List.getElem?_eq_some_iff.mp hoth).1
      obtain ⟨o0, o5⟩ := bo oth (List.mem_of_getElem? hoth)
      refine ⟨_, rfl, a, d, _, rfl, hk1.dk, by omega, fun r H2 kp2 dk2 r0 r1 => ?_⟩
      have hk2 := hk1.step et kp2 dk2
      have ho2 := kp2 _ _ nn.1 nn.2.1 ho1
      have hm := emod_lt (r := r) (m := 3) (by decide)
      obtain ⟨c, hc, cm⟩ := pick_int (xs := [1, 2, 0]) hm.1 hm.2
      have c2 : 0 ≤ c ∧ c ≤ 2 := (by decide : ∀ c ∈ ([1, 2, 0] : List Int), 0 ≤ c ∧ c ≤ 2) c cm
      refine ⟨(show 3 ≤ sizeLine by decide), fun l nl => ⟨_, rfl, _, _, rfl, rfl, (show (0 : Int) < 3 by decide), l, _, _, _, rfl, rfl, SqL.of upd_same, hc, c, rfl, by omega, by omega, ?_⟩⟩
      have s3 := same_upd (o := .lst (([1, 2, 0] : List Int).map V.int)) nl
      have hk3 := hk2.same et s3
      refine for_range (lo := 0) (n := c.toNat) (fun j σ H' => ∃ y5 y6 y7 y8, σ = [some (.ref a), some (.int land), some (.int many), some (.int span), some (.ref k), some (.int oth), some (.int r), y5, y6, y7, y8] ∧ Kept 2 0 1 tlOne a d k H H' (N + 3 * i + 1 + j) (2 * i + j) ∧ H' o = some (.lst (os.map V.int)))
        ⟨y5, y6, y7, y8, rfl, hk3.mono (by omega) (by omega), s3 _ _ ho2⟩ (fun j σ H4 hj hP => ?_) (fun σ H4 hP => ?_)
      · obtain ⟨z5, z6, z7, z8, rfl, hk4, ho4⟩ := hP
        refine ⟨_, rfl, a, d, _, rfl, hk4.dk, by omega, fun r2 H5 kp5 dk5 r20 r21 => ?_⟩
        have hk5 := hk4.step et kp5 dk5
        have ho5 := kp5 _ _ nn.1 nn.2.1 ho4
        refine ⟨_, rfl, _, _, rfl, rfl, sp0, (show 2 ≤ sizeLine by decide), fun l2 nl2 => ?_⟩
        have s6 := same_upd (o := .lst (([0, r2 % span] : List Int).map V.int)) nl2
        have hk6 := hk5.same et s6
        have hm2 := emod_lt (r := r / 3 + (0 + (j : Int))) (m := 2) (by decide)
        have hsp := emod_lt (r := r2) sp0
        obtain ⟨x, hx, xm⟩ := pick_int (xs := [0, r2 % span]) hm2.1 hm2.2
        have xb : 0 ≤ x ∧ x ≤ 1000000000 := by
          rcases List.mem_cons.mp xm with rfl | xm
          · omega
          · rw [List.mem_singleton.mp xm]; omega
        refine ⟨_, rfl, _, _, rfl, rfl, div_ok (by decide) (by decide), _, rfl, _, _, rfl, rfl, _, _, rfl, rfl, (show (0 : Int) < 2 by decide), l2, _, _, _, rfl, rfl, SqL.of upd_same, hx, ?_⟩
        refine ⟨_, rfl, _, _, rfl, rfl, div_ok (by decide) (by decide), _, rfl, _, _, rfl, rfl, _, _, rfl, rfl, (show (0 : Int) < 2 by decide), ?_⟩
        refine ⟨_, rfl, _, rfl, _, rfl, (show 2 ≤ sizeLine by decide), fun kk nkk => ?_⟩
        have s9 := same_upd (o := .tup [.int oth, .int x]) nkk
        have hk9 := hk6.same et s9
        obtain ⟨kvs, hkv, hb, hE⟩ := hk9.ex
        have hko : o ≠ k := ne_of (s9 _ _ (s6 _ _ ho5)) hkv (fun z => nomatch z)
        refine ⟨k, _, rfl, DPut.t (k := ([oth, x] : List Int).map Sum.inl) hkv upd_same (size_lt (by omega)), ?_⟩
        refine ⟨_, _, _, _, rfl, (hk9.put et (ns := [oth, x]) ?_ hkv).mono (by omega) (by omega), ?_⟩
        · refine ⟨[oth, x], rfl, rfl, bd2 (by omega) (by omega) xb.1 xb.2, xb.2, rfl, fun y hy => ?_⟩
          rw [List.mem_singleton.mp hy]
          exact Da.flat rfl
        · rw [upd_ne hko]
          exact s9 _ _ (s6 _ _ ho5)
      · obtain ⟨z5, z6, z7, z8, rfl, hk4, ho4⟩ := hP
        exact ⟨_, _, _, _, _, _, rfl, hk4.mono (by omega) (by omega), ho4⟩
    · obtain ⟨y3, y4, y5, y6, y7, y8, rfl, hk1, ho1⟩ := hP
      rw [List.length_map] at hk1
      obtain ⟨kvs, hkv, hb, hE⟩ := hk1.ex
      refine rows_of_dict (K := K) (d := 2) (B := 2000000000) (tlOne H1) hkv (by omega) (fun e he => ?_) rfl (fun x => rfl) (fun ns b v H3 Qe sm hb3 ln hv vm qe => ?_) (fun t R H' sm ht lR hR _ _ => ?_)
      · obtain ⟨ns, e1, e2, e3, _⟩ := hE e he
        exact ⟨ns, e1, e2, e3⟩
      · refine ⟨_, rfl, _, rfl, _, rfl, k, v, rfl, ?_, (show 1 ≤ sizeLine by decide), fun e ne => ?_⟩
        · have := DGet.t (k := ns.map Sum.inl) (sm _ _ hkv) (show H3 b = some (.tup ((ns.map Sum.inl).map kV)) by rw [kV_ints]; exact hb3)
          rw [hv] at this
          exact this
        have s4 := same_upd (o := .tup [v]) ne
        refine ⟨b, e, _, [v], rfl, rfl, SqT.of (s4 _ _ hb3), SqT.of upd_same, ?_, size_le (by rw [List.length_map]; show _ + 1 ≤ _; omega), (fun z => nomatch z), fun _ p np => qe p _ (s4.trans (same_upd np)) upd_same⟩
        intro z
        rw [List.map_eq_nil_iff] at z
        rw [z] at ln
        cases ln
      · refine q t _ H' (hk1.kp.trans (Kp.of sm)) ((hk1.dk.same sm).mono (by omega)) (good_mk (Tk.of sm) hE (by omega) ht lR hR)
end
end WL

set_option Elab.async false
set_option linter.all false
set_option maxRecDepth 100000
namespace WL
open PySem PySem.Spec PyProof.Rows L2
/-- a list that is filled with data -/
def Lst (m : Nat) (H : Hp) (g : Addr) (n : Nat) : Prop := ∃ xs, H g = some (.lst xs) ∧ xs.length = n ∧ ∀ x ∈ xs, Da m H x
theorem Lst.kp {m n N : Nat} {H H' : Hp} {g a : Addr} {d : Addr × Addr} (x : Lst m H g n) (dk : Dk H a d N) (kp : Kp a d H H') (ng : g ≠ a ∧ g ≠ d.1 ∧ g ≠ d.2) : Lst m H' g n :=
  let ⟨xs, h1, h2, h3⟩ := x
  ⟨xs, kp _ _ ng.1 ng.2.1 h1, h2, fun y hy => (h3 y hy).tk (dk.tk kp)⟩
theorem Lst.same {m n : Nat} {H H' : Hp} {g : Addr} (x : Lst m H g n) (s : Same H H') : Lst m H' g n :=
  let ⟨xs, h1, h2, h3⟩ := x
  ⟨xs, s _ _ h1, h2, fun y hy => (h3 y hy).tk (Tk.of s)⟩
theorem Lst.other {m n : Nat} {H : Hp} {g p : Addr} {ys : List V} {o : HO} (x : Lst m H g n) (hp : H p = some (.lst ys)) (ne : g ≠ p) : Lst m (upd H p o) g n :=
  let ⟨xs, h1, h2, h3⟩ := x
  ⟨xs, by rw [upd_ne ne]; exact h1, h2, fun y hy => (h3 y hy).tk (Tk.upd hp fun xs z => nomatch z)⟩
theorem Lst.snoc {m : Nat} {H : Hp} {g : Addr} {xs : List V} {v : V} (h1 : H g = some (.lst xs)) (h3 : ∀ x ∈ xs, Da m H x) (hv : Da m H v) : Lst m (upd H g (.lst (xs ++ [v]))) g (xs.length + 1) := by
  have tk : Tk H (upd H g (.lst (xs ++ [v]))) := Tk.upd h1 fun xs z => nomatch z
  refine ⟨_, upd_same, by rw [List.length_append]; rfl, fun y hy => ?_⟩
  rcases List.mem_append.mp hy with h | h
  · exact (h3 y h).tk tk
  · rw [List.mem_singleton.mp h]; exact hv.tk tk
theorem Lst.tup {m n : Nat} {H : Hp} {t : Addr} {xs : List V} (h : H t = some (.tup xs)) (hl : xs.length ≤ 1000) (h3 : ∀ x ∈ xs, Da m H x) : Da (m + 1) H (.ref t) := Da.tup h hl h3
section
variable {P : Program} {w : World} {K : PySem.W.Frag} {mg : Str → Option Value} {base : Heap}
def spHeirs (K : PySem.W.Frag) : Sp := fun vs H Q _ => ∃ (a : Addr) (d : Addr × Addr) (N : Nat) (span : Int), vs = [.ref a, .int span] ∧ Dk H a d N ∧ N ≤ 900000 ∧ 0 < span ∧ span ≤ 1000000001 ∧
  ∀ t rs H', Kp a d H H' → Dk H' a d (N + 40) → GoodRows K 0 3 1 H' t rs → Q (.ref t) H'
theorem ok_heirs {f f1 : Addr} {fd fd1 : FuncData} (B : Bt mg) (D : Df K mg "_law_heirs" st__law_heirs f fd ["_law_deck_here", "_law_span_here"]) (D__law_next : Df K mg "_law_next" st__law_next f1 fd1 ["_law_deck_here"])
    (G__law_next : FnOk P w K mg base CX0 1 f1 fd1 ["_law_deck_here"] spNext) : FnOk P w K mg base CX0 2 f fd ["_law_deck_here", "_law_span_here"] (spHeirs K) := by
  refine D.F.ok sc__law_heirs (fun vs H Q E h => ?_) (fun cdv A outer s H vs Q E hr h => ?_)
  · obtain ⟨a, d, N, span, rfl, _⟩ := h
    rfl
  · obtain ⟨a, d, N, span, rfl, hK, hN, sp0, sp1, q⟩ := h
    refine ⟨_, (pss_cons (ps_set (i := 2) sc__law_heirs.nd rfl (.inr rfl) pe_dnewK)
      (pss_cons (ps_for PassesOwn.never rfl (pi_range1 rfl B.range (pa_cons (pe_ix ix_list (pe_lst (pa_cons pe_int (pa_cons pe_int (pa_cons pe_int (pa_cons pe_int pa_nil))))) (pe_op op_mod (pe_call G__law_next (hr.mono (by decide)) (by rfl) D__law_next.g D__law_next.F.kp D__law_next.b .nil pass0 (pa_cons (pv 0) pa_nil)) pe_int) (fun _ _ => rfl)) pa_nil)) (pg_name (i := 3) sc__law_heirs.nd rfl (.inl rfl))
      (pss_cons (ps_set (i := 4) sc__law_heirs.nd rfl (.inl rfl) (pe_lst pa_nil))
      (pss_cons (ps_for PassesOwn.never rfl (pi_range1 rfl B.range (pa_cons (pe_op op_add pe_int (pe_op op_mod (pe_call G__law_next (hr.mono (by decide)) (by rfl) D__law_next.g D__law_next.F.kp D__law_next.b .nil pass0 (pa_cons (pv 0) pa_nil)) pe_int)) pa_nil)) (pg_name (i := 5) sc__law_heirs.nd rfl (.inl rfl))
      (pss_cons (ps_set (i := 6) sc__law_heirs.nd rfl (.inl rfl) (pe_lst pa_nil))
      (pss_cons (ps_for PassesOwn.never rfl (pi_range1 rfl B.range (pa_cons (pe_ix ix_list (pe_lst (pa_cons pe_int (pa_cons pe_int (pa_cons pe_int (pa_cons pe_int pa_nil))))) (pe_op op_mod (pe_call G__law_next (hr.mono (by decide)) (by rfl) D__law_next.g D__law_next.F.kp D__law_next.b .nil pass0 (pa_cons (pv 0) pa_nil)) pe_int) (fun _ _ => rfl)) pa_nil)) (pg_name (i := 7) sc__law_heirs.nd rfl (.inl rfl))
      (pss_cons (ps_set (i := 8) sc__law_heirs.nd rfl (.inl rfl) (pe_call G__law_next (hr.mono (by decide)) (by rfl) D__law_next.g D__law_next.F.kp D__law_next.b .nil pass0 (pa_cons (pv 0) pa_nil)))
      (pss_cons (ps_set (i := 9) sc__law_heirs.nd rfl (.inl rfl) (pe_ix ix_list (pe_lst (pa_cons pe_non (pa_cons pe_non (pa_cons (pe_op op_mod (pe_op op_fdivW (pv 8) pe_int) pe_int) pa_nil)))) (pe_op op_mod (pe_op op_fdivW (pv 8) pe_int) pe_int) (fun _ _ => rfl)))
      (pss_cons (ps_set (i := 10) sc__law_heirs.nd rfl (.inl rfl) (pe_ix ix_list (pe_lst (pa_cons pe_int (pa_cons (pe_op op_mod (pe_op op_fdivW (pv 8) pe_int) pe_int) pa_nil))) (pe_callTy call_int1 (by rfl) B.int (by decide +kernel) (pa_cons (pe_cmp (pc_notN (pv 9))) pa_nil)) (fun _ _ => rfl)))
      (pss_one (ps_expr (pe_bm PySem.F.plainAttrs_list PySem.F.slot_list_append PySem.F.type_list_append mt_append (pv 6) (pa_cons (pe_tup (pa_cons (pe_op op_mod (pv 8) pe_int) (pa_cons (pe_op op_add pe_int (pe_op op_mod (pe_op op_fdivW (pv 8) pe_int) pe_int)) (pa_cons (pv 9) (pa_cons (pv 10) pa_nil))))) pa_nil))))))))
      (pss_one (ps_expr (pe_bm PySem.F.plainAttrs_list PySem.F.slot_list_append PySem.F.type_list_append mt_append (pv 4) (pa_cons (pe_callTy call_tuple_of (by rfl) B.tuple (by decide +kernel) (pa_cons (pv 6) pa_nil)) pa_nil)))))))
      (pss_cons (ps_set (i := 8) sc__law_heirs.nd rfl (.inl rfl) (pe_call G__law_next (hr.mono (by decide)) (by rfl) D__law_next.g D__law_next.F.kp D__law_next.b .nil pass0 (pa_cons (pv 0) pa_nil)))
      (pss_one (ps_dput (hu_of hr) (pv 2) (pe_ix ix_list (pe_lst (pa_cons pe_int (pa_cons (pe_op op_mod (pe_op op_fdivW (pv 8) pe_int) (pv 1)) pa_nil))) (pe_op op_mod (pe_op op_add (pv 8) (pv 3)) pe_int) (fun _ _ => rfl)) (pe_callTy call_tuple_of (by rfl) B.tuple (by decide +kernel) (pa_cons (pv 4) pa_nil)) rfl))))))
      (pss_one (ps_ret (pe_callTy call_tuple_of (by rfl) B.tuple (by decide +kernel) (pa_cons (pe_lc (own := [("_law_since", 11)]) (g := gName 11) (tt := tYes) rfl sc__law_heirs.nd (pi_list (pe_callB (cr_sortKI rfl) (by rfl) B.sorted (by decide +kernel) (pa_cons (pe_bm0 PySem.F.plainAttrs_dict PySem.F.slot_dict_keys PySem.F.type_dict_keys mt_keysK (pv 2)) pa_nil))) (blkOk_by (own := [("_law_since", 11)]) (N := ["_law_deck_here", "_law_span_here", "_law_kept", "_law_k", "_law_ranks", "_law_j", "_law_calls", "_law_i", "_law_number", "_law_kind", "_law_mode", "_law_since"]) (sc := defScope st__law_heirs) (by decide +kernel)) (fun _ _ _ _ _ => (pg_name (i := 11) sc__law_heirs.nd rfl (.inl rfl))) (fun _ _ _ _ _ => pts_nil) (fun _ _ _ _ _ => (pe_tup (pa_cons (pv 11) (pa_cons (pe_dget (hu_of hr) (pv 2) (pv 11) (fun _ _ => rfl)) pa_nil))))) pa_nil)))))), ?_⟩
    intro k nk
    have hk0 : KeptK 3 a d k H (upd H k (.dK [])) N 0 := KeptK.new hK nk
    refine ⟨(show 4 ≤ sizeLine by decide), fun l nl => ?_⟩
    have s1 := same_upd (o := .lst (([1, 1, 2, 0] : List Int).map V.int)) nl
    have hk1 := hk0.same s1
    have nnl := hk0.dk.nn nl
    refine ⟨_, rfl, a, d, _, rfl, hk1.dk, by omega, fun r H2 kp2 dk2 r0 r1 => ?_⟩
    have hk2 := hk1.step kp2 dk2
    have hm := emod_lt (r := r) (m := 4) (by decide)
    obtain ⟨c, hc, cm⟩ := pick_int (xs := [1, 1, 2, 0]) hm.1 hm.2
    have c2 : 0 ≤ c ∧ c ≤ 2 := (by decide : ∀ c ∈ ([1, 1, 2, 0] : List Int), 0 ≤ c ∧ c ≤ 2) c cm
    refine ⟨_, _, rfl, rfl, (show (0 : Int) < 4 by decide), l, _, _, _, rfl, rfl, SqL.of (kp2 _ _ nnl.1 nnl.2.1 upd_same), hc, c, rfl, by omega, by omega, ?_⟩
    refine for_range (lo := 0) (n := c.toNat) (fun i σ H' => ∃ y3 y4 y5 y6 y7 y8 y9 y10 y11, σ = [some (.ref a), some (.int span), some (.ref k), y3, y4, y5, y6, y7, y8, y9, y10, y11] ∧ KeptK 3 a d k H H' (N + 1 + 15 * i) i)
      ⟨none, none, none, none, none, none, none, none, none, rfl, hk2⟩ (fun i σ H3 hi hP => ?_) (fun σ H3 hP => ?_)
    · obtain ⟨y3, y4, y5, y6, y7, y8, y9, y10, y11, rfl, hk3⟩ := hP
      refine ⟨Nat.zero_le _, fun g ng => ?_⟩
      have s4 := same_upd (o := .lst []) ng
      have hk4 := hk3.same s4
      have nng := hk3.dk.nn ng
      have ng0 : H g = none := hk3.kp.free nng.1 nng.2.1 ng
      refine ⟨_, rfl, a, d, _, rfl, hk4.dk, by omega, fun r2 H5 kp5 dk5 r20 r21 => ?_⟩
      have hk5 := hk4.step kp5 dk5
      have lg5 : Lst 2 H5 g 0 := Lst.kp ⟨[], upd_same, rfl, fun x hx => absurd hx List.not_mem_nil⟩ hk4.dk kp5 nng
      have hm2 := emod_lt (r := r2) (m := 3) (by decide)
      refine ⟨_, _, rfl, rfl, (show (0 : Int) < 3 by decide), _, _, rfl, rfl, 1 + r2 % 3, rfl, by omega, by omega, ?_⟩
      refine for_range (lo := 0) (n := (1 + r2 % 3).toNat) (fun j σ H' => ∃ y5 y6 y7 y8 y9 y10 y11, σ = [some (.ref a), some (.int span), some (.ref k), some (.int (0 + (i : Int))), some (.ref g), y5, y6, y7, y8, y9, y10, y11] ∧ KeptK 3 a d k H H' (N + 1 + 15 * i + 1 + 4 * j) i ∧ Lst 2 H' g j)
        ⟨_, _, _, _, _, _, _, rfl, hk5.mono (by omega) (by omega), lg5⟩ (fun j σ H6 hj hP => ?_) (fun σ H6 hP => ?_)
      · obtain ⟨y5, y6, y7, y8, y9, y10, y11, rfl, hk6, lg6⟩ := hP
        refine ⟨Nat.zero_le _, fun g2 ng2 => ?_⟩
        have s7 := same_upd (o := .lst []) ng2
        have hk7 := hk6.same s7
        have lg7 := lg6.same s7
        have nng2 := hk6.dk.nn ng2
        have ng20 : H g2 = none := hk6.kp.free nng2.1 nng2.2.1 ng2
        have ngg : g ≠ g2 := by
          obtain ⟨xs, h1, _⟩ := lg6
          exact ne_of_none h1 ng2
        refine ⟨(show 4 ≤ sizeLine by decide), fun l3 nl3 => ?_⟩
        have s8 := same_upd (o := .lst (([1, 1, 2, 3] : List Int).map V.int)) nl3
        have hk8 := hk7.same s8
        have lg8 := lg7.same s8
        have lh8 : Lst 1 (upd (upd H6 g2 (.lst [])) l3 (.lst (([1, 1, 2, 3] : List Int).map V.int))) g2 0 := Lst.same ⟨[], upd_same, rfl, fun x hx => absurd hx List.not_mem_nil⟩ s8
        have nnl3 := hk7.dk.nn nl3
        refine ⟨_, rfl, a, d, _, rfl, hk8.dk, by omega, fun r3 H9 kp9 dk9 r30 r31 => ?_⟩
        have hk9 := hk8.step kp9 dk9
        have lg9 := lg8.kp hk8.dk kp9 nng
        have lh9 := lh8.kp hk8.dk kp9 nng2
        have hm3 := emod_lt (r := r3) (m := 4) (by decide)
        obtain ⟨c3, hc3, cm3⟩ := pick_int (xs := [1, 1, 2, 3]) hm3.1 hm3.2
        have c32 : 0 ≤ c3 ∧ c3 ≤ 3 := (by decide : ∀ c ∈ ([1, 1, 2, 3] : List Int), 0 ≤ c ∧ c ≤ 3) c3 cm3
        refine ⟨_, _, rfl, rfl, (show (0 : Int) < 4 by decide), l3, _, _, _, rfl, rfl, SqL.of (kp9 _ _ nnl3.1 nnl3.2.1 upd_same), hc3, c3, rfl, by omega, by omega, ?_⟩
        refine for_range (lo := 0) (n := c3.toNat) (fun p σ H' => ∃ y7 y8 y9 y10 y11, σ = [some (.ref a), some (.int span), some (.ref k), some (.int (0 + (i : Int))), some (.ref g), some (.int (0 + (j : Int))), some (.ref g2), y7, y8, y9, y10, y11] ∧ KeptK 3 a d k H H' (N + 1 + 15 * i + 1 + 4 * j + 1 + p) i ∧ Lst 2 H' g j ∧ Lst 1 H' g2 p)
          ⟨_, _, _, _, _, rfl, hk9.mono (by omega) (by omega), lg9, lh9⟩ (fun p σ H10 hp hP => ?_) (fun σ H10 hP => ?_)
        · obtain ⟨y7, y8, y9, y10, y11, rfl, hk10, lg10, lh10⟩ := hP
          refine ⟨_, rfl, a, d, _, rfl, hk10.dk, by omega, fun r4 H11 kp11 dk11 r40 r41 => ?_⟩
          have hk11 := hk10.step kp11 dk11
          have lg11 := lg10.kp hk10.dk kp11 nng
          have lh11 := lh10.kp hk10.dk kp11 nng2
          have hm4 := emod_lt (r := r4 / 108) (m := 3) (by decide)
          obtain ⟨kd, hkd, kdm⟩ := atI_some (xs := [V.non, V.non, V.int (r4 / 27 % 4)]) hm4.1 hm4.2
          have kf : flat kd = true := by
            have : ∀ x ∈ [V.non, V.non, V.int (r4 / 27 % 4)], flat x = true := by simp [flat]
            exact this kd kdm
          refine ⟨_, rfl, _, _, rfl, rfl, div_ok (by decide) (by decide), _, _, rfl, rfl, (show (0 : Int) < 4 by decide), (show 3 ≤ sizeLine by decide), fun l4 nl4 => ?_⟩
          have s12 := same_upd (o := .lst [V.non, V.non, V.int (r4 / 27 % 4)]) nl4
          refine ⟨_, rfl, _, _, rfl, rfl, div_ok (by decide) (by decide), _, _, rfl, rfl, (show (0 : Int) < 3 by decide), l4, _, _, _, rfl, rfl, SqL.of upd_same, hkd, ?_⟩
          refine ⟨_, rfl, _, _, rfl, rfl, div_ok (by decide) (by decide), _, _, rfl, rfl, (show (0 : Int) < 2 by decide), (show 2 ≤ sizeLine by decide), fun l5 nl5 => ?_⟩
          have s13 := same_upd (o := .lst (([0, r4 / 324 % 2] : List Int).map V.int)) nl5
          obtain ⟨md, hmd, _⟩ := pick_int (xs := [0, r4 / 324 % 2]) (i := if (!decide (kd = V.non)) = true then 1 else 0) (by split <;> decide) (by split <;> simp)
          refine ⟨_, rfl, .inr ⟨_, rfl, l5, _, _, _, rfl, rfl, SqL.of upd_same, hmd, ?_⟩⟩
          have s13' := s12.trans s13
          have hk13 := hk11.same s13'
          have lg13 := lg11.same s13'
          obtain ⟨zs, hz, lz, dz⟩ := lh11.same s13'
          refine ⟨.ref g2, rfl, .inl ⟨rfl, _, SqL.of hz⟩, _, rfl, _, _, rfl, rfl, (show (0 : Int) < 3 by decide), _, rfl, _, _, rfl, rfl, div_ok (by decide) (by decide), _, _, rfl, rfl, (show (0 : Int) < 9 by decide), _, _, rfl, rfl, _, rfl, _, rfl, (show 4 ≤ sizeLine by decide), fun e ne => ?_⟩
          have s14 := same_upd (o := .tup [.int (r4 % 3), .int (1 + r4 / 3 % 9), kd, .int md]) ne
          refine ⟨g2, _, _, rfl, rfl, s14 _ _ hz, size_lt (by omega), ?_⟩
          refine ⟨_, _, _, _, _, rfl, ((hk13.same s14).lst (s14 _ _ hz) nng2 ng20).mono (by omega) (by omega), (lg13.same s14).other (s14 _ _ hz) ngg, ?_⟩
          have := Lst.snoc (m := 1) (v := .ref e) (s14 _ _ hz) (fun x hx => (dz x hx).tk (Tk.of s14)) (Da.tup upd_same (show 4 ≤ 1000 by decide) fun x hx => by
            rcases List.mem_cons.mp hx with rfl | hx
            · exact Da.flat rfl
            rcases List.mem_cons.mp hx with rfl | hx
            · exact Da.flat rfl
            rcases List.mem_cons.mp hx with rfl | hx
            · exact Da.flat kf
            · rw [List.mem_singleton.mp hx]; exact Da.flat rfl)
          rw [lz] at this
          exact this
        · obtain ⟨y7, y8, y9, y10, y11, rfl, hk10, lg10, lh10⟩ := hP
          obtain ⟨xs, hx, lx, dx⟩ := lg10
          obtain ⟨zs, hz, lz, dz⟩ := lh10
          refine ⟨.ref g, rfl, .inl ⟨rfl, _, SqL.of hx⟩, _, rfl, g2, zs, rfl, .inl ⟨SqL.of hz, fun t nt => ?_⟩⟩
          have s11 := same_upd (o := .tup zs) nt
          refine ⟨g, _, _, rfl, rfl, s11 _ _ hx, size_lt (by omega), ?_⟩
          refine ⟨_, _, _, _, _, _, _, rfl, ((hk10.same s11).lst (s11 _ _ hx) nng ng0).mono (by omega) (by omega), ?_⟩
          have := Lst.snoc (m := 2) (v := .ref t) (s11 _ _ hx) (fun x hx => (dx x hx).tk (Tk.of s11)) (Da.tup upd_same (by omega) fun x hx => (dz x hx).tk (Tk.of s11))
          rw [lx] at this
          exact this
      · obtain ⟨y5, y6, y7, y8, y9, y10, y11, rfl, hk6, lg6⟩ := hP
        refine ⟨_, rfl, a, d, _, rfl, hk6.dk, by omega, fun r5 H7 kp7 dk7 r50 r51 => ?_⟩
        have hk7 := hk6.step kp7 dk7
        obtain ⟨xs, hx, lx, dx⟩ := lg6.kp hk6.dk kp7 nng
        refine ⟨_, rfl, g, xs, rfl, .inl ⟨SqL.of hx, fun t nt => ?_⟩⟩
        have s8 := same_upd (o := .tup xs) nt
        have dt : Da 3 (upd H7 t (.tup xs)) (.ref t) := Da.tup upd_same (by omega) fun x hx => (dx x hx).tk (Tk.of s8)
        have hm5 := emod_lt (r := r5 + (0 + (i : Int))) (m := 2) (by decide)
        have hsp := emod_lt (r := r5 / 2) sp0
        obtain ⟨x, hxx, xm⟩ := pick_int (xs := [0, r5 / 2 % span]) hm5.1 hm5.2
        have xb : 0 ≤ x ∧ x ≤ 1000000000 := by
          rcases List.mem_cons.mp xm with rfl | xm
          · omega
          · rw [List.mem_singleton.mp xm]; omega
        refine ⟨_, rfl, _, rfl, _, _, rfl, rfl, div_ok (by decide) (by decide), _, rfl, _, _, rfl, rfl, sp0, (show 2 ≤ sizeLine by decide), fun l6 nl6 => ?_⟩
        have s9 := same_upd (o := .lst (([0, r5 / 2 % span] : List Int).map V.int)) nl6
        have hk9 := hk7.same (s8.trans s9)
        obtain ⟨kvs, hkv, hb, hE⟩ := hk9.ex
        refine ⟨_, rfl, _, rfl, _, _, rfl, rfl, _, _, rfl, rfl, (show (0 : Int) < 2 by decide), l6, _, _, _, rfl, rfl, SqL.of upd_same, hxx, k, _, rfl, DPut.k (k := (Sum.inl x : Key)) hkv (size_lt (by omega)), ?_⟩
        exact ⟨_, _, _, _, _, _, _, _, _, rfl, (hk9.put xb.1 xb.2 (dt.tk (Tk.of s9)) hkv).mono (by omega) (by omega)⟩
    · obtain ⟨y3, y4, y5, y6, y7, y8, y9, y10, y11, rfl, hk3⟩ := hP
      obtain ⟨kvs, hkv, hb, hE⟩ := hk3.ex
      exact rows_of_dictK (K := K) (m := 3) hkv (by omega) hE rfl (fun x => rfl) (fun x => rfl) (fun x => rfl) fun t rs H' sm gr _ => q t rs H' (hk3.kp.trans (Kp.of sm)) ((hk3.dk.same sm).mono (by omega)) gr
end
end WL

set_option Elab.async false
set_option linter.all false
set_option maxRecDepth 100000
namespace WL
open PySem PySem.Spec PyProof.Rows L2
def Gd (K : PySem.W.Frag) (n : Nat) (H : Hp) (t : Addr) (rs : List Row) : Prop := Rows K n H t rs ∧ rs.length ≤ 60 ∧ ∀ q ∈ rs, Da 4 H (.ref q.a)
theorem Gd.tk {K : PySem.W.Frag} {n : Nat} {H H' : Hp} {t : Addr} {rs : List Row} (s : Tk H H') (h : Gd K n H t rs) : Gd K n H' t rs := ⟨h.1.tk s, h.2.1, fun q hq => (h.2.2 q hq).tk s⟩
theorem Gd.of {K : PySem.W.Frag} {n m c : Nat} {H : Hp} {t : Addr} {rs : List Row} (h : GoodRows K n m c H t rs) (hm : m ≤ 3) (hc : n + 1 + c ≤ 1000) : Gd K n H t rs := by
  refine ⟨h.1, h.2.1, fun q hq => ?_⟩
  obtain ⟨h1, h2⟩ := h.1.2 q hq
  obtain ⟨_, _, h3, h4⟩ := h.2.2 q hq
  refine Da.tup h2 ?_ fun x hx => ?_
  · rw [List.length_append, List.length_map, List.length_cons]; omega
  · rcases List.mem_append.mp hx with z | z
    · obtain ⟨y, _, rfl⟩ := List.mem_map.mp z
      exact Da.flat rfl
    · rcases List.mem_cons.mp z with rfl | z
      · exact Da.flat rfl
      · exact (h4 x z).le hm
structure L5 where
  l : Addr
  r0 : Addr
  r1 : Addr
  r2 : Addr
  r3 : Addr
  r4 : Addr
  R0 : List Row
  R1 : List Row
  R2 : List Row
  R3 : List Row
  R4 : List Row
structure Ln5 (K : PySem.W.Frag) (H : Hp) (q : L5) : Prop where
  h : H q.l = some (.tup [.ref q.r0, .ref q.r1, .ref q.r2, .ref q.r3, .ref q.r4])
  g0 : Gd K 1 H q.r0 q.R0
  g1 : Gd K 1 H q.r1 q.R1
  g2 : Gd K 0 H q.r2 q.R2
  g3 : Gd K 1 H q.r3 q.R3
  g4 : Gd K 1 H q.r4 q.R4
theorem Ln5.tk {K : PySem.W.Frag} {H H' : Hp} {q : L5} (t : Tk H H') (x : Ln5 K H q) : Ln5 K H' q := ⟨t _ _ x.h, x.g0.tk t, x.g1.tk t, x.g2.tk t, x.g3.tk t, x.g4.tk t⟩
theorem atI_m3 {α : Type} (xs : List α) (a b c : α) : atI (xs ++ [a, b, c]) (-3) = some a := by
  have hl : (xs ++ [a, b, c]).length = xs.length + 3 := by simp
  have e : ixN (xs ++ [a, b, c]).length (-3) = some xs.length := by
    unfold ixN
    rw [hl, if_neg (by decide), if_pos (by omega)]
    congr 1
    omega
  unfold atI
  rw [e]
  simp
section
variable {P : Program} {w : World} {K : PySem.W.Frag} {mg : Str → Option Value} {base : Heap}
def spWhole (K : PySem.W.Frag) : Sp := fun vs H Q _ => ∃ (a : Addr) (d : Addr × Addr) (N : Nat) (span : Int) (many : Nat), vs = [.ref a, .int many, .int span, .int (1 : Nat)] ∧ many ≤ 5 ∧ Dk H a d N ∧ N ≤ 100000 ∧ 0 < span ∧ span ≤ 1000000001 ∧
  ∀ t (L : List L5) H', Kp a d H H' → Dk H' a d (N + 200 * many) → H' t = some (.tup (L.map fun q => V.ref q.l)) → L.length = many → (∀ q ∈ L, Ln5 K H' q) → Q (.ref t) H'
theorem ok_whole {f f1 f2 f3 f4 f5 : Addr} {fd fd1 fd2 fd3 fd4 fd5 : FuncData} (B : Bt mg) (D : Df K mg "_law_whole_lands" st__law_whole_lands f fd ["_law_deck_here", "_law_many", "_law_span_here", "_law_asks"]) (D__law_rules : Df K mg "_law_rules" st__law_rules f1 fd1 ["_law_deck_here", "_law_span_here"]) (D__law_laws : Df K mg "_law_laws" st__law_laws f2 fd2 ["_law_deck_here", "_law_span_here", "_law_asks"])
    (D__law_heirs : Df K mg "_law_heirs" st__law_heirs f3 fd3 ["_law_deck_here", "_law_span_here"]) (D__law_takes : Df K mg "_law_takes" st__law_takes f4 fd4 ["_law_deck_here", "_law_land", "_law_many", "_law_span_here"]) (D__law_reaches : Df K mg "_law_reaches" st__law_reaches f5 fd5 ["_law_deck_here", "_law_span_here"])
    (G__law_rules : FnOk P w K mg base CX0 2 f1 fd1 ["_law_deck_here", "_law_span_here"] (spRules K)) (G__law_laws : FnOk P w K mg base CX0 4 f2 fd2 ["_law_deck_here", "_law_span_here", "_law_asks"] (spLaws K 1)) (G__law_heirs : FnOk P w K mg base CX0 2 f3 fd3 ["_law_deck_here", "_law_span_here"] (spHeirs K))
    (G__law_takes : FnOk P w K mg base CX0 2 f4 fd4 ["_law_deck_here", "_law_land", "_law_many", "_law_span_here"] (spTakes K)) (G__law_reaches : FnOk P w K mg base CX0 2 f5 fd5 ["_law_deck_here", "_law_span_here"] (spReaches K)) : FnOk P w K mg base CX0 5 f fd ["_law_deck_here", "_law_many", "_law_span_here", "_law_asks"] (spWhole K) := by
  refine D.F.ok sc__law_whole_lands (fun vs H Q E h => ?_) (fun cdv A outer s H vs Q E hr h => ?_)
  · obtain ⟨a, d, N, span, many, rfl, _⟩ := h
    rfl
  · obtain ⟨a, d, N, span, many, rfl, m5, hK, hN, sp0, sp1, q⟩ := h
    have b1 : bud 1 = 3 := rfl
    refine ⟨_, (pss_cons (ps_set (i := 4) sc__law_whole_lands.nd rfl (.inl rfl) (pe_lst pa_nil))
      (pss_cons (ps_for PassesOwn.never rfl (pi_range1 rfl B.range (pa_cons (pv 1) pa_nil)) (pg_name (i := 5) sc__law_whole_lands.nd rfl (.inl rfl))
      (pss_cons (ps_set (i := 6) sc__law_whole_lands.nd rfl (.inl rfl) (pe_lst (pa_cons (pe_call G__law_rules (hr.mono (by decide)) (by rfl) D__law_rules.g D__law_rules.F.kp D__law_rules.b .nil pass0 (pa_cons (pv 0) (pa_cons (pv 2) pa_nil))) (pa_cons (pe_call G__law_laws (hr.mono (by decide)) (by rfl) D__law_laws.g D__law_laws.F.kp D__law_laws.b .nil pass0 (pa_cons (pv 0) (pa_cons (pv 2) (pa_cons (pv 3) pa_nil)))) pa_nil))))
      (pss_cons (ps_set (i := 6) sc__law_whole_lands.nd rfl (.inl rfl) (pe_op op_cat (pv 6) (pe_lst (pa_cons (pe_call G__law_heirs (hr.mono (by decide)) (by rfl) D__law_heirs.g D__law_heirs.F.kp D__law_heirs.b .nil pass0 (pa_cons (pv 0) (pa_cons (pv 2) pa_nil))) (pa_cons (pe_call G__law_takes (hr.mono (by decide)) (by rfl) D__law_takes.g D__law_takes.F.kp D__law_takes.b .nil pass0 (pa_cons (pv 0) (pa_cons (pv 5) (pa_cons (pv 1) (pa_cons (pv 2) pa_nil))))) pa_nil)))))
      (pss_one (ps_expr (pe_bm PySem.F.plainAttrs_list PySem.F.slot_list_append PySem.F.type_list_append mt_append (pv 4) (pa_cons (pe_callTy call_tuple_of (by rfl) B.tuple (by decide +kernel) (pa_cons (pe_op op_cat (pv 6) (pe_lst (pa_cons (pe_call G__law_reaches (hr.mono (by decide)) (by rfl) D__law_reaches.g D__law_reaches.F.kp D__law_reaches.b .nil pass0 (pa_cons (pv 0) (pa_cons (pv 2) pa_nil))) pa_nil))) pa_nil)) pa_nil)))))))
      (pss_one (ps_ret (pe_callTy call_tuple_of (by rfl) B.tuple (by decide +kernel) (pa_cons (pv 4) pa_nil)))))), ?_⟩
    refine ⟨Nat.zero_le _, fun g ng => ?_⟩
    have s1 := same_upd (o := .lst []) ng
    have nn := hK.nn ng
    refine ⟨_, rfl, many, rfl, by omega, by omega, for_range (lo := 0) (n := many) (fun i σ H' => ∃ (y5 y6 : Option V) (L : List L5), σ = [some (.ref a), some (.int many), some (.int span), some (.int (1 : Nat)), some (.ref g), y5, y6] ∧ H' g = some (.lst (L.map fun q => V.ref q.l)) ∧ L.length = i ∧ (∀ q ∈ L, Ln5 K H' q) ∧
        Dk H' a d (N + 200 * i) ∧ Kp a d H H')
      ⟨none, none, [], rfl, upd_same, rfl, (fun q hq => absurd hq List.not_mem_nil), hK.same s1, Kp.of s1⟩ (fun i σ H1 hi hP => ?_) (fun σ H1 hP => ?_)⟩
    · obtain ⟨y5, y6, L, rfl, hg, lL, hL, dk1, kp1⟩ := hP
      refine ⟨_, rfl, _, rfl, a, d, _, span, rfl, dk1, by omega, sp0, sp1, fun t1 rs1 H2 kp2 dk2 gr1 => ?_⟩
      refine ⟨_, rfl, _, rfl, _, rfl, a, d, _, span, rfl, dk2, by omega, sp0, sp1, fun t2 rs2 H3 kp3 dk3 gr2 => ?_⟩
      rw [b1] at dk3
      refine ⟨(show 2 ≤ sizeLine by decide), fun p1 np1 => ?_⟩
      have s4 := same_upd (o := .lst [.ref t1, .ref t2]) np1
      have dk4 := dk3.same s4
      have nn1 := dk3.nn np1
      refine ⟨_, rfl, _, rfl, _, rfl, a, d, _, span, rfl, dk4, by omega, sp0, sp1, fun t3 rs3 H5 kp5 dk5 gr3 => ?_⟩
      refine ⟨_, rfl, _, rfl, _, rfl, _, rfl, a, d, _, span, _, many, rfl, m5, dk5, by omega, sp0, sp1, fun t4 rs4 H6 kp6 dk6 gr4 => ?_⟩
      refine ⟨(show 2 ≤ sizeLine by decide), fun p2 np2 => ?_⟩
      have s7 := same_upd (o := .lst [.ref t3, .ref t4]) np2
      have hp17 := s7 _ _ (kp6 _ _ nn1.1 nn1.2.1 (kp5 _ _ nn1.1 nn1.2.1 upd_same))
      refine ⟨p1, p2, _, _, rfl, rfl, hp17, upd_same, (show 4 ≤ sizeLine by decide), fun p3 np3 => ?_⟩
      have s8 := s7.trans (same_upd (o := .lst [.ref t1, .ref t2, .ref t3, .ref t4]) np3)
      have dk8 := dk6.same s8
      have nn3 := (dk6.same s7).nn np3
      have hg8 := s8 _ _ (kp6 _ _ nn.1 nn.2.1 (kp5 _ _ nn.1 nn.2.1 (s4 _ _ (kp3 _ _ nn.1 nn.2.1 (kp2 _ _ nn.1 nn.2.1 hg)))))
      refine ⟨.ref g, rfl, .inl ⟨rfl, _, SqL.of hg8⟩, _, rfl, _, rfl, _, rfl, a, d, _, span, rfl, dk8, by omega, sp0, sp1, fun t5 rs5 H9 kp9 dk9 gr5 => ?_⟩
      refine ⟨(show 1 ≤ sizeLine by decide), fun p4 np4 => ?_⟩
      have s10 := same_upd (o := .lst [.ref t5]) np4
      refine ⟨p3, p4, _, _, rfl, rfl, s10 _ _ (kp9 _ _ nn3.1 nn3.2.1 upd_same), upd_same, (show 5 ≤ sizeLine by decide), fun p5 np5 => ?_⟩
      have s11 := s10.trans (same_upd (o := .lst [.ref t1, .ref t2, .ref t3, .ref t4, .ref t5]) np5)
      refine ⟨p5, _, rfl, .inl ⟨SqL.of upd_same, fun l nl => ?_⟩⟩
      have s12 := s11.trans (same_upd (o := .tup [.ref t1, .ref t2, .ref t3, .ref t4, .ref t5]) nl)
      have hg12 := s12 _ _ (kp9 _ _ nn.1 nn.2.1 hg8)
      refine ⟨g, _, _, rfl, rfl, hg12, size_lt (by rw [List.length_map]; omega), ?_⟩
      have tkg : Tk _ (upd _ g (.lst (L.map (fun q => V.ref q.l) ++ [V.ref l]))) := Tk.upd hg12 (fun xs z => nomatch z)
      have t5' := (Tk.of s12).trans tkg
      have t4' := (dk8.tk kp9).trans t5'
      have t3' := (Tk.of s8).trans t4'
      have t2' := (dk5.tk kp6).trans t3'
      have t1' := ((Tk.of s4).trans (dk4.tk kp5)).trans t2'
      have t0' := (dk2.tk kp3).trans t1'
      refine ⟨_, _, L ++ [⟨l, t1, t2, t3, t4, t5, rs1, rs2, rs3, rs4, rs5⟩], rfl, ?_, ?_, fun z hz => ?_, ?_, ?_⟩
      · rw [upd_same, List.map_append]; rfl
      · rw [List.length_append, lL]; rfl
      · rcases List.mem_append.mp hz with h | h
        · exact (hL z h).tk ((dk1.tk kp2).trans t0')
        · rw [List.mem_singleton.mp h]
          exact ⟨tkg _ _ upd_same, (Gd.of gr1 (by decide) (by decide)).tk t0', (Gd.of gr2 (by decide) (by decide)).tk t1', (Gd.of gr3 (by decide) (by decide)).tk t2', (Gd.of gr4 (by decide) (by decide)).tk t3', (Gd.of gr5 (by decide) (by decide)).tk t5'⟩
      · exact ((dk9.same s12).updL nn.1 nn.2.1 nn.2.2).mono (by omega)
      · intro b o h1 h2 hb
        rw [upd_ne (ne_of_none hb ng)]
        exact s12 _ _ (kp9 _ _ h1 h2 (s8 _ _ (kp6 _ _ h1 h2 (kp5 _ _ h1 h2 (s4 _ _ (kp3 _ _ h1 h2 (kp2 _ _ h1 h2 (kp1 _ _ h1 h2 hb))))))))
    · obtain ⟨y5, y6, L, rfl, hg, lL, hL, dk1, kp1⟩ := hP
      refine ⟨_, rfl, g, _, rfl, .inl ⟨SqL.of hg, fun t nt => ?_⟩⟩
      have s2 := same_upd (o := .tup (L.map fun q => V.ref q.l)) nt
      exact q t L _ (kp1.trans (Kp.of s2)) (dk1.same s2) upd_same lL fun z hz => (hL z hz).tk (Tk.of s2)
/-- [row[n] for row in rows]: ints -/
theorem lc_col {H1 : Hp} {σ : L2.St} {i : Nat} {Qd : Hp → Prop} {g : TG} {D : Addr} {r : Addr} {rs : List Row} {n : Nat} {te : TE} (hR : Rows K n H1 r rs) (nD : H1 D = none) (h60 : rs.length ≤ 60) (hg : g = gName i)
    (hw : ∀ x, wipe ((wipe σ [i]).set i (some x)) [i] = wipe σ [i])
    (hte : ∀ (H3 : Hp) (z : Row) (Qe : VK), Rw n H3 z → (∀ x : Int, Qe (.int x) H3) → te ((wipe σ [i]).set i (some (.ref z.a))) H3 Qe)
    (q : ∀ (zs : List Int) (H3 : Hp), Same H1 H3 → H3 D = some (.lst (zs.map V.int)) → zs.length = rs.length → Qd H3) :
    ∃ W : Nat → Nat → Hp → Prop, (∃ m, W 0 m (upd H1 D (.lst []))) ∧ ∀ j m H, W j m H →
      ((Itt K r).stop j H ∧ Qd H) ∨ ((Itt K r).go j H ∧ ∃ Nx : Hp → Prop, (∀ H', Nx H' → ∃ m', m' < m ∧ W (j + 1) m' H') ∧ ∀ x H', (Itt K r).yld j H x H' → g x (wipe σ [i]) H' fun σ2 H2 => wipe σ2 [i] = wipe σ [i] ∧ tYes σ2 H2 fun b H3 =>
        if b = true then te σ2 H3 fun y H4 => ∃ acc, H4 D = some (.lst acc) ∧ acc.length < sizeLine ∧ Nx (upd H4 D (.lst (acc ++ [y]))) else Nx H3) := by
  subst hg
  refine lc_tup (K := K) (xs := rs.map fun q => V.ref q.a) (fun j H3 => ∃ zs : List Int, H3 D = some (.lst (zs.map V.int)) ∧ zs.length = j ∧ Same H1 H3) ⟨[], upd_same, rfl, same_upd nD⟩ (fun j H3 _ ⟨_, _, _, sm⟩ => SqT.of (sm _ _ hR.1)) (fun j x H3 hx hP => ?_) (fun H3 hP => ?_)
  · obtain ⟨zs, hD, lz, sm⟩ := hP
    rw [List.getElem?_map] at hx
    obtain ⟨z, hz, rfl⟩ := Option.map_eq_some_iff.mp hx
    have jl : j < rs.length := (List.getElem?_eq_some_iff.mp hz).1
    refine ⟨hw _, ?_⟩
    simp only [tYes, if_true]
    refine hte H3 z _ ((hR.same sm).2 z (List.mem_of_getElem? hz)) fun x => ⟨_, hD, size_lt (by rw [List.length_map]; omega), zs ++ [x], ?_, ?_, fun b o hb => ?_⟩
    · rw [upd_same, List.map_append]; rfl
    · rw [List.length_append, lz]; rfl
    · rw [upd_ne (ne_of_none hb nD)]
      exact sm _ _ hb
  · obtain ⟨zs, hD, lz, sm⟩ := hP
    rw [List.length_map] at lz
    exact q zs H3 sm hD lz
end
end WL

set_option Elab.async false
set_option linter.all false
set_option maxRecDepth 100000
namespace WL
open PySem PySem.Spec PyProof.Rows L2
section
variable {P : Program} {w : World} {K : PySem.W.Frag} {mg : Str → Option Value} {base : Heap}
def spDays (K : PySem.W.Frag) : Sp := fun vs H Q _ => ∃ (a : Addr) (d : Addr × Addr) (N : Nat) (span : Int) (z : L5), vs = [.ref a, .ref z.l, .int span] ∧ Ln5 K H z ∧ Dk H a d N ∧ N ≤ 900000 ∧ 0 < span ∧ span ≤ 1000000001 ∧
  ∀ p (zs : List Int) H', Kp a d H H' → Dk H' a d (N + 2) → H' p = some (.lst (zs.map V.int)) → zs.length = 6 → Q (.ref p) H'
theorem ok_days {f f1 : Addr} {fd fd1 : FuncData} (B : Bt mg) (D : Df K mg "_law_days" st__law_days f fd ["_law_deck_here", "_law_land", "_law_span_here"]) (D__law_next : Df K mg "_law_next" st__law_next f1 fd1 ["_law_deck_here"])
    (G__law_next : FnOk P w K mg base CX0 1 f1 fd1 ["_law_deck_here"] spNext) : FnOk P w K mg base CX0 2 f fd ["_law_deck_here", "_law_land", "_law_span_here"] (spDays K) := by
  refine D.F.ok sc__law_days (fun vs H Q E h => ?_) (fun cdv A outer s H vs Q E hr h => ?_)
  · obtain ⟨a, d, N, span, z, rfl, _⟩ := h
    rfl
  · obtain ⟨a, d, N, span, z, rfl, hz, hK, hN, sp0, sp1, q⟩ := h
    refine ⟨_, (pss_cons (ps_setLc (i := 3) (own := [("_law_row", 7)]) (g := gName 7) (tt := tYes) rfl sc__law_days.nd rfl rfl (sw_true rfl rfl rfl (by decide +kernel)) (pi_tup (pe_ix ix_tup (pv 1) pe_int (fun _ _ => rfl))) (blkOk_by (own := [("_law_row", 7)]) (N := ["_law_deck_here", "_law_land", "_law_span_here", "_law_rows", "_law_part", "_law_number", "_law_since", "_law_row"]) (sc := defScope st__law_days) (by decide +kernel)) (fun _ _ _ _ _ => (pg_name (i := 7) sc__law_days.nd rfl (.inl rfl))) (fun _ _ _ _ _ => pts_nil) (fun _ _ _ _ _ => (pe_ix (show IxR _ (rIxT K) from ix_tup) (pv 7) pe_int (fun _ _ => rfl))))
      (pss_cons (ps_for PassesOwn.never rfl (pi_list (pe_lst (pa_cons (pe_ix ix_tup (pv 1) pe_int (fun _ _ => rfl)) (pa_cons (pe_ix ix_tup (pv 1) pe_int (fun _ _ => rfl)) (pa_cons (pe_ix ix_tup (pv 1) pe_int (fun _ _ => rfl)) (pa_cons (pe_ix ix_tup (pv 1) pe_int (fun _ _ => rfl)) pa_nil)))))) (pg_name (i := 4) sc__law_days.nd rfl (.inl rfl))
      (pss_one (ps_set (i := 3) sc__law_days.nd rfl (.inl rfl) (pe_op op_cat (pv 3) (pe_lc (own := [("_law_row", 7)]) (g := gName 7) (tt := tYes) rfl sc__law_days.nd (pi_tup (pv 4)) (blkOk_by (own := [("_law_row", 7)]) (N := ["_law_deck_here", "_law_land", "_law_span_here", "_law_rows", "_law_part", "_law_number", "_law_since", "_law_row"]) (sc := defScope st__law_days) (by decide +kernel)) (fun _ _ _ _ _ => (pg_name (i := 7) sc__law_days.nd rfl (.inl rfl))) (fun _ _ _ _ _ => pts_nil) (fun _ _ _ _ _ => (pe_ix (show IxR _ (rIxT K) from ix_tup) (pv 7) pe_int (fun _ _ => rfl))))))))
      (pss_cons (ps_set (i := 3) sc__law_days.nd rfl (.inl rfl) (pe_op op_cat (pv 3) (pe_lst (pa_cons (pe_op op_mod (pe_call G__law_next (hr.mono (by decide)) (by rfl) D__law_next.g D__law_next.F.kp D__law_next.b .nil pass0 (pa_cons (pv 0) pa_nil)) (pv 2)) (pa_cons pe_int (pa_cons pe_int pa_nil))))))
      (pss_cons (ps_set (i := 5) sc__law_days.nd rfl (.inl rfl) (pe_call G__law_next (hr.mono (by decide)) (by rfl) D__law_next.g D__law_next.F.kp D__law_next.b .nil pass0 (pa_cons (pv 0) pa_nil)))
      (pss_cons (ps_set (i := 6) sc__law_days.nd rfl (.inl rfl) (pe_ix ix_list (pv 3) (pe_op op_mod (pv 5) (pe_callB call_len_seq (by rfl) B.len (by decide +kernel) (pa_cons (pv 3) pa_nil))) (fun _ _ => rfl)))
      (pss_one (ps_ret (pe_lst (pa_cons (pv 6) (pa_cons (pe_callB (call_max2 rfl) (by rfl) B.max (by decide +kernel) (pa_cons pe_int (pa_cons (pe_op op_sub (pv 6) pe_int) pa_nil))) (pa_cons (pe_callB (call_min2 rfl) (by rfl) B.min (by decide +kernel) (pa_cons pe_int (pa_cons (pe_op op_add (pv 6) pe_int) pa_nil))) (pa_cons (pe_ix ix_list (pv 3) (pe_un un_neg pe_int) (fun _ _ => rfl)) (pa_cons pe_int (pa_cons pe_int pa_nil)))))))))))))), ?_⟩
    refine ⟨_, rfl, z.l, _, 2, .ref z.r2, rfl, rfl, SqT.of hz.h, atI_nat (j := 2) rfl, z.r2, rfl, ⟨_, SqT.of hz.g2.1.1⟩, fun o no => lc_col (K := K) hz.g2.1 no hz.g2.2.1 rfl (fun x => rfl) (fun H3 y Qe hy qe => ?_) (fun zs H3 sm hD lz => ?_)⟩
    · obtain ⟨yn, hy⟩ := hy
      rw [List.length_eq_zero_iff.mp yn] at hy
      exact ⟨_, rfl, y.a, _, 0, .int y.s, rfl, rfl, SqT.of hy, atI_nat (j := 0) rfl, qe _⟩
    have nno := hK.nn no
    have hl3 := sm _ _ hz.h
    refine ⟨_, rfl, z.l, _, 0, .ref z.r0, rfl, rfl, SqT.of hl3, atI_nat (j := 0) rfl, _, rfl, z.l, _, 1, .ref z.r1, rfl, rfl, SqT.of hl3, atI_nat (j := 1) rfl, _, rfl, z.l, _, 3, .ref z.r3, rfl, rfl, SqT.of hl3, atI_nat (j := 3) rfl, _, rfl, z.l, _, 4, .ref z.r4, rfl, rfl, SqT.of hl3, atI_nat (j := 4) rfl, (show 4 ≤ sizeLine by decide), fun g ng => ?_⟩
    have s4 := sm.trans (same_upd (o := .lst [.ref z.r0, .ref z.r1, .ref z.r3, .ref z.r4]) ng)
    refine ⟨g, rfl, ⟨_, SqL.of upd_same⟩, for_list (K := K) (xs := [.ref z.r0, .ref z.r1, .ref z.r3, .ref z.r4]) (fun j σ H' => ∃ (p : Addr) (zs : List Int) (y4 y7 : Option V), σ = [some (.ref a), some (.ref z.l), some (.int span), some (.ref p), y4, none, none, y7] ∧ H' p = some (.lst (zs.map V.int)) ∧ zs.length ≤ 60 + 60 * j ∧ Same H H' ∧
        (p ≠ a ∧ p ≠ d.1 ∧ p ≠ d.2) ∧ H' g = some (.lst [.ref z.r0, .ref z.r1, .ref z.r3, .ref z.r4]))
      ⟨o, zs, _, _, rfl, same_upd ng _ _ hD, by rw [lz]; exact hz.g2.2.1, s4, nno, upd_same⟩ (fun j σ H' _ hP => ?_) (fun j x σ H5 hx hP => ?_) (fun σ H5 hP => ?_)⟩
    · obtain ⟨_, _, _, _, _, _, _, _, _, h⟩ := hP
      exact SqL.of h
    · obtain ⟨p, zs, y4, y7, rfl, hp, lz, sm5, np, hg⟩ := hP
      obtain ⟨r, R, rfl, gr⟩ : ∃ r R, x = .ref r ∧ Gd K 1 H r R := by
        have hm := List.mem_of_getElem? hx
        rcases List.mem_cons.mp hm with rfl | hm
        · exact ⟨_, _, rfl, hz.g0⟩
        rcases List.mem_cons.mp hm with rfl | hm
        · exact ⟨_, _, rfl, hz.g1⟩
        rcases List.mem_cons.mp hm with rfl | hm
        · exact ⟨_, _, rfl, hz.g3⟩
        · rw [List.mem_singleton.mp hm]
          exact ⟨_, _, rfl, hz.g4⟩
      have j4 : j < 4 := (List.getElem?_eq_some_iff.mp hx).1
      have gr5 := gr.tk (Tk.of sm5)
      refine ⟨_, rfl, _, rfl, r, rfl, ⟨_, SqT.of gr5.1.1⟩, fun o2 no2 => lc_col (K := K) gr5.1 no2 gr5.2.1 rfl (fun x => rfl) (fun H6 y Qe hy qe => ?_) (fun zs2 H6 sm6 hD2 lz2 => ?_)⟩
      · obtain ⟨yn, hy⟩ := hy
        obtain ⟨yk, ek⟩ := len1 yn
        rw [ek] at hy
        exact ⟨_, rfl, y.a, _, 1, .int y.s, rfl, rfl, SqT.of hy, atI_nat (j := 1) rfl, qe _⟩
      · have l2 := gr5.2.1
        refine ⟨p, o2, _, _, rfl, rfl, sm6 _ _ hp, hD2, size_le (by rw [List.length_map, List.length_map]; omega), fun p' np' => ?_⟩
        have s7 := same_upd (o := .lst (zs.map V.int ++ zs2.map V.int)) np'
        refine ⟨p', zs ++ zs2, _, _, rfl, by rw [upd_same, List.map_append], by rw [List.length_append]; omega, (sm5.trans sm6).trans s7, (hK.same (sm5.trans sm6)).nn np', s7 _ _ (sm6 _ _ hg)⟩
    · obtain ⟨p, zs, y4, y7, rfl, hp, lz, sm5, np, hg⟩ := hP
      refine ⟨_, rfl, _, rfl, a, d, _, rfl, hK.same sm5, by omega, fun r H6 kp6 dk6 r0 r1 => ⟨_, rfl, _, _, rfl, rfl, sp0, (show 3 ≤ sizeLine by decide), fun h nh => ?_⟩⟩
      have s7 := same_upd (o := .lst (([r % span, 0, 1000000000] : List Int).map V.int)) nh
      have lz' : zs.length ≤ 300 := lz
      refine ⟨p, h, _, _, rfl, rfl, s7 _ _ (kp6 _ _ np.1 np.2.1 hp), upd_same, size_le (by rw [List.length_map]; show _ + 3 ≤ _; omega), fun p' np' => ?_⟩
      have s8 := s7.trans (same_upd (o := .lst (zs.map V.int ++ ([r % span, 0, 1000000000] : List Int).map V.int)) np')
      have nn' := (dk6.same s7).nn np'
      refine ⟨_, rfl, a, d, _, rfl, dk6.same s8, by omega, fun r2 H9 kp9 dk9 r20 r21 => ?_⟩
      have hp9 : H9 p' = some (.lst (zs.map V.int ++ ([r % span, 0, 1000000000] : List Int).map V.int)) := kp9 _ _ nn'.1 nn'.2.1 upd_same
      have eL : zs.map V.int ++ ([r % span, 0, 1000000000] : List Int).map V.int = (zs ++ [r % span, 0, 1000000000]).map V.int := by rw [List.map_append]
      have hm := emod_lt (r := r2) (m := (((zs ++ [r % span, 0, 1000000000]).map V.int).length : Int)) (by rw [List.length_map, List.length_append]; show (0 : Int) < ((_ + 3 : Nat) : Int); omega)
      obtain ⟨x, hx, _⟩ := pick_int (xs := zs ++ [r % span, 0, 1000000000]) hm.1 hm.2
      rw [eL] at hp9
      refine ⟨_, rfl, _, rfl, _, rfl, p', _, rfl, .inl (SqL.of hp9), _, _, rfl, rfl, ?_, p', _, _, _, rfl, rfl, SqL.of hp9, hx, ?_⟩
      · show (0 : Int) < _
        rw [List.length_map, List.length_append]; show (0 : Int) < ((_ + 3 : Nat) : Int); omega
      refine ⟨_, rfl, _, rfl, _, _, rfl, rfl, _, _, rfl, _, rfl, _, _, rfl, rfl, _, _, rfl, _, rfl, _, rfl, p', _, _, .int (r % span), rfl, rfl, SqL.of hp9, ?_, (show 6 ≤ sizeLine by decide), fun e ne => ?_⟩
      · rw [← eL]
        exact atI_m3 _ _ _ _
      have s10 := same_upd (o := .lst (([x, (if x - 1 > 0 then x - 1 else 0), (if x + 1 < 1000000000 then x + 1 else 1000000000), r % span, 0, 1000000000] : List Int).map V.int)) ne
      exact q e [x, (if x - 1 > 0 then x - 1 else 0), (if x + 1 < 1000000000 then x + 1 else 1000000000), r % span, 0, 1000000000] _ ((Kp.of sm5).trans (kp6.trans ((Kp.of s8).trans (kp9.trans (Kp.of s10))))) ((dk9.same s10).mono (by omega)) upd_same rfl
/-! ### what is told, what is due -/
def kindV (z : L5) (t : Int) (k : Nat) : List V := [optV (pick (hit [(0 : Int) + k] t) z.R0), optV (pick (hit [(0 : Int) + k] t) z.R1), optV (pick (hit [(0 : Int) + k] t) z.R4)]
def kindsV (z : L5) (t : Int) : Nat → List V
  | 0 => []
  | k + 1 => kindsV z t k ++ kindV z t k
def takesV (z : L5) (t land : Int) : Nat → List V
  | 0 => []
  | o + 1 => if (!decide (V.int (0 + (o : Int)) = V.int land)) = true then takesV z t land o ++ [optV (pick (hit [(0 : Int) + o] t) z.R3)] else takesV z t land o
def toldV (z : L5) (t land : Int) (many : Nat) : List V := (optV (pick (hit [] t) z.R2) :: kindsV z t 4) ++ takesV z t land many
theorem kindsV_len (z : L5) (t : Int) : ∀ k, (kindsV z t k).length = 3 * k
  | 0 => rfl
  | k + 1 => by
    show (kindsV z t k ++ kindV z t k).length = _
    rw [List.length_append, kindsV_len z t k]
    show _ + 3 = _
    omega
theorem takesV_len (z : L5) (t land : Int) : ∀ k, (takesV z t land k).length ≤ k
  | 0 => Nat.le_refl _
  | k + 1 => by
    have ih := takesV_len z t land k
    unfold takesV
    split
    · rw [List.length_append]; show _ + 1 ≤ _; omega
    · omega
theorem opt_da {K : PySem.W.Frag} {n : Nat} {H : Hp} {r : Addr} {rs : List Row} (h : Gd K n H r rs) (bs : List Int) (t : Int) : Da 4 H (optV (pick (hit bs t) rs)) := by
  cases e : pick (hit bs t) rs with
  | none => exact Da.flat rfl
  | some q => exact h.2.2 q (pick_mem e).1
theorem told_da {K : PySem.W.Frag} {H : Hp} {z : L5} (h : Ln5 K H z) (t land : Int) (many : Nat) : ∀ x ∈ toldV z t land many, Da 4 H x := by
  have hk : ∀ k, ∀ x ∈ kindsV z t k, Da 4 H x := fun k => by
    induction k with
    | zero => intro x hx; cases hx
    | succ k ih =>
      intro x hx
      rcases List.mem_append.mp hx with c | c
      · exact ih x c
      · rcases List.mem_cons.mp c with rfl | c
        · exact opt_da h.g0 _ _
        rcases List.mem_cons.mp c with rfl | c
        · exact opt_da h.g1 _ _
        · rw [List.mem_singleton.mp c]; exact opt_da h.g4 _ _
  have ht : ∀ k, ∀ x ∈ takesV z t land k, Da 4 H x := fun k => by
    induction k with
    | zero => intro x hx; cases hx
    | succ k ih =>
      intro x hx
      unfold takesV at hx
      split at hx
      · rcases List.mem_append.mp hx with c | c
        · exact ih x c
        · rw [List.mem_singleton.mp c]; exact opt_da h.g3 _ _
      · exact ih x hx
  intro x hx
  rcases List.mem_append.mp hx with c | c
  · rcases List.mem_cons.mp c with rfl | c
    · exact opt_da h.g2 _ _
    · exact hk 4 x c
  · exact ht many x c
/-- lands, one of them -/
structure At5 (K : PySem.W.Frag) (H : Hp) (t : Addr) (many i : Nat) (z : L5) : Prop where
  ex : ∃ L : List L5, H t = some (.tup (L.map fun q => V.ref q.l)) ∧ L.length = many ∧ L[i]? = some z
  ln : Ln5 K H z
theorem At5.same {K : PySem.W.Frag} {H H' : Hp} {t : Addr} {many i : Nat} {z : L5} (x : At5 K H t many i z) (s : Same H H') : At5 K H' t many i z :=
  let ⟨L, h1, h2, h3⟩ := x.ex
  ⟨⟨L, s _ _ h1, h2, h3⟩, x.ln.tk (Tk.of s)⟩
theorem At5.part {K : PySem.W.Frag} {H : Hp} {t : Addr} {many i p : Nat} {z : L5} {v : V} (x : At5 K H t many i z) (h : ([.ref z.r0, .ref z.r1, .ref z.r2, .ref z.r3, .ref z.r4] : List V)[p]? = some v) : Part H t i p v :=
  let ⟨L, h1, h2, h3⟩ := x.ex
  ⟨_, _, z.l, h1, by rw [List.getElem?_map, h3]; rfl, x.ln.h, h⟩
def spTold (K : PySem.W.Frag) : Sp := fun vs H Q _ => ∃ (t : Addr) (i many : Nat) (day : Int) (z : L5), vs = [.ref t, .int i, .int day] ∧ At5 K H t many i z ∧ many ≤ 5 ∧ ∀ p H', Same H H' → H' p = some (.lst (toldV z day i many)) → Q (.ref p) H'
theorem ok_told {f f1 f2 f3 f4 f5 : Addr} {fd fd1 fd2 fd3 fd4 fd5 : FuncData} (B : Bt mg) (D : Df K mg "_law_told" st__law_told f fd ["_law_lands", "_law_land", "_law_day"]) (D_heirs_at : Df K mg "heirs_at" st_heirs_at f1 fd1 ["lands", "land", "day"]) (D_rule_at : Df K mg "rule_at" st_rule_at f2 fd2 ["lands", "land", "kind", "day"]) (D_custom_at : Df K mg "custom_at" st_custom_at f3 fd3 ["lands", "land", "kind", "day"]) (D_reach_at : Df K mg "reach_at" st_reach_at f4 fd4 ["lands", "land", "kind", "day"]) (D_take_at : Df K mg "take_at" st_take_at f5 fd5 ["lands", "land", "other", "day"])
    (G_heirs_at : FnOk P w K mg base CX0 2 f1 fd1 ["lands", "land", "day"] (spHeirsAt K)) (G_rule_at : FnOk P w K mg base CX0 2 f2 fd2 ["lands", "land", "kind", "day"] (spAt K 0)) (G_custom_at : FnOk P w K mg base CX0 2 f3 fd3 ["lands", "land", "kind", "day"] (spAt K 1)) (G_reach_at : FnOk P w K mg base CX0 2 f4 fd4 ["lands", "land", "kind", "day"] (spAt K 4)) (G_take_at : FnOk P w K mg base CX0 2 f5 fd5 ["lands", "land", "other", "day"] (spAt K 3)) :
    FnOk P w K mg base CX0 3 f fd ["_law_lands", "_law_land", "_law_day"] (spTold K) := by
  refine D.F.ok sc__law_told (fun vs H Q E h => ?_) (fun cdv A outer s H vs Q E hr h => ?_)
  · obtain ⟨t, i, many, day, z, rfl, _⟩ := h
    rfl
  · obtain ⟨t, i, many, day, z, rfl, hz, m5, q⟩ := h
    refine ⟨_, (pss_cons (ps_set (i := 3) sc__law_told.nd rfl (.inl rfl) (pe_lst (pa_cons (pe_call G_heirs_at (hr.mono (by decide)) (by rfl) D_heirs_at.g D_heirs_at.F.kp D_heirs_at.b .nil pass0 (pa_cons (pv 0) (pa_cons (pv 1) (pa_cons (pv 2) pa_nil)))) pa_nil)))
      (pss_cons (ps_for PassesOwn.never rfl (pi_range1 rfl B.range (pa_cons pe_int pa_nil)) (pg_name (i := 4) sc__law_told.nd rfl (.inl rfl))
      (pss_cons (ps_set (i := 3) sc__law_told.nd rfl (.inl rfl) (pe_op op_cat (pv 3) (pe_lst (pa_cons (pe_call G_rule_at (hr.mono (by decide)) (by rfl) D_rule_at.g D_rule_at.F.kp D_rule_at.b .nil pass0 (pa_cons (pv 0) (pa_cons (pv 1) (pa_cons (pv 4) (pa_cons (pv 2) pa_nil))))) (pa_cons (pe_call G_custom_at (hr.mono (by decide)) (by rfl) D_custom_at.g D_custom_at.F.kp D_custom_at.b .nil pass0 (pa_cons (pv 0) (pa_cons (pv 1) (pa_cons (pv 4) (pa_cons (pv 2) pa_nil))))) pa_nil)))))
      (pss_one (ps_expr (pe_bm PySem.F.plainAttrs_list PySem.F.slot_list_append PySem.F.type_list_append mt_append (pv 3) (pa_cons (pe_call G_reach_at (hr.mono (by decide)) (by rfl) D_reach_at.g D_reach_at.F.kp D_reach_at.b .nil pass0 (pa_cons (pv 0) (pa_cons (pv 1) (pa_cons (pv 4) (pa_cons (pv 2) pa_nil))))) pa_nil))))))
      (pss_one (ps_ret (pe_op op_cat (pv 3) (pe_lc (own := [("_law_other", 5)]) (g := gName 5) rfl sc__law_told.nd (pi_range1 rfl B.range (pa_cons (pe_callB call_len_seq (by rfl) B.len (by decide +kernel) (pa_cons (pv 0) pa_nil)) pa_nil)) (blkOk_by (own := [("_law_other", 5)]) (N := ["_law_lands", "_law_land", "_law_day", "_law_found", "_law_kind", "_law_other"]) (sc := defScope st__law_told) (by decide +kernel)) (fun _ _ _ _ _ => (pg_name (i := 5) sc__law_told.nd rfl (.inl rfl))) (fun _ _ _ _ _ => pts_one (pt_cmpR op_ne (pv 5) (pv 1) (nomark _))) (fun _ _ _ _ _ => (pe_call G_take_at (hr.mono (by decide)) (by rfl) D_take_at.g D_take_at.F.kp D_take_at.b .nil pass0 (pa_cons (pv 0) (pa_cons (pv 1) (pa_cons (pv 5) (pa_cons (pv 2) pa_nil)))))))))))), ?_⟩
    refine ⟨_, rfl, _, rfl, _, rfl, t, i, day, z.r2, z.R2, rfl, hz.part (p := 2) rfl, hz.ln.g2.1, (show 1 ≤ sizeLine by decide), fun g ng => ?_⟩
    have s1 := same_upd (o := .lst [optV (pick (hit [] day) z.R2)]) ng
    refine ⟨4, rfl, by decide, by decide, for_range (lo := 0) (n := 4) (fun k σ H' => ∃ (p : Addr) (y4 y5 : Option V), σ = [some (.ref t), some (.int i), some (.int day), some (.ref p), y4, y5] ∧ Same H H' ∧ H' p = some (.lst (optV (pick (hit [] day) z.R2) :: kindsV z day k)))
      ⟨g, none, none, rfl, s1, upd_same⟩ (fun k σ H1 hk hP => ?_) (fun σ H1 hP => ?_)⟩
    · obtain ⟨p, y4, y5, rfl, sm, hp⟩ := hP
      have hz1 := hz.same sm
      refine ⟨_, rfl, _, rfl, _, rfl, _, rfl, _, rfl, t, i, _, day, z.r0, z.R0, rfl, hz1.part (p := 0) rfl, hz1.ln.g0.1, _, rfl, _, rfl, _, rfl, _, rfl, t, i, _, day, z.r1, z.R1, rfl, hz1.part (p := 1) rfl, hz1.ln.g1.1, (show 2 ≤ sizeLine by decide), fun e ne => ?_⟩
      have s2 := same_upd (o := .lst [optV (pick (hit [(0 : Int) + k] day) z.R0), optV (pick (hit [(0 : Int) + k] day) z.R1)]) ne
      have lk := kindsV_len z day k
      refine ⟨p, e, _, _, rfl, rfl, s2 _ _ hp, upd_same, size_le (by rw [List.length_cons]; show _ + 2 ≤ _; omega), fun p' np' => ?_⟩
      have s3 := s2.trans (same_upd (o := .lst (optV (pick (hit [] day) z.R2) :: kindsV z day k ++ [optV (pick (hit [(0 : Int) + k] day) z.R0), optV (pick (hit [(0 : Int) + k] day) z.R1)])) np')
      have hz3 := hz1.same s3
      have n0 : H p' = none := (sm.trans s2).free np'
      refine ⟨.ref p', rfl, .inl ⟨rfl, _, SqL.of upd_same⟩, _, rfl, _, rfl, _, rfl, _, rfl, t, i, _, day, z.r4, z.R4, rfl, hz3.part (p := 4) rfl, hz3.ln.g4.1, p', _, _, rfl, rfl, upd_same, size_lt (by rw [List.length_append, List.length_cons]; show _ + 2 ≤ _; omega), ?_⟩
      refine ⟨p', _, _, rfl, fun b o hb => ?_, ?_⟩
      · rw [upd_ne (ne_of_none hb n0)]
        exact s3 _ _ (sm _ _ hb)
      · rw [upd_same, List.append_assoc]
        rfl
    · obtain ⟨p, y4, y5, rfl, sm, hp⟩ := hP
      have hz1 := hz.same sm
      obtain ⟨L, h1, h2, h3⟩ := hz1.ex
      refine ⟨_, rfl, _, rfl, t, _, rfl, .inr (SqT.of h1), _, rfl, by omega, by rw [List.length_map]; omega, fun o no => ?_⟩
      refine lc_range (lo := 0) (n := (L.map fun q => V.ref q.l).length) (fun k H3 => H3 o = some (.lst (takesV z day i k)) ∧ Same H1 H3) ⟨upd_same, same_upd no⟩ (fun k H3 hk hP => ?_) (fun H3 hP => ?_)
      · rw [List.length_map, h2] at hk
        obtain ⟨ho, sm3⟩ := hP
        have hz3 := hz1.same sm3
        have lk := takesV_len z day i k
        refine ⟨rfl, _, rfl, _, rfl, rfl, _, rfl, ?_⟩
        show if (!decide (V.int (0 + (k : Int)) = V.int (i : Int))) = true then _ else _
        have et : takesV z day i (k + 1) = if (!decide (V.int (0 + (k : Int)) = V.int (i : Int))) = true then takesV z day i k ++ [optV (pick (hit [(0 : Int) + k] day) z.R3)] else takesV z day i k := rfl
        refine ite2 (fun e => ?_) (fun e => ?_)
        · refine ⟨_, rfl, _, rfl, _, rfl, _, rfl, t, i, _, day, z.r3, z.R3, rfl, hz3.part (p := 3) rfl, hz3.ln.g3.1, _, ho, size_lt (by omega), ?_, fun b u hb => ?_⟩
          · rw [upd_same, et, if_pos e]
          · rw [upd_ne (ne_of_none hb no)]
            exact sm3 _ _ hb
        · rw [et, if_neg e]
          exact ⟨ho, sm3⟩
      · rw [List.length_map, h2] at hP
        obtain ⟨ho, sm3⟩ := hP
        have lk := kindsV_len z day 4
        have lt := takesV_len z day i many
        exact ⟨p, o, _, _, rfl, rfl, sm3 _ _ hp, ho, size_le (by rw [List.length_cons]; omega), fun p' np' => q p' _ ((sm.trans sm3).trans (same_upd np')) upd_same⟩
end
end WL

set_option Elab.async false
set_option linter.all false
set_option maxRecDepth 100000
namespace WL
open PySem PySem.Spec PyProof.Rows L2
theorem cut_mem {xs : List V} {lo hi : Option Int} {x : V} (h : x ∈ cutV xs lo hi) : x ∈ xs := by
  unfold cutV at h
  exact List.mem_of_mem_drop (List.mem_of_mem_take h)
theorem cut_len (xs : List V) (lo hi : Option Int) : (cutV xs lo hi).length ≤ xs.length := by
  unfold cutV
  rw [List.length_take, List.length_drop]
  omega
section
variable {P : Program} {w : World} {K : PySem.W.Frag} {mg : Str → Option Value} {base : Heap}
theorem ok_due {f f1 : Addr} {fd fd1 : FuncData} (B : Bt mg) (D : Df K mg "_law_due" st__law_due f fd ["_law_lands", "_law_land", "_law_day"]) (D__law_in_force : Df K mg "_law_in_force" st__law_in_force f1 fd1 ["_law_rows", "_law_begin", "_law_day"])
    (G__law_in_force : FnOk P w K mg base CX0 1 f1 fd1 ["_law_rows", "_law_begin", "_law_day"] (spForce K)) : FnOk P w K mg base CX0 2 f fd ["_law_lands", "_law_land", "_law_day"] (spTold K) := by
  refine D.F.ok sc__law_due (fun vs H Q E h => ?_) (fun cdv A outer s H vs Q E hr h => ?_)
  · obtain ⟨t, i, many, day, z, rfl, _⟩ := h
    rfl
  · obtain ⟨t, i, many, day, z, rfl, hz, m5, q⟩ := h
    refine ⟨_, (pss_cons (ps_asg (pe_ix ix_tup (pv 0) (pv 1) (fun _ _ => rfl)) (pg_tup rfl (pgs_cons (pg_name (i := 3) sc__law_due.nd rfl (.inl rfl)) (pgs_cons (pg_name (i := 4) sc__law_due.nd rfl (.inl rfl)) (pgs_cons (pg_name (i := 5) sc__law_due.nd rfl (.inl rfl)) (pgs_cons (pg_name (i := 6) sc__law_due.nd rfl (.inr rfl)) (pgs_cons (pg_name (i := 7) sc__law_due.nd rfl (.inl rfl)) pgs_nil)))))))
      (pss_cons (ps_set (i := 8) sc__law_due.nd rfl (.inl rfl) (pe_lst (pa_cons (pe_call G__law_in_force (hr.mono (by decide)) (by rfl) D__law_in_force.g D__law_in_force.F.kp D__law_in_force.b .nil pass0 (pa_cons (pv 5) (pa_cons (pe_tup pa_nil) (pa_cons (pv 2) pa_nil)))) pa_nil)))
      (pss_cons (ps_for PassesOwn.never rfl (pi_range1 rfl B.range (pa_cons pe_int pa_nil)) (pg_name (i := 9) sc__law_due.nd rfl (.inl rfl))
      (pss_cons (ps_set (i := 8) sc__law_due.nd rfl (.inl rfl) (pe_op op_cat (pv 8) (pe_lst (pa_cons (pe_call G__law_in_force (hr.mono (by decide)) (by rfl) D__law_in_force.g D__law_in_force.F.kp D__law_in_force.b .nil pass0 (pa_cons (pv 3) (pa_cons (pe_tup (pa_cons (pv 9) pa_nil)) (pa_cons (pv 2) pa_nil)))) (pa_cons (pe_call G__law_in_force (hr.mono (by decide)) (by rfl) D__law_in_force.g D__law_in_force.F.kp D__law_in_force.b .nil pass0 (pa_cons (pv 4) (pa_cons (pe_tup (pa_cons (pv 9) pa_nil)) (pa_cons (pv 2) pa_nil)))) pa_nil)))))
      (pss_one (ps_expr (pe_bm PySem.F.plainAttrs_list PySem.F.slot_list_append PySem.F.type_list_append mt_append (pv 8) (pa_cons (pe_call G__law_in_force (hr.mono (by decide)) (by rfl) D__law_in_force.g D__law_in_force.F.kp D__law_in_force.b .nil pass0 (pa_cons (pv 7) (pa_cons (pe_tup (pa_cons (pv 9) pa_nil)) (pa_cons (pv 2) pa_nil)))) pa_nil))))))
      (pss_one (ps_ret (pe_op op_cat (pv 8) (pe_lc (own := [("_law_other", 10)]) (g := gName 10) rfl sc__law_due.nd (pi_range1 rfl B.range (pa_cons (pe_callB call_len_seq (by rfl) B.len (by decide +kernel) (pa_cons (pv 0) pa_nil)) pa_nil)) (blkOk_by (own := [("_law_other", 10)]) (N := ["_law_lands", "_law_land", "_law_day", "_law_rules_here", "_law_laws_here", "_law_heirs_here", "_law_takes_here", "_law_reaches_here", "_law_found", "_law_kind", "_law_other"]) (sc := defScope st__law_due) (by decide +kernel)) (fun _ _ _ _ _ => (pg_name (i := 10) sc__law_due.nd rfl (.inl rfl))) (fun _ _ _ _ _ => pts_one (pt_cmpR op_ne (pv 10) (pv 1) (nomark _))) (fun _ _ _ _ _ => (pe_call G__law_in_force (hr.mono (by decide)) (by rfl) D__law_in_force.g D__law_in_force.F.kp D__law_in_force.b .nil pass0 (pa_cons (pv 6) (pa_cons (pe_tup (pa_cons (pv 10) pa_nil)) (pa_cons (pv 2) pa_nil)))))))))))), ?_⟩
    obtain ⟨L, h1, h2, h3⟩ := hz.ex
    refine ⟨_, rfl, _, rfl, t, _, _, .ref z.l, rfl, rfl, SqT.of h1, atI_nat (j := i) (by rw [List.getElem?_map, h3]; rfl), z.l, _, rfl, SqT.of hz.ln.h, rfl, _, _, rfl, _, _, rfl, _, _, rfl, _, _, rfl, _, _, rfl, rfl, ?_⟩
    refine ⟨_, rfl, Nat.zero_le _, fun e ne => ⟨_, rfl, z.r2, e, day, [], z.R2, rfl, hz.ln.g2.1.same (same_upd ne), SqT.of upd_same, fun H1 sm1 => ⟨(show 1 ≤ sizeLine by decide), fun g ng => ?_⟩⟩⟩
    have s1 := ((same_upd (o := .tup []) ne).trans sm1).trans (same_upd (o := .lst [optV (pick (hit [] day) z.R2)]) ng)
    refine ⟨4, rfl, by decide, by decide, for_range (lo := 0) (n := 4) (fun k σ H' => ∃ (p : Addr) (y4 y5 : Option V), σ = [some (.ref t), some (.int i), some (.int day), some (.ref z.r0), some (.ref z.r1), some (.ref z.r2), some (.ref z.r3), some (.ref z.r4), some (.ref p), y4, y5] ∧ Same H H' ∧ H' p = some (.lst (optV (pick (hit [] day) z.R2) :: kindsV z day k)))
      ⟨g, none, none, rfl, s1, upd_same⟩ (fun k σ H1 hk hP => ?_) (fun σ H1 hP => ?_)⟩
    · obtain ⟨p, y4, y5, rfl, sm, hp⟩ := hP
      have hz1 := hz.same sm
      refine ⟨_, rfl, _, rfl, _, rfl, (show 1 ≤ sizeLine by decide), fun e1 ne1 => ⟨_, rfl, z.r0, e1, day, [(0 : Int) + k], z.R0, rfl, hz1.ln.g0.1.same (same_upd ne1), SqT.of upd_same, fun H2 sm2 => ?_⟩⟩
      have s2 := (same_upd (o := .tup [.int ((0 : Int) + k)]) ne1).trans sm2
      refine ⟨_, rfl, _, rfl, (show 1 ≤ sizeLine by decide), fun e2 ne2 => ⟨_, rfl, z.r1, e2, day, [(0 : Int) + k], z.R1, rfl, hz1.ln.g1.1.same (s2.trans (same_upd ne2)), SqT.of upd_same, fun H3 sm3 => ?_⟩⟩
      have s3 := (s2.trans (same_upd (o := .tup [.int ((0 : Int) + k)]) ne2)).trans sm3
      refine ⟨(show 2 ≤ sizeLine by decide), fun e ne => ?_⟩
      have s4 := s3.trans (same_upd (o := .lst [optV (pick (hit [(0 : Int) + k] day) z.R0), optV (pick (hit [(0 : Int) + k] day) z.R1)]) ne)
      have lk := kindsV_len z day k
      refine ⟨p, e, _, _, rfl, rfl, s4 _ _ hp, upd_same, size_le (by rw [List.length_cons]; show _ + 2 ≤ _; omega), fun p' np' => ?_⟩
      have s5 := s4.trans (same_upd (o := .lst (optV (pick (hit [] day) z.R2) :: kindsV z day k ++ [optV (pick (hit [(0 : Int) + k] day) z.R0), optV (pick (hit [(0 : Int) + k] day) z.R1)])) np')
      have hz5 := hz1.same s5
      have n0 : H p' = none := (sm.trans s4).free np'
      refine ⟨.ref p', rfl, .inl ⟨rfl, _, SqL.of upd_same⟩, _, rfl, _, rfl, (show 1 ≤ sizeLine by decide), fun e3 ne3 => ⟨_, rfl, z.r4, e3, day, [(0 : Int) + k], z.R4, rfl, hz5.ln.g4.1.same (same_upd ne3), SqT.of upd_same, fun H6 sm6 => ?_⟩⟩
      have s6 := (same_upd (o := .tup [.int ((0 : Int) + k)]) ne3).trans sm6
      refine ⟨p', _, _, rfl, rfl, s6 _ _ upd_same, size_lt (by rw [List.length_append, List.length_cons]; show _ + 2 ≤ _; omega), ?_⟩
      refine ⟨p', _, _, rfl, fun b o hb => ?_, ?_⟩
      · rw [upd_ne (ne_of_none hb n0)]
        exact s6 _ _ (s5 _ _ (sm _ _ hb))
      · rw [upd_same, List.append_assoc]
        rfl
    · obtain ⟨p, y4, y5, rfl, sm, hp⟩ := hP
      have hz1 := hz.same sm
      have h1' := sm _ _ h1
      refine ⟨_, rfl, _, rfl, t, _, rfl, .inr (SqT.of h1'), _, rfl, by omega, by rw [List.length_map]; omega, fun o no => ?_⟩
      refine lc_range (lo := 0) (n := (L.map fun q => V.ref q.l).length) (fun k H3 => H3 o = some (.lst (takesV z day i k)) ∧ Same H1 H3) ⟨upd_same, same_upd no⟩ (fun k H3 hk hP => ?_) (fun H3 hP => ?_)
      · rw [List.length_map, h2] at hk
        obtain ⟨ho, sm3⟩ := hP
        have hz3 := hz1.same sm3
        have lk := takesV_len z day i k
        refine ⟨rfl, _, rfl, _, rfl, rfl, _, rfl, ?_⟩
        show if (!decide (V.int (0 + (k : Int)) = V.int (i : Int))) = true then _ else _
        have et : takesV z day i (k + 1) = if (!decide (V.int (0 + (k : Int)) = V.int (i : Int))) = true then takesV z day i k ++ [optV (pick (hit [(0 : Int) + k] day) z.R3)] else takesV z day i k := rfl
        refine ite2 (fun e => ?_) (fun e => ?_)
        · refine ⟨_, rfl, _, rfl, (show 1 ≤ sizeLine by decide), fun e3 ne3 => ⟨_, rfl, z.r3, e3, day, [(0 : Int) + k], z.R3, rfl, hz3.ln.g3.1.same (same_upd ne3), SqT.of upd_same, fun H6 sm6 => ?_⟩⟩
          have s6 := (same_upd (o := .tup [.int ((0 : Int) + k)]) ne3).trans sm6
          refine ⟨_, s6 _ _ ho, size_lt (by omega), ?_, fun b u hb => ?_⟩
          · rw [upd_same, et, if_pos e]
          · rw [upd_ne (ne_of_none hb no)]
            exact s6 _ _ (sm3 _ _ hb)
        · rw [et, if_neg e]
          exact ⟨ho, sm3⟩
      · rw [List.length_map, h2] at hP
        obtain ⟨ho, sm3⟩ := hP
        have lk := kindsV_len z day 4
        have lt := takesV_len z day i many
        exact ⟨p, o, _, _, rfl, rfl, sm3 _ _ hp, ho, size_le (by rw [List.length_cons]; omega), fun p' np' => q p' _ ((sm.trans sm3).trans (same_upd np')) upd_same⟩
def spLaw (K : PySem.W.Frag) : Sp := fun vs H Q _ => ∃ (s : Addr) (ns : List Int), vs = [.ref s] ∧ SqL K H s (ns.map V.int) ∧ ns.length ≤ 63 ∧ ∀ H', Q (.bl true) H'
/-- a pair of a land and a day that is asked -/
def Askd (H : Hp) (many : Nat) (x : V) : Prop := ∃ (e : Addr) (i : Nat) (t : Int), x = .ref e ∧ H e = some (.tup [.int i, .int t]) ∧ i < many
theorem Askd.tk {H H' : Hp} {many : Nat} {x : V} (t : Tk H H') (h : Askd H many x) : Askd H' many x := let ⟨e, i, d, h1, h2, h3⟩ := h; ⟨e, i, d, h1, t _ _ h2, h3⟩
theorem ok_law {f f1 f2 f3 f4 f5 f6 f7 f8 : Addr} {fd fd1 fd2 fd3 fd4 fd5 fd6 fd7 fd8 : FuncData} (B : Bt mg) (D : Df K mg "law" st_law f fd ["_law_script"]) (D__law_deck : Df K mg "_law_deck" st__law_deck f1 fd1 ["_law_script"]) (D__law_next : Df K mg "_law_next" st__law_next f2 fd2 ["_law_deck_here"]) (D__law_span : Df K mg "_law_span" st__law_span f3 fd3 ["_law_deck_here"])
    (D__law_whole_lands : Df K mg "_law_whole_lands" st__law_whole_lands f4 fd4 ["_law_deck_here", "_law_many", "_law_span_here", "_law_asks"]) (D__law_days : Df K mg "_law_days" st__law_days f5 fd5 ["_law_deck_here", "_law_land", "_law_span_here"]) (D__law_same : Df K mg "_law_same" st__law_same f6 fd6 ["_law_found", "_law_due_here"]) (D__law_told : Df K mg "_law_told" st__law_told f7 fd7 ["_law_lands", "_law_land", "_law_day"]) (D__law_due : Df K mg "_law_due" st__law_due f8 fd8 ["_law_lands", "_law_land", "_law_day"])
    (G__law_deck : FnOk P w K mg base CX0 1 f1 fd1 ["_law_script"] (spDeck K)) (G__law_next : FnOk P w K mg base CX0 1 f2 fd2 ["_law_deck_here"] spNext) (G__law_span : FnOk P w K mg base CX0 2 f3 fd3 ["_law_deck_here"] spSpan) (G__law_whole_lands : FnOk P w K mg base CX0 5 f4 fd4 ["_law_deck_here", "_law_many", "_law_span_here", "_law_asks"] (spWhole K))
    (G__law_days : FnOk P w K mg base CX0 2 f5 fd5 ["_law_deck_here", "_law_land", "_law_span_here"] (spDays K)) (G__law_same : FnOk P w K mg base CX0 7 f6 fd6 ["_law_found", "_law_due_here"] (spSame 6)) (G__law_told : FnOk P w K mg base CX0 3 f7 fd7 ["_law_lands", "_law_land", "_law_day"] (spTold K)) (G__law_due : FnOk P w K mg base CX0 2 f8 fd8 ["_law_lands", "_law_land", "_law_day"] (spTold K)) :
    FnOk P w K mg base CX0 8 f fd ["_law_script"] (spLaw K) := by
  refine D.F.ok sc_law (fun vs H Q E h => ?_) (fun cdv A outer s H vs Q E hr h => ?_)
  · obtain ⟨s, ns, rfl, _⟩ := h
    rfl
  · obtain ⟨sc, ns, rfl, hS, hn, q⟩ := h
    refine ⟨_, (pss_cons (ps_set (i := 1) sc_law.nd rfl (.inl rfl) (pe_call G__law_deck (hr.mono (by decide)) (by rfl) D__law_deck.g D__law_deck.F.kp D__law_deck.b .nil pass0 (pa_cons (pv 0) pa_nil)))
      (pss_cons (ps_set (i := 2) sc_law.nd rfl (.inl rfl) (pe_op op_add pe_int (pe_op op_mod (pe_call G__law_next (hr.mono (by decide)) (by rfl) D__law_next.g D__law_next.F.kp D__law_next.b .nil pass0 (pa_cons (pv 1) pa_nil)) pe_int)))
      (pss_cons (ps_set (i := 3) sc_law.nd rfl (.inl rfl) (pe_call G__law_span (hr.mono (by decide)) (by rfl) D__law_span.g D__law_span.F.kp D__law_span.b .nil pass0 (pa_cons (pv 1) pa_nil)))
      (pss_cons (ps_set (i := 4) sc_law.nd rfl (.inl rfl) (pe_call G__law_whole_lands (hr.mono (by decide)) (by rfl) D__law_whole_lands.g D__law_whole_lands.F.kp D__law_whole_lands.b .nil pass0 (pa_cons (pv 1) (pa_cons (pv 2) (pa_cons (pv 3) (pa_cons pe_int pa_nil))))))
      (pss_cons (ps_set (i := 5) sc_law.nd rfl (.inl rfl) (pe_lst pa_nil))
      (pss_cons (ps_for PassesOwn.never rfl (pi_range1 rfl B.range (pa_cons (pv 2) pa_nil)) (pg_name (i := 6) sc_law.nd rfl (.inr rfl))
      (pss_one (ps_set (i := 5) sc_law.nd rfl (.inl rfl) (pe_op op_cat (pv 5) (pe_lc (own := [("_law_day", 7)]) (g := gName 7) (tt := tYes) rfl sc_law.nd (pi_list (pe_call G__law_days (hr.mono (by decide)) (by rfl) D__law_days.g D__law_days.F.kp D__law_days.b .nil pass0 (pa_cons (pv 1) (pa_cons (pe_ix ix_tup (pv 4) (pv 6) (fun _ _ => rfl)) (pa_cons (pv 3) pa_nil))))) (blkOk_by (own := [("_law_day", 7)]) (N := ["_law_script", "_law_deck_here", "_law_many", "_law_span_here", "_law_lands", "_law_asked", "_law_land", "_law_day"]) (sc := defScope st_law) (by decide +kernel)) (fun _ _ _ _ _ => (pg_name (i := 7) sc_law.nd rfl (.inl rfl))) (fun _ _ _ _ _ => pts_nil) (fun _ _ _ _ _ => (pe_tup (pa_cons (pv 6) (pa_cons (pv 7) pa_nil)))))))))
      (pss_cons (ps_for PassesOwn.never rfl (pi_list (pe_op op_cat (pv 5) (pe_slice sl_list (pv 5) po_none (po_some pe_int)))) (pg_tup rfl (pgs_cons (pg_name (i := 6) sc_law.nd rfl (.inr rfl)) (pgs_cons (pg_name (i := 7) sc_law.nd rfl (.inl rfl)) pgs_nil)))
      (pss_one (ps_if (pt_not (pt_val (pe_call G__law_same (hr.mono (by decide)) (by rfl) D__law_same.g D__law_same.F.kp D__law_same.b .nil pass0 (pa_cons (pe_callTy call_tuple_of (by rfl) B.tuple (by decide +kernel) (pa_cons (pe_call G__law_told (hr.mono (by decide)) (by rfl) D__law_told.g D__law_told.F.kp D__law_told.b .nil pass0 (pa_cons (pv 4) (pa_cons (pv 6) (pa_cons (pv 7) pa_nil)))) pa_nil)) (pa_cons (pe_callTy call_tuple_of (by rfl) B.tuple (by decide +kernel) (pa_cons (pe_call G__law_due (hr.mono (by decide)) (by rfl) D__law_due.g D__law_due.F.kp D__law_due.b .nil pass0 (pa_cons (pv 4) (pa_cons (pv 6) (pa_cons (pv 7) pa_nil)))) pa_nil)) pa_nil))))) (pss_one (ps_ret pe_bl)) pss_nil)))
      (pss_one (ps_ret pe_bl))))))))), ?_⟩
    refine ⟨_, rfl, sc, ns, rfl, hS, hn, fun a d H1 sm1 dk1 => ?_⟩
    refine ⟨_, rfl, a, d, _, rfl, dk1, by omega, fun r H2 kp2 dk2 r0 r1 => ⟨_, _, rfl, rfl, (show (0 : Int) < 5 by decide), _, _, rfl, rfl, ?_⟩⟩
    obtain ⟨m, em⟩ := Int.eq_ofNat_of_zero_le (show 0 ≤ 1 + r % 5 from by have := emod_lt (r := r) (m := 5) (by decide); omega)
    have m5 : m ≤ 5 := by have := emod_lt (r := r) (m := 5) (by decide); omega
    show gName 2 (.int (1 + r % 5)) _ _ _
    rw [em]
    refine ⟨_, rfl, a, d, _, rfl, dk2, by omega, fun sp H3 kp3 dk3 sp0 sp1 => ?_⟩
    refine ⟨_, rfl, _, rfl, _, rfl, a, d, _, sp, m, rfl, m5, dk3, by omega, sp0, sp1, fun t L H4 kp4 dk4 ht lL hL => ?_⟩
    refine ⟨Nat.zero_le _, fun g ng => ?_⟩
    have s5 := same_upd (o := .lst []) ng
    refine ⟨_, rfl, m, rfl, by omega, by omega, for_range (lo := 0) (n := m) (fun i σ H' => ∃ (p : Addr) (xs : List V) (y6 y7 : Option V), σ = [some (.ref sc), some (.ref a), some (.int m), some (.int sp), some (.ref t), some (.ref p), y6, y7] ∧ Dk H' a d (10000 + 2 * i) ∧ Tk H4 H' ∧ H' p = some (.lst xs) ∧ xs.length = 6 * i ∧ (∀ x ∈ xs, Askd H' m x) ∧ (p ≠ a ∧ p ≠ d.1 ∧ p ≠ d.2))
      ⟨g, [], none, none, rfl, (dk4.same s5).mono (by omega), Tk.of s5, upd_same, rfl, (fun x hx => absurd hx List.not_mem_nil), dk4.nn ng⟩ (fun i σ H5 hi hP => ?_) (fun σ H5 hP => ?_)⟩
    · obtain ⟨p, xs, y6, y7, rfl, dk5, tk5, hp, lx, hx, np⟩ := hP
      obtain ⟨z, hz⟩ : ∃ z, L[i]? = some z := ⟨L[i], List.getElem?_eq_getElem (by omega)⟩
      have ln := (hL z (List.mem_of_getElem? hz)).tk tk5
      have hzt : (L.map fun q => V.ref q.l)[i]? = some (.ref z.l) := by rw [List.getElem?_map, hz]; rfl
      refine ⟨_, rfl, _, rfl, _, rfl, _, rfl, t, _, _, .ref z.l, rfl, rfl, SqT.of (tk5 _ _ ht), at_of (j := i) (by omega) hzt, _, rfl, a, d, _, sp, z, rfl, ln, dk5, by omega, sp0, sp1, fun p2 zs H6 kp6 dk6 hp2 lz => ?_⟩
      refine ⟨p2, rfl, ⟨_, SqL.of hp2⟩, fun o no => lc_list (K := K) (xs := zs.map V.int) (fun j H7 => ∃ ys : List V, H7 o = some (.lst ys) ∧ ys.length = j ∧ (∀ y ∈ ys, Askd H7 m y) ∧ Same H6 H7)
        ⟨[], upd_same, rfl, (fun x hx => absurd hx List.not_mem_nil), same_upd no⟩ (fun j H7 _ ⟨_, _, _, _, sm⟩ => SqL.of (sm _ _ hp2)) (fun j v H7 hv hP => ?_) (fun H7 hP => ?_)⟩
      · obtain ⟨ys, ho, ly, hy, sm7⟩ := hP
        rw [List.getElem?_map] at hv
        obtain ⟨day, hday, rfl⟩ := Option.map_eq_some_iff.mp hv
        have j6 : j < 6 := by have := (List.getElem?_eq_some_iff.mp hday).1; omega
        refine ⟨rfl, ?_⟩
        simp only [tYes, if_true]
        refine ⟨_, rfl, _, rfl, (show 2 ≤ sizeLine by decide), fun e ne => ?_⟩
        have s8 := same_upd (o := .tup [.int ((0 : Int) + i), .int day]) ne
        have tko : Tk _ (upd _ o (.lst (ys ++ [V.ref e]))) := Tk.upd (s8 _ _ ho) (fun xs z => nomatch z)
        refine ⟨ys, s8 _ _ ho, size_lt (by omega), ys ++ [.ref e], upd_same, by rw [List.length_append, ly]; rfl, fun y hyy => ?_, fun b u hb => ?_⟩
        · rcases List.mem_append.mp hyy with h | h
          · exact ((hy y h).tk (Tk.of s8)).tk tko
          · rw [List.mem_singleton.mp h]
            refine Askd.tk tko ⟨e, i, day, rfl, ?_, hi⟩
            have ei : (0 : Int) + (i : Int) = (i : Nat) := by omega
            have he : upd H7 e (.tup [.int ((0 : Int) + i), .int day]) e = some (.tup [.int ((0 : Int) + i), .int day]) := upd_same
            rw [ei] at he ⊢
            exact he
        · rw [upd_ne (ne_of_none hb no)]
          exact s8 _ _ (sm7 _ _ hb)
      · obtain ⟨ys, ho, ly, hy, sm7⟩ := hP
        rw [List.length_map, lz] at ly
        have hp7 := sm7 _ _ (kp6 _ _ np.1 np.2.1 hp)
        refine ⟨p, o, xs, ys, rfl, rfl, hp7, ho, size_le (by omega), fun p' np' => ?_⟩
        have s8 := same_upd (o := .lst (xs ++ ys)) np'
        have tk6 := dk5.tk kp6
        refine ⟨p', xs ++ ys, _, _, rfl, ((dk6.same sm7).same s8).mono (by omega), (tk5.trans tk6).trans ((Tk.of sm7).trans (Tk.of s8)), upd_same, by rw [List.length_append, lx, ly]; omega, fun x hxx => ?_, (dk6.same sm7).nn np'⟩
        rcases List.mem_append.mp hxx with h | h
        · exact ((hx x h).tk tk6).tk ((Tk.of sm7).trans (Tk.of s8))
        · exact (hy x h).tk (Tk.of s8)
    · obtain ⟨p, xs, y6, y7, rfl, dk5, tk5, hp, lx, hx, np⟩ := hP
      refine ⟨_, rfl, _, rfl, 6, rfl, p, _, rfl, SqL.of hp, fun e ne => ?_⟩
      have s6 := same_upd (o := .lst (cutV xs none (some 6))) ne
      have lc := cut_len xs none (some 6)
      refine ⟨p, e, _, _, rfl, rfl, s6 _ _ hp, upd_same, size_le (by omega), fun p' np' => ?_⟩
      have s7 := s6.trans (same_upd (o := .lst (xs ++ cutV xs none (some 6))) np')
      have hall : ∀ x ∈ xs ++ cutV xs none (some 6), Askd H5 m x := fun x hxx => by
        rcases List.mem_append.mp hxx with h | h
        · exact hx x h
        · exact hx x (cut_mem h)
      refine ⟨p', rfl, ⟨_, SqL.of upd_same⟩, for_list (K := K) (xs := xs ++ cutV xs none (some 6)) (fun j σ H' => ∃ y6 y7, σ = [some (.ref sc), some (.ref a), some (.int m), some (.int sp), some (.ref t), some (.ref p), y6, y7] ∧ Same (upd (upd H5 e (.lst (cutV xs none (some 6)))) p' (.lst (xs ++ cutV xs none (some 6)))) H')
        ⟨_, _, rfl, Same.refl _⟩ (fun j σ H' _ ⟨_, _, _, sm⟩ => SqL.of (sm _ _ upd_same)) (fun j x σ H8 hxj hP => ?_) (fun σ H8 hP => q _)⟩
      obtain ⟨y6, y7, rfl, sm8⟩ := hP
      have sm8' := s7.trans sm8
      obtain ⟨c, i, day, rfl, hc, im⟩ := (hall x (List.mem_of_getElem? hxj)).tk (Tk.of sm8')
      obtain ⟨z, hz⟩ : ∃ z, L[i]? = some z := ⟨L[i], List.getElem?_eq_getElem (by omega)⟩
      have at5 : At5 K H8 t m i z := ⟨⟨L, sm8' _ _ (tk5 _ _ ht), lL, hz⟩, (hL z (List.mem_of_getElem? hz)).tk (tk5.trans (Tk.of sm8'))⟩
      refine ⟨c, _, rfl, SqT.of hc, rfl, _, _, rfl, _, _, rfl, rfl, ?_⟩
      refine ⟨_, rfl, _, rfl, _, rfl, t, i, m, day, z, rfl, at5, m5, fun p1 H9 sm9 hp1 => ⟨p1, _, rfl, .inl ⟨SqL.of hp1, fun q1 nq1 => ?_⟩⟩⟩
      have s10 := sm9.trans (same_upd (o := .tup (toldV z day i m)) nq1)
      refine ⟨_, rfl, _, rfl, _, rfl, t, i, m, day, z, rfl, at5.same s10, m5, fun p2 H11 sm11 hp2 => ⟨p2, _, rfl, .inl ⟨SqL.of hp2, fun q2 nq2 => ?_⟩⟩⟩
      have s12 := sm11.trans (same_upd (o := .tup (toldV z day i m)) nq2)
      have da := told_da ((at5.same s10).same s12).ln day i m
      have ll : (toldV z day i m).length ≤ 1000 := by
        unfold toldV
        rw [List.length_append, List.length_cons, kindsV_len]
        have := takesV_len z day i m
        omega
      refine ⟨.ref q1, .ref q2, rfl, .inr ⟨q1, q2, _, _, rfl, rfl, s12 _ _ upd_same, upd_same, rfl, ll, fun n x y e1 e2 => ?_⟩, fun H13 sm13 => ⟨true, rfl, iteF ⟨_, _, rfl, ((sm8.trans s10).trans s12).trans sm13⟩⟩⟩
      rw [e1] at e2
      cases e2
      exact da x (List.mem_of_getElem? e1)
end
end WL

set_option Elab.async false
set_option linter.all false
set_option maxRecDepth 100000
namespace WL
open PySem PySem.Spec PyProof.Rows L2
theorem all_mk {l : PySem.W.OpenLaw} {w : World} {K : PySem.W.Frag} {h : Heap} {mg : Str → Option Value} {fa f_rule_at f_custom_at f_reach_at f_heirs_at f_take_at f_rows_of f_row_at f__law_deck f__law_next f__law_span f__law_rules f__law_saying f__law_laws f__law_in_force f__law_heirs f__law_takes f__law_reaches f__law_whole_lands f__law_same f__law_days f__law_told f__law_due f_law : Addr} (X : K.In h) (G : h.Ns mainGlobals mg) (hfa : mg "law" = some (.ref fa))
    {od_rule_at an_rule_at od_custom_at an_custom_at od_reach_at an_reach_at od_heirs_at an_heirs_at od_take_at an_take_at od_rows_of an_rows_of od_row_at an_row_at od__law_deck an__law_deck od__law_next an__law_next od__law_span an__law_span od__law_rules an__law_rules od__law_saying an__law_saying od__law_laws an__law_laws od__law_in_force an__law_in_force od__law_heirs an__law_heirs od__law_takes an__law_takes od__law_reaches an__law_reaches od__law_whole_lands an__law_whole_lands od__law_same an__law_same od__law_days an__law_days od__law_told an__law_told od__law_due an__law_due od_law an_law : Option Addr} {sl_rule_at sl_custom_at sl_reach_at sl_heirs_at sl_take_at sl_rows_of sl_row_at sl__law_deck sl__law_next sl__law_span sl__law_rules sl__law_saying sl__law_laws sl__law_in_force sl__law_heirs sl__law_takes sl__law_reaches sl__law_whole_lands sl__law_same sl__law_days sl__law_told sl__law_due sl_law : Array (Option Value)} {oc_rule_at kV_rule_at dc_rule_at pm_rule_at cd_rule_at ct_rule_at oc_custom_at kV_custom_at dc_custom_at pm_custom_at cd_custom_at ct_custom_at oc_reach_at kV_reach_at dc_reach_at pm_reach_at cd_reach_at ct_reach_at oc_heirs_at kV_heirs_at dc_heirs_at pm_heirs_at cd_heirs_at ct_heirs_at oc_take_at kV_take_at dc_take_at pm_take_at cd_take_at ct_take_at oc_rows_of kV_rows_of dc_rows_of pm_rows_of cd_rows_of ct_rows_of oc_row_at kV_row_at dc_row_at pm_row_at cd_row_at ct_row_at oc__law_deck kV__law_deck dc__law_deck pm__law_deck cd__law_deck ct__law_deck oc__law_next kV__law_next dc__law_next pm__law_next cd__law_next ct__law_next oc__law_span kV__law_span dc__law_span pm__law_span cd__law_span ct__law_span oc__law_rules kV__law_rules dc__law_rules pm__law_rules cd__law_rules ct__law_rules oc__law_saying kV__law_saying dc__law_saying pm__law_saying cd__law_saying ct__law_saying oc__law_laws kV__law_laws dc__law_laws pm__law_laws cd__law_laws ct__law_laws oc__law_in_force kV__law_in_force dc__law_in_force pm__law_in_force cd__law_in_force ct__law_in_force oc__law_heirs kV__law_heirs dc__law_heirs pm__law_heirs cd__law_heirs ct__law_heirs oc__law_takes kV__law_takes dc__law_takes pm__law_takes cd__law_takes ct__law_takes oc__law_reaches kV__law_reaches dc__law_reaches pm__law_reaches cd__law_reaches ct__law_reaches oc__law_whole_lands kV__law_whole_lands dc__law_whole_lands pm__law_whole_lands cd__law_whole_lands ct__law_whole_lands oc__law_same kV__law_same dc__law_same pm__law_same cd__law_same ct__law_same oc__law_days kV__law_days dc__law_days pm__law_days cd__law_days ct__law_days oc__law_told kV__law_told dc__law_told pm__law_told cd__law_told ct__law_told oc__law_due kV__law_due dc__law_due pm__law_due cd__law_due ct__law_due oc_law kV_law dc_law pm_law cd_law ct_law : Value} {t_RULES t_CUSTOMS t_HEIRS t_TAKES t_REACHES : Tok}
    (a_rule_at : PySem.W.nsIn K mainGlobals "rule_at" = some (some (.ref f_rule_at))) (l_rule_at : K.lookup f_rule_at = some ⟨oc_rule_at, od_rule_at, .func (PySem.W.fnOf "rule_at" "rule_at" (defArgs st_rule_at) (defBody st_rule_at) (defScope st_rule_at) .none kV_rule_at dc_rule_at pm_rule_at an_rule_at cd_rule_at ct_rule_at), sl_rule_at⟩) (c_rule_at : PySem.W.codeIn K cd_rule_at "rule_at" = true) (k_rule_at : PySem.W.keepIn K (.ref f_rule_at) = true)
    (a_custom_at : PySem.W.nsIn K mainGlobals "custom_at" = some (some (.ref f_custom_at))) (l_custom_at : K.lookup f_custom_at = some ⟨oc_custom_at, od_custom_at, .func (PySem.W.fnOf "custom_at" "custom_at" (defArgs st_custom_at) (defBody st_custom_at) (defScope st_custom_at) .none kV_custom_at dc_custom_at pm_custom_at an_custom_at cd_custom_at ct_custom_at), sl_custom_at⟩) (c_custom_at : PySem.W.codeIn K cd_custom_at "custom_at" = true) (k_custom_at : PySem.W.keepIn K (.ref f_custom_at) = true)
    (a_reach_at : PySem.W.nsIn K mainGlobals "reach_at" = some (some (.ref f_reach_at))) (l_reach_at : K.lookup f_reach_at = some ⟨oc_reach_at, od_reach_at, .func (PySem.W.fnOf "reach_at" "reach_at" (defArgs st_reach_at) (defBody st_reach_at) (defScope st_reach_at) .none kV_reach_at dc_reach_at pm_reach_at an_reach_at cd_reach_at ct_reach_at), sl_reach_at⟩) (c_reach_at : PySem.W.codeIn K cd_reach_at "reach_at" = true) (k_reach_at : PySem.W.keepIn K (.ref f_reach_at) = true)
    (a_heirs_at : PySem.W.nsIn K mainGlobals "heirs_at" = some (some (.ref f_heirs_at))) (l_heirs_at : K.lookup f_heirs_at = some ⟨oc_heirs_at, od_heirs_at, .func (PySem.W.fnOf "heirs_at" "heirs_at" (defArgs st_heirs_at) (defBody st_heirs_at) (defScope st_heirs_at) .none kV_heirs_at dc_heirs_at pm_heirs_at an_heirs_at cd_heirs_at ct_heirs_at), sl_heirs_at⟩) (c_heirs_at : PySem.W.codeIn K cd_heirs_at "heirs_at" = true) (k_heirs_at : PySem.W.keepIn K (.ref f_heirs_at) = true)
    (a_take_at : PySem.W.nsIn K mainGlobals "take_at" = some (some (.ref f_take_at))) (l_take_at : K.lookup f_take_at = some ⟨oc_take_at, od_take_at, .func (PySem.W.fnOf "take_at" "take_at" (defArgs st_take_at) (defBody st_take_at) (defScope st_take_at) .none kV_take_at dc_take_at pm_take_at an_take_at cd_take_at ct_take_at), sl_take_at⟩) (c_take_at : PySem.W.codeIn K cd_take_at "take_at" = true) (k_take_at : PySem.W.keepIn K (.ref f_take_at) = true)
    (a_rows_of : PySem.W.nsIn K mainGlobals "rows_of" = some (some (.ref f_rows_of))) (l_rows_of : K.lookup f_rows_of = some ⟨oc_rows_of, od_rows_of, .func (PySem.W.fnOf "rows_of" "rows_of" (defArgs st_rows_of) (defBody st_rows_of) (defScope st_rows_of) .none kV_rows_of dc_rows_of pm_rows_of an_rows_of cd_rows_of ct_rows_of), sl_rows_of⟩) (c_rows_of : PySem.W.codeIn K cd_rows_of "rows_of" = true) (k_rows_of : PySem.W.keepIn K (.ref f_rows_of) = true)
    (a_row_at : PySem.W.nsIn K mainGlobals "row_at" = some (some (.ref f_row_at))) (l_row_at : K.lookup f_row_at = some ⟨oc_row_at, od_row_at, .func (PySem.W.fnOf "row_at" "row_at" (defArgs st_row_at) (defBody st_row_at) (defScope st_row_at) .none kV_row_at dc_row_at pm_row_at an_row_at cd_row_at ct_row_at), sl_row_at⟩) (c_row_at : PySem.W.codeIn K cd_row_at "row_at" = true) (k_row_at : PySem.W.keepIn K (.ref f_row_at) = true)
    (a__law_deck : PySem.W.nsIn K mainGlobals "_law_deck" = some (some (.ref f__law_deck))) (l__law_deck : K.lookup f__law_deck = some ⟨oc__law_deck, od__law_deck, .func (PySem.W.fnOf "_law_deck" "_law_deck" (defArgs st__law_deck) (defBody st__law_deck) (defScope st__law_deck) .none kV__law_deck dc__law_deck pm__law_deck an__law_deck cd__law_deck ct__law_deck), sl__law_deck⟩) (c__law_deck : PySem.W.codeIn K cd__law_deck "_law_deck" = true) (k__law_deck : PySem.W.keepIn K (.ref f__law_deck) = true)
    (a__law_next : PySem.W.nsIn K mainGlobals "_law_next" = some (some (.ref f__law_next))) (l__law_next : K.lookup f__law_next = some ⟨oc__law_next, od__law_next, .func (PySem.W.fnOf "_law_next" "_law_next" (defArgs st__law_next) (defBody st__law_next) (defScope st__law_next) .none kV__law_next dc__law_next pm__law_next an__law_next cd__law_next ct__law_next), sl__law_next⟩) (c__law_next : PySem.W.codeIn K cd__law_next "_law_next" = true) (k__law_next : PySem.W.keepIn K (.ref f__law_next) = true)
    (a__law_span : PySem.W.nsIn K mainGlobals "_law_span" = some (some (.ref f__law_span))) (l__law_span : K.lookup f__law_span = some ⟨oc__law_span, od__law_span, .func (PySem.W.fnOf "_law_span" "_law_span" (defArgs st__law_span) (defBody st__law_span) (defScope st__law_span) .none kV__law_span dc__law_span pm__law_span an__law_span cd__law_span ct__law_span), sl__law_span⟩) (c__law_span : PySem.W.codeIn K cd__law_span "_law_span" = true) (k__law_span : PySem.W.keepIn K (.ref f__law_span) = true)
    (a__law_rules : PySem.W.nsIn K mainGlobals "_law_rules" = some (some (.ref f__law_rules))) (l__law_rules : K.lookup f__law_rules = some ⟨oc__law_rules, od__law_rules, .func (PySem.W.fnOf "_law_rules" "_law_rules" (defArgs st__law_rules) (defBody st__law_rules) (defScope st__law_rules) .none kV__law_rules dc__law_rules pm__law_rules an__law_rules cd__law_rules ct__law_rules), sl__law_rules⟩) (c__law_rules : PySem.W.codeIn K cd__law_rules "_law_rules" = true) (k__law_rules : PySem.W.keepIn K (.ref f__law_rules) = true)
    (a__law_saying : PySem.W.nsIn K mainGlobals "_law_saying" = some (some (.ref f__law_saying))) (l__law_saying : K.lookup f__law_saying = some ⟨oc__law_saying, od__law_saying, .func (PySem.W.fnOf "_law_saying" "_law_saying" (defArgs st__law_saying) (defBody st__law_saying) (defScope st__law_saying) .none kV__law_saying dc__law_saying pm__law_saying an__law_saying cd__law_saying ct__law_saying), sl__law_saying⟩) (c__law_saying : PySem.W.codeIn K cd__law_saying "_law_saying" = true) (k__law_saying : PySem.W.keepIn K (.ref f__law_saying) = true)
    (a__law_laws : PySem.W.nsIn K mainGlobals "_law_laws" = some (some (.ref f__law_laws))) (l__law_laws : K.lookup f__law_laws = some ⟨oc__law_laws, od__law_laws, .func (PySem.W.fnOf "_law_laws" "_law_laws" (defArgs st__law_laws) (defBody st__law_laws) (defScope st__law_laws) .none kV__law_laws dc__law_laws pm__law_laws an__law_laws cd__law_laws ct__law_laws), sl__law_laws⟩) (c__law_laws : PySem.W.codeIn K cd__law_laws "_law_laws" = true) (k__law_laws : PySem.W.keepIn K (.ref f__law_laws) = true)
    (a__law_in_force : PySem.W.nsIn K mainGlobals "_law_in_force" = some (some (.ref f__law_in_force))) (l__law_in_force : K.lookup f__law_in_force = some ⟨oc__law_in_force, od__law_in_force, .func (PySem.W.fnOf "_law_in_force" "_law_in_force" (defArgs st__law_in_force) (defBody st__law_in_force) (defScope st__law_in_force) .none kV__law_in_force dc__law_in_force pm__law_in_force an__law_in_force cd__law_in_force ct__law_in_force), sl__law_in_force⟩) (c__law_in_force : PySem.W.codeIn K cd__law_in_force "_law_in_force" = true) (k__law_in_force : PySem.W.keepIn K (.ref f__law_in_force) = true)
    (a__law_heirs : PySem.W.nsIn K mainGlobals "_law_heirs" = some (some (.ref f__law_heirs))) (l__law_heirs : K.lookup f__law_heirs = some ⟨oc__law_heirs, od__law_heirs, .func (PySem.W.fnOf "_law_heirs" "_law_heirs" (defArgs st__law_heirs) (defBody st__law_heirs) (defScope st__law_heirs) .none kV__law_heirs dc__law_heirs pm__law_heirs an__law_heirs cd__law_heirs ct__law_heirs), sl__law_heirs⟩) (c__law_heirs : PySem.W.codeIn K cd__law_heirs "_law_heirs" = true) (k__law_heirs : PySem.W.keepIn K (.ref f__law_heirs) = true)
    (a__law_takes : PySem.W.nsIn K mainGlobals "_law_takes" = some (some (.ref f__law_takes))) (l__law_takes : K.lookup f__law_takes = some ⟨oc__law_takes, od__law_takes, .func (PySem.W.fnOf "_law_takes" "_law_takes" (defArgs st__law_takes) (defBody st__law_takes) (defScope st__law_takes) .none kV__law_takes dc__law_takes pm__law_takes an__law_takes cd__law_takes ct__law_takes), sl__law_takes⟩) (c__law_takes : PySem.W.codeIn K cd__law_takes "_law_takes" = true) (k__law_takes : PySem.W.keepIn K (.ref f__law_takes) = true)
    (a__law_reaches : PySem.W.nsIn K mainGlobals "_law_reaches" = some (some (.ref f__law_reaches))) (l__law_reaches : K.lookup f__law_reaches = some ⟨oc__law_reaches, od__law_reaches, .func (PySem.W.fnOf "_law_reaches" "_law_reaches" (defArgs st__law_reaches) (defBody st__law_reaches) (defScope st__law_reaches) .none kV__law_reaches dc__law_reaches pm__law_reaches an__law_reaches cd__law_reaches ct__law_reaches), sl__law_reaches⟩) (c__law_reaches : PySem.W.codeIn K cd__law_reaches "_law_reaches" = true) (k__law_reaches : PySem.W.keepIn K (.ref f__law_reaches) = true)
    (a__law_whole_lands : PySem.W.nsIn K mainGlobals "_law_whole_lands" = some (some (.ref f__law_whole_lands))) (l__law_whole_lands : K.lookup f__law_whole_lands = some ⟨oc__law_whole_lands, od__law_whole_lands, .func (PySem.W.fnOf "_law_whole_lands" "_law_whole_lands" (defArgs st__law_whole_lands) (defBody st__law_whole_lands) (defScope st__law_whole_lands) .none kV__law_whole_lands dc__law_whole_lands pm__law_whole_lands an__law_whole_lands cd__law_whole_lands ct__law_whole_lands), sl__law_whole_lands⟩) (c__law_whole_lands : PySem.W.codeIn K cd__law_whole_lands "_law_whole_lands" = true) (k__law_whole_lands : PySem.W.keepIn K (.ref f__law_whole_lands) = true)
    (a__law_same : PySem.W.nsIn K mainGlobals "_law_same" = some (some (.ref f__law_same))) (l__law_same : K.lookup f__law_same = some ⟨oc__law_same, od__law_same, .func (PySem.W.fnOf "_law_same" "_law_same" (defArgs st__law_same) (defBody st__law_same) (defScope st__law_same) .none kV__law_same dc__law_same pm__law_same an__law_same cd__law_same ct__law_same), sl__law_same⟩) (c__law_same : PySem.W.codeIn K cd__law_same "_law_same" = true) (k__law_same : PySem.W.keepIn K (.ref f__law_same) = true)
    (a__law_days : PySem.W.nsIn K mainGlobals "_law_days" = some (some (.ref f__law_days))) (l__law_days : K.lookup f__law_days = some ⟨oc__law_days, od__law_days, .func (PySem.W.fnOf "_law_days" "_law_days" (defArgs st__law_days) (defBody st__law_days) (defScope st__law_days) .none kV__law_days dc__law_days pm__law_days an__law_days cd__law_days ct__law_days), sl__law_days⟩) (c__law_days : PySem.W.codeIn K cd__law_days "_law_days" = true) (k__law_days : PySem.W.keepIn K (.ref f__law_days) = true)
    (a__law_told : PySem.W.nsIn K mainGlobals "_law_told" = some (some (.ref f__law_told))) (l__law_told : K.lookup f__law_told = some ⟨oc__law_told, od__law_told, .func (PySem.W.fnOf "_law_told" "_law_told" (defArgs st__law_told) (defBody st__law_told) (defScope st__law_told) .none kV__law_told dc__law_told pm__law_told an__law_told cd__law_told ct__law_told), sl__law_told⟩) (c__law_told : PySem.W.codeIn K cd__law_told "_law_told" = true) (k__law_told : PySem.W.keepIn K (.ref f__law_told) = true)
    (a__law_due : PySem.W.nsIn K mainGlobals "_law_due" = some (some (.ref f__law_due))) (l__law_due : K.lookup f__law_due = some ⟨oc__law_due, od__law_due, .func (PySem.W.fnOf "_law_due" "_law_due" (defArgs st__law_due) (defBody st__law_due) (defScope st__law_due) .none kV__law_due dc__law_due pm__law_due an__law_due cd__law_due ct__law_due), sl__law_due⟩) (c__law_due : PySem.W.codeIn K cd__law_due "_law_due" = true) (k__law_due : PySem.W.keepIn K (.ref f__law_due) = true)
    (a_law : PySem.W.nsIn K mainGlobals "law" = some (some (.ref f_law))) (l_law : K.lookup f_law = some ⟨oc_law, od_law, .func (PySem.W.fnOf "law" "law" (defArgs st_law) (defBody st_law) (defScope st_law) .none kV_law dc_law pm_law an_law cd_law ct_law), sl_law⟩) (c_law : PySem.W.codeIn K cd_law "law" = true) (k_law : PySem.W.keepIn K (.ref f_law) = true)
    (g_RULES : PySem.W.nsIn K mainGlobals "RULES" = some (some (.int 0 t_RULES)))
    (g_CUSTOMS : PySem.W.nsIn K mainGlobals "CUSTOMS" = some (some (.int 1 t_CUSTOMS)))
    (g_HEIRS : PySem.W.nsIn K mainGlobals "HEIRS" = some (some (.int 2 t_HEIRS)))
    (g_TAKES : PySem.W.nsIn K mainGlobals "TAKES" = some (some (.int 3 t_TAKES)))
    (g_REACHES : PySem.W.nsIn K mainGlobals "REACHES" = some (some (.int 4 t_REACHES)))
    (z_len : PySem.W.nsIn K mainGlobals "len" = some none) (z_range : PySem.W.nsIn K mainGlobals "range" = some none) (z_sorted : PySem.W.nsIn K mainGlobals "sorted" = some none) (z_tuple : PySem.W.nsIn K mainGlobals "tuple" = some none) (z_list : PySem.W.nsIn K mainGlobals "list" = some none) (z_abs : PySem.W.nsIn K mainGlobals "abs" = some none) (z_isinstance : PySem.W.nsIn K mainGlobals "isinstance" = some none) (z_zip : PySem.W.nsIn K mainGlobals "zip" = some none) (z_all : PySem.W.nsIn K mainGlobals "all" = some none) (z_min : PySem.W.nsIn K mainGlobals "min" = some none) (z_max : PySem.W.nsIn K mainGlobals "max" = some none) (z_bool : PySem.W.nsIn K mainGlobals "bool" = some none) (z_str : PySem.W.nsIn K mainGlobals "str" = some none) (z_int : PySem.W.nsIn K mainGlobals "int" = some none) (z_set : PySem.W.nsIn K mainGlobals "set" = some none) (z_reversed : PySem.W.nsIn K mainGlobals "reversed" = some none) (z_enumerate : PySem.W.nsIn K mainGlobals "enumerate" = some none) :
    ∃ fd : FuncData, (∀ (s : Shared) (v : Value), BindsTo s fd ⟨[v], []⟩ [("_law_script", v)]) ∧ ∀ base : Heap, K.In base → base.Ns mainGlobals mg → FnOk l.prog w K mg base CX0 8 fa fd ["_law_script"] (spLaw K) := by
  have e := hfa.symm.trans (PySem.W.mg_of X G a_law)
  cases e
  have B : Bt mg := ⟨PySem.W.mg_none_of X G z_len, PySem.W.mg_none_of X G z_range, PySem.W.mg_none_of X G z_sorted, PySem.W.mg_none_of X G z_tuple, PySem.W.mg_none_of X G z_list, PySem.W.mg_none_of X G z_abs, PySem.W.mg_none_of X G z_isinstance, PySem.W.mg_none_of X G z_zip, PySem.W.mg_none_of X G z_all, PySem.W.mg_none_of X G z_min, PySem.W.mg_none_of X G z_max, PySem.W.mg_none_of X G z_bool, PySem.W.mg_none_of X G z_str, PySem.W.mg_none_of X G z_int, PySem.W.mg_none_of X G z_set, PySem.W.mg_none_of X G z_reversed, PySem.W.mg_none_of X G z_enumerate⟩
  have F_rule_at := fun_mk (st := st_rule_at) l_rule_at c_rule_at k_rule_at
  have D_rule_at : Df K mg "rule_at" st_rule_at _ _ ["lands", "land", "kind", "day"] := ⟨F_rule_at, PySem.W.mg_of X G a_rule_at, F_rule_at.binds (ps := ["lands", "land", "kind", "day"]) fun _ _ _ _ _ _ us hl => match us, hl with | [_, _, _, _], _ => rfl⟩
  have F_custom_at := fun_mk (st := st_custom_at) l_custom_at c_custom_at k_custom_at
  have D_custom_at : Df K mg "custom_at" st_custom_at _ _ ["lands", "land", "kind", "day"] := ⟨F_custom_at, PySem.W.mg_of X G a_custom_at, F_custom_at.binds (ps := ["lands", "land", "kind", "day"]) fun _ _ _ _ _ _ us hl => match us, hl with | [_, _, _, _], _ => rfl⟩
  have F_reach_at := fun_mk (st := st_reach_at) l_reach_at c_reach_at k_reach_at
  have D_reach_at : Df K mg "reach_at" st_reach_at _ _ ["lands", "land", "kind", "day"] := ⟨F_reach_at, PySem.W.mg_of X G a_reach_at, F_reach_at.binds (ps := ["lands", "land", "kind", "day"]) fun _ _ _ _ _ _ us hl => match us, hl with | [_, _, _, _], _ => rfl⟩
  have F_heirs_at := fun_mk (st := st_heirs_at) l_heirs_at c_heirs_at k_heirs_at
  have D_heirs_at : Df K mg "heirs_at" st_heirs_at _ _ ["lands", "land", "day"] := ⟨F_heirs_at, PySem.W.mg_of X G a_heirs_at, F_heirs_at.binds (ps := ["lands", "land", "day"]) fun _ _ _ _ _ _ us hl => match us, hl with | [_, _, _], _ => rfl⟩
  have F_take_at := fun_mk (st := st_take_at) l_take_at c_take_at k_take_at
  have D_take_at : Df K mg "take_at" st_take_at _ _ ["lands", "land", "other", "day"] := ⟨F_take_at, PySem.W.mg_of X G a_take_at, F_take_at.binds (ps := ["lands", "land", "other", "day"]) fun _ _ _ _ _ _ us hl => match us, hl with | [_, _, _, _], _ => rfl⟩
  have F_rows_of := fun_mk (st := st_rows_of) l_rows_of c_rows_of k_rows_of
  have D_rows_of : Df K mg "rows_of" st_rows_of _ _ ["lands", "land", "part"] := ⟨F_rows_of, PySem.W.mg_of X G a_rows_of, F_rows_of.binds (ps := ["lands", "land", "part"]) fun _ _ _ _ _ _ us hl => match us, hl with | [_, _, _], _ => rfl⟩
  have F_row_at := fun_mk (st := st_row_at) l_row_at c_row_at k_row_at
  have D_row_at : Df K mg "row_at" st_row_at _ _ ["rows", "key", "day"] := ⟨F_row_at, PySem.W.mg_of X G a_row_at, F_row_at.binds (ps := ["rows", "key", "day"]) fun _ _ _ _ _ _ us hl => match us, hl with | [_, _, _], _ => rfl⟩
  have F__law_deck := fun_mk (st := st__law_deck) l__law_deck c__law_deck k__law_deck
  have D__law_deck : Df K mg "_law_deck" st__law_deck _ _ ["_law_script"] := ⟨F__law_deck, PySem.W.mg_of X G a__law_deck, F__law_deck.binds (ps := ["_law_script"]) fun _ _ _ _ _ _ us hl => match us, hl with | [_], _ => rfl⟩
  have F__law_next := fun_mk (st := st__law_next) l__law_next c__law_next k__law_next
  have D__law_next : Df K mg "_law_next" st__law_next _ _ ["_law_deck_here"] := ⟨F__law_next, PySem.W.mg_of X G a__law_next, F__law_next.binds (ps := ["_law_deck_here"]) fun _ _ _ _ _ _ us hl => match us, hl with | [_], _ => rfl⟩
  have F__law_span := fun_mk (st := st__law_span) l__law_span c__law_span k__law_span
  have D__law_span : Df K mg "_law_span" st__law_span _ _ ["_law_deck_here"] := ⟨F__law_span, PySem.W.mg_of X G a__law_span, F__law_span.binds (ps := ["_law_deck_here"]) fun _ _ _ _ _ _ us hl => match us, hl with | [_], _ => rfl⟩
  have F__law_rules := fun_mk (st := st__law_rules) l__law_rules c__law_rules k__law_rules
  have D__law_rules : Df K mg "_law_rules" st__law_rules _ _ ["_law_deck_here", "_law_span_here"] := ⟨F__law_rules, PySem.W.mg_of X G a__law_rules, F__law_rules.binds (ps := ["_law_deck_here", "_law_span_here"]) fun _ _ _ _ _ _ us hl => match us, hl with | [_, _], _ => rfl⟩
  have F__law_saying := fun_mk (st := st__law_saying) l__law_saying c__law_saying k__law_saying
  have D__law_saying : Df K mg "_law_saying" st__law_saying _ _ ["_law_deck_here", "_law_kind", "_law_asks"] := ⟨F__law_saying, PySem.W.mg_of X G a__law_saying, F__law_saying.binds (ps := ["_law_deck_here", "_law_kind", "_law_asks"]) fun _ _ _ _ _ _ us hl => match us, hl with | [_, _, _], _ => rfl⟩
  have F__law_laws := fun_mk (st := st__law_laws) l__law_laws c__law_laws k__law_laws
  have D__law_laws : Df K mg "_law_laws" st__law_laws _ _ ["_law_deck_here", "_law_span_here", "_law_asks"] := ⟨F__law_laws, PySem.W.mg_of X G a__law_laws, F__law_laws.binds (ps := ["_law_deck_here", "_law_span_here", "_law_asks"]) fun _ _ _ _ _ _ us hl => match us, hl with | [_, _, _], _ => rfl⟩
  have F__law_in_force := fun_mk (st := st__law_in_force) l__law_in_force c__law_in_force k__law_in_force
  have D__law_in_force : Df K mg "_law_in_force" st__law_in_force _ _ ["_law_rows", "_law_begin", "_law_day"] := ⟨F__law_in_force, PySem.W.mg_of X G a__law_in_force, F__law_in_force.binds (ps := ["_law_rows", "_law_begin", "_law_day"]) fun _ _ _ _ _ _ us hl => match us, hl with | [_, _, _], _ => rfl⟩
  have F__law_heirs := fun_mk (st := st__law_heirs) l__law_heirs c__law_heirs k__law_heirs
  have D__law_heirs : Df K mg "_law_heirs" st__law_heirs _ _ ["_law_deck_here", "_law_span_here"] := ⟨F__law_heirs, PySem.W.mg_of X G a__law_heirs, F__law_heirs.binds (ps := ["_law_deck_here", "_law_span_here"]) fun _ _ _ _ _ _ us hl => match us, hl with | [_, _], _ => rfl⟩
  have F__law_takes := fun_mk (st := st__law_takes) l__law_takes c__law_takes k__law_takes
  have D__law_takes : Df K mg "_law_takes" st__law_takes _ _ ["_law_deck_here", "_law_land", "_law_many", "_law_span_here"] := ⟨F__law_takes, PySem.W.mg_of X G a__law_takes, F__law_takes.binds (ps := ["_law_deck_here", "_law_land", "_law_many", "_law_span_here"]) fun _ _ _ _ _ _ us hl => match us, hl with | [_, _, _, _], _ => rfl⟩
  have F__law_reaches := fun_mk (st := st__law_reaches) l__law_reaches c__law_reaches k__law_reaches
  have D__law_reaches : Df K mg "_law_reaches" st__law_reaches _ _ ["_law_deck_here", "_law_span_here"] := ⟨F__law_reaches, PySem.W.mg_of X G a__law_reaches, F__law_reaches.binds (ps := ["_law_deck_here", "_law_span_here"]) fun _ _ _ _ _ _ us hl => match us, hl with | [_, _], _ => rfl⟩
  have F__law_whole_lands := fun_mk (st := st__law_whole_lands) l__law_whole_lands c__law_whole_lands k__law_whole_lands
  have D__law_whole_lands : Df K mg "_law_whole_lands" st__law_whole_lands _ _ ["_law_deck_here", "_law_many", "_law_span_here", "_law_asks"] := ⟨F__law_whole_lands, PySem.W.mg_of X G a__law_whole_lands, F__law_whole_lands.binds (ps := ["_law_deck_here", "_law_many", "_law_span_here", "_law_asks"]) fun _ _ _ _ _ _ us hl => match us, hl with | [_, _, _, _], _ => rfl⟩
  have F__law_same := fun_mk (st := st__law_same) l__law_same c__law_same k__law_same
  have D__law_same : Df K mg "_law_same" st__law_same _ _ ["_law_found", "_law_due_here"] := ⟨F__law_same, PySem.W.mg_of X G a__law_same, F__law_same.binds (ps := ["_law_found", "_law_due_here"]) fun _ _ _ _ _ _ us hl => match us, hl with | [_, _], _ => rfl⟩
  have F__law_days := fun_mk (st := st__law_days) l__law_days c__law_days k__law_days
  have D__law_days : Df K mg "_law_days" st__law_days _ _ ["_law_deck_here", "_law_land", "_law_span_here"] := ⟨F__law_days, PySem.W.mg_of X G a__law_days, F__law_days.binds (ps := ["_law_deck_here", "_law_land", "_law_span_here"]) fun _ _ _ _ _ _ us hl => match us, hl with | [_, _, _], _ => rfl⟩
  have F__law_told := fun_mk (st := st__law_told) l__law_told c__law_told k__law_told
  have D__law_told : Df K mg "_law_told" st__law_told _ _ ["_law_lands", "_law_land", "_law_day"] := ⟨F__law_told, PySem.W.mg_of X G a__law_told, F__law_told.binds (ps := ["_law_lands", "_law_land", "_law_day"]) fun _ _ _ _ _ _ us hl => match us, hl with | [_, _, _], _ => rfl⟩
  have F__law_due := fun_mk (st := st__law_due) l__law_due c__law_due k__law_due
  have D__law_due : Df K mg "_law_due" st__law_due _ _ ["_law_lands", "_law_land", "_law_day"] := ⟨F__law_due, PySem.W.mg_of X G a__law_due, F__law_due.binds (ps := ["_law_lands", "_law_land", "_law_day"]) fun _ _ _ _ _ _ us hl => match us, hl with | [_, _, _], _ => rfl⟩
  have F_law := fun_mk (st := st_law) l_law c_law k_law
  have D_law : Df K mg "law" st_law _ _ ["_law_script"] := ⟨F_law, PySem.W.mg_of X G a_law, F_law.binds (ps := ["_law_script"]) fun _ _ _ _ _ _ us hl => match us, hl with | [_], _ => rfl⟩
  have C_RULES := PySem.W.mg_of X G g_RULES
  have C_CUSTOMS := PySem.W.mg_of X G g_CUSTOMS
  have C_HEIRS := PySem.W.mg_of X G g_HEIRS
  have C_TAKES := PySem.W.mg_of X G g_TAKES
  have C_REACHES := PySem.W.mg_of X G g_REACHES
  refine ⟨PySem.W.fnOf "law" "law" (defArgs st_law) (defBody st_law) (defScope st_law) .none kV_law dc_law pm_law an_law cd_law ct_law, fun s v => .of_eq rfl, fun base _ _ => ?_⟩
  have G_next := ok_next (P := l.prog) (w := w) (base := base) B D__law_next
  have G_say := ok_saying (P := l.prog) (w := w) (base := base) B D__law_saying D__law_next G_next 2
  have G_rules := ok_rules (P := l.prog) (w := w) (base := base) B D__law_rules D__law_next G_next
  have G_laws := ok_laws (P := l.prog) (w := w) (base := base) 1 (by decide) B D__law_laws D__law_next D__law_saying G_next G_say
  have G_heirs := ok_heirs (P := l.prog) (w := w) (base := base) B D__law_heirs D__law_next G_next
  have G_takes := ok_takes (P := l.prog) (w := w) (base := base) B D__law_takes D__law_next G_next
  have G_reaches := ok_reaches (P := l.prog) (w := w) (base := base) B D__law_reaches D__law_next G_next
  have G_row := ok_row_at (P := l.prog) (w := w) (base := base) D_row_at
  have G_rows := ok_rows_of (P := l.prog) (w := w) (base := base) B D_rows_of
  have G_ra := ok_rule_at (P := l.prog) (w := w) (base := base) D_rule_at D_row_at D_rows_of G_row G_rows C_RULES
  have G_ca := ok_custom_at (P := l.prog) (w := w) (base := base) D_custom_at D_row_at D_rows_of G_row G_rows C_CUSTOMS
  have G_ea := ok_reach_at (P := l.prog) (w := w) (base := base) D_reach_at D_row_at D_rows_of G_row G_rows C_REACHES
  have G_ta := ok_take_at (P := l.prog) (w := w) (base := base) D_take_at D_row_at D_rows_of G_row G_rows C_TAKES
  have G_ha := ok_heirs_at (P := l.prog) (w := w) (base := base) D_heirs_at D_rows_of G_rows C_HEIRS
  have G_force := ok_in_force (P := l.prog) (w := w) (base := base) B D__law_in_force
  have G_told := ok_told (P := l.prog) (w := w) (base := base) B D__law_told D_heirs_at D_rule_at D_custom_at D_reach_at D_take_at G_ha G_ra G_ca G_ea G_ta
  have G_due := ok_due (P := l.prog) (w := w) (base := base) B D__law_due D__law_in_force G_force
  exact ok_law B D_law D__law_deck D__law_next D__law_span D__law_whole_lands D__law_days D__law_same D__law_told D__law_due (ok_deck B D__law_deck) G_next (ok_span B D__law_span D__law_next G_next)
    (ok_whole B D__law_whole_lands D__law_rules D__law_laws D__law_heirs D__law_takes D__law_reaches G_rules G_laws G_heirs G_takes G_reaches) (ok_days B D__law_days D__law_next G_next) (ok_same B D__law_same 6) G_told G_due
end WL
open PySem PySem.W PyProof.Rows
set_option maxHeartbeats 0 in
theorem PySem.Challenge.cw_whoselaw_k01_rows_in_force_holds : PySem.Challenge.rw_whoselaw_k01_rows_in_force.Holds := by
  w_on; o_law; k_head; (case hw => w_witness2)
  k_fill
  refine L2.walk_of (l := PySem.Challenge.rw_whoselaw_k01_rows_in_force) (n := 63) (k := 8) (x := "_law_script") (CX := fun _ => L2.CX0) (sp := fun w => WL.spLaw _) rfl (by decide) rfl ⟨rfl, by decide, by decide⟩ (fun w h Y => PySem.W.kIn_of Y) ?F (fun _ _ a ns hl _ hS => ⟨a, ns, rfl, hS, hl, fun _ => rfl⟩) (fun _ _ _ _ _ h => h)
  case F =>
    intro w mg fa h KX G hmg
    refine' WL.all_mk KX G hmg ?a_rule_at ?l_rule_at ?c_rule_at ?k_rule_at ?a_custom_at ?l_custom_at ?c_custom_at ?k_custom_at ?a_reach_at ?l_reach_at ?c_reach_at ?k_reach_at ?a_heirs_at ?l_heirs_at ?c_heirs_at ?k_heirs_at ?a_take_at ?l_take_at ?c_take_at ?k_take_at ?a_rows_of ?l_rows_of ?c_rows_of ?k_rows_of ?a_row_at ?l_row_at ?c_row_at ?k_row_at ?a__law_deck ?l__law_deck ?c__law_deck ?k__law_deck ?a__law_next ?l__law_next ?c__law_next ?k__law_next ?a__law_span ?l__law_span ?c__law_span ?k__law_span ?a__law_rules ?l__law_rules ?c__law_rules ?k__law_rules ?a__law_saying ?l__law_saying ?c__law_saying ?k__law_saying ?a__law_laws ?l__law_laws ?c__law_laws ?k__law_laws ?a__law_in_force ?l__law_in_force ?c__law_in_force ?k__law_in_force ?a__law_heirs ?l__law_heirs ?c__law_heirs ?k__law_heirs ?a__law_takes ?l__law_takes ?c__law_takes ?k__law_takes ?a__law_reaches ?l__law_reaches ?c__law_reaches ?k__law_reaches ?a__law_whole_lands ?l__law_whole_lands ?c__law_whole_lands ?k__law_whole_lands ?a__law_same ?l__law_same ?c__law_same ?k__law_same ?a__law_days ?l__law_days ?c__law_days ?k__law_days ?a__law_told ?l__law_told ?c__law_told ?k__law_told ?a__law_due ?l__law_due ?c__law_due ?k__law_due ?a_law ?l_law ?c_law ?k_law ?g_RULES ?g_CUSTOMS ?g_HEIRS ?g_TAKES ?g_REACHES ?z_len ?z_range ?z_sorted ?z_tuple ?z_list ?z_abs ?z_isinstance ?z_zip ?z_all ?z_min ?z_max ?z_bool ?z_str ?z_int ?z_set ?z_reversed ?z_enumerate
    (case a_rule_at => k_is); (case l_rule_at => k_is); (case c_rule_at => k_is); (case k_rule_at => k_is); (case a_custom_at => k_is); (case l_custom_at => k_is); (case c_custom_at => k_is); (case k_custom_at => k_is); (case a_reach_at => k_is); (case l_reach_at => k_is); (case c_reach_at => k_is); (case k_reach_at => k_is); (case a_heirs_at => k_is); (case l_heirs_at => k_is); (case c_heirs_at => k_is); (case k_heirs_at => k_is); (case a_take_at => k_is); (case l_take_at => k_is); (case c_take_at => k_is); (case k_take_at => k_is); (case a_rows_of => k_is); (case l_rows_of => k_is); (case c_rows_of => k_is); (case k_rows_of => k_is); (case a_row_at => k_is); (case l_row_at => k_is); (case c_row_at => k_is); (case k_row_at => k_is); (case a__law_deck => k_is); (case l__law_deck => k_is); (case c__law_deck => k_is); (case k__law_deck => k_is); (case a__law_next => k_is); (case l__law_next => k_is); (case c__law_next => k_is); (case k__law_next => k_is); (case a__law_span => k_is); (case l__law_span => k_is); (case c__law_span => k_is); (case k__law_span => k_is); (case a__law_rules => k_is); (case l__law_rules => k_is); (case c__law_rules => k_is); (case k__law_rules => k_is); (case a__law_saying => k_is); (case l__law_saying => k_is); (case c__law_saying => k_is); (case k__law_saying => k_is); (case a__law_laws => k_is); (case l__law_laws => k_is); (case c__law_laws => k_is); (case k__law_laws => k_is); (case a__law_in_force => k_is); (case l__law_in_force => k_is); (case c__law_in_force => k_is); (case k__law_in_force => k_is); (case a__law_heirs => k_is); (case l__law_heirs => k_is); (case c__law_heirs => k_is); (case k__law_heirs => k_is); (case a__law_takes => k_is); (case l__law_takes => k_is); (case c__law_takes => k_is); (case k__law_takes => k_is); (case a__law_reaches => k_is); (case l__law_reaches => k_is); (case c__law_reaches => k_is); (case k__law_reaches => k_is); (case a__law_whole_lands => k_is); (case l__law_whole_lands => k_is); (case c__law_whole_lands => k_is); (case k__law_whole_lands => k_is); (case a__law_same => k_is); (case l__law_same => k_is); (case c__law_same => k_is); (case k__law_same => k_is); (case a__law_days => k_is); (case l__law_days => k_is); (case c__law_days => k_is); (case k__law_days => k_is); (case a__law_told => k_is); (case l__law_told => k_is); (case c__law_told => k_is); (case k__law_told => k_is); (case a__law_due => k_is); (case l__law_due => k_is); (case c__law_due => k_is); (case k__law_due => k_is); (case a_law => k_is); (case l_law => k_is); (case c_law => k_is); (case k_law => k_is); (case g_RULES => k_is); (case g_CUSTOMS => k_is); (case g_HEIRS => k_is); (case g_TAKES => k_is); (case g_REACHES => k_is); (case z_len => k_is); (case z_range => k_is); (case z_sorted => k_is); (case z_tuple => k_is); (case z_list => k_is); (case z_abs => k_is); (case z_isinstance => k_is); (case z_zip => k_is); (case z_all => k_is); (case z_min => k_is); (case z_max => k_is); (case z_bool => k_is); (case z_str => k_is); (case z_int => k_is); (case z_set => k_is); (case z_reversed => k_is); (case z_enumerate => k_is)
